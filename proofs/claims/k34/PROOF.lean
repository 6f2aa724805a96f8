import PyProof.Rows.All
import Wide.All
import OpenK.AllK
import Wide.FinOn
import Lean
import PyProof.EqAt
import PyProof.EqKinds
import PyProof.TupleCall
import PyProof.NeKinds
import PyProof.SumWalkG
import PyProof.Rows.CallKwBuiltin
import PyProof.Rows.FStr
import PyProof.ListRange
import PyProof.ZipIter
import PyProof.CompFree
import KE.KIntText
import PyProof.StrWalks
import PyProof.Rows.StrMul
import PyProof.ConsumeWalk
import Wide.Txt
import PySem.Challenge.RW_beltshares_k34_whole_shares_for_ever
open PySem.W (instObj methodObj lookIn plainGet hasDictIn findIn handedIn plainGet_of isFn plainOver takerIn any_some makesIn typeIn emptyDict looks_findIn keepIn specialIn takesIn mroIn fnOf codeIn callWith_K methodCall_KW kitOne excIn kitCls subIn nsIn mg_of readsIn findCls binds_K mg_none_of)
set_option Elab.async false
set_option linter.all false
set_option maxRecDepth 100000
set_option compiler.extract_closed false
set_option bootstrap.genMatcherCode false
set_option hygiene false
local macro_rules | `(tactic| walk_at "p")=>`(tactic| first|exact Or.inl rfl|exact Or.inr rfl|assumption)
local macro_rules | `(tactic| walk_at "q")=>`(tactic| first|exact L2.nobehind _ (by decide) (by decide)|rfl)
set_option hygiene true
open List (nodup_append getElem_mem of_mem_zip range_succ nodup_nil any_cons map_nil)
def aa:=@List.getElem?_eq_some_iff
def ac:=@List.getElem?_eq_getElem
def ad:=@PySem.wpAny_bind
def ae:=@List.getD_eq_getElem?_getD
def af:=@List.length_map
def ah:=@List.mem_of_getElem?
def ai:=@PySem.Heap.get?_push_of_some
def aj:=@List.getElem?_map
def am:=@if_neg
def ao:=@PySem.F.plainAttrs_list
def ap:=@if_pos
def aq:=@Nat.le_refl
def ar:=@List.mem_singleton
def au:=@Option.map_eq_some_iff
def av:=@List.size_toArray
def aw:=@List.mem_cons
def ax:=@PySem.F.type_list_append
def ay:=@PySem.F.slot_list_append
def az:=@PySem.Heap.lt_size
def aA:=@Bool.false_ne_true
def aB:=@List.mem_cons_of_mem
def aC:=@PySem.wpAny_pure
def aD:=@PySem.Heap.get?_push_size
def aE:=@Int.toNat_natCast
def aF:=@List.mem_append
def aG:=@Int.emod_lt_of_pos
def aH:=@Int.emod_nonneg
def aI:=@Nat.lt_of_lt_of_le
def aJ:=@List.getElem?_append_right
def aK:=@Nat.ne_of_lt
def aM:=@List.length_append
def aN:=@Option.some.inj
def aO:=@List.take_add_one
def aP:=@List.Perm.refl
def aQ:=@List.take_length
def aR:=@List.length_take
def aS:=@Option.getD_some
def aT:=@List.getElem?_append_left
def aU:=@PySem.wpAny_mono
def aV:=@decide_eq_false
def aW:=@Ne.symm
def aX:=@List.mem_append_right
def aY:=@List.getElem?_set_self
def aZ:=@PyProof.Rows.callWith_type1
def a7:=@beq_eq_false_iff_ne
def a8:=@List.length_replicate
def a9:=@PySem.Heap.get?_update_other
def ba:=@Nat.le_trans
def bc:=@List.mem_map
def bd:=@List.map_append
def be:=@Int.natAbs_natCast
def bg:=@PySem.wpAny_field
def bh:=@PySem.Obj.data_mapFields
def bj:=@List.getElem?_of_mem
def bn:=@Nat.le_of_lt
def bp:=@decide_eq_true
def br:=@PySem.Heap.get?_update_self
def bt:=@List.getElem?_eq_none
def bu:=@PySem.wpAny_Call_Name_kw
def bw:=@List.length_eq_zero_iff
def bx:=@beq_iff_eq
def bz:=@List.length_cons
def bA:=@List.getLastD_eq_getLast?
def bB:=@PySem.wpAny_seqItems
def bD:=@PySem.mem_of_lookup
def bE:=@PySem.Heap.size_push
def bF:=@List.mem_append_left
def bH:=@List.getElem?_set_ne
def bI:=@Int.natCast_nonneg
def bJ:=@Array.getElem?_eq_some_iff
def bK:=@List.append_assoc
def bL:=@List.Perm.append_left
def bM:=@List.map_cons
def bN:=@List.length_set
def bO:=@of_decide_eq_true
def bP:=@congrArg
def bQ:=@Nat.zero_le
def bR:=@Int.le_refl
def bS:=@Option.bind_eq_some_iff
def bT:=@List.mem_cons_self
def bU:=@List.append_nil
def bV:=@PySem.W.mg_none_of
def bW:=@Nat.lt_of_le_of_lt
def bX:=@List.take_zero
def bY:=@Int.ediv_nonneg
def bZ:=@List.not_mem_nil
def b5:=@PySem.wpAny_setField_rec
def b7:=@PySem.wpAny_passesOwn
def b8:=@Nat.le_succ
def b9:=@PySem.Obj.isFreed_of_fields
def cf:=@Int.toNat_of_nonneg
def cg:=@PySem.W.mg_of
def ci:=@PySem.F.type_list_extend
def cj:=@PySem.F.slot_list_extend
def ck:=@PySem.F.slot_tuple_iterator_next
def cm:=@Option.map_some
def cn:=@List.mem_filter
def cr:=@List.mem_replicate
def cu:=@Bool.false_eq_true
def cv:=@PySem.Paired.length
def cx:=@Nat.ne_of_gt
def cy:=@List.Perm.append_right
def cz:=@Bool.and_false
def cA:=@List.lookup_cons
def cB:=@PySem.SeqAt.EqAt.of_refs
def cD:=@PySem.wpAny_callSpecial?_slot
def cE:=@Int.natAbs_dvd_natAbs
def cF:=@Array.getElem?_toList
def cG:=@List.take_of_length_le
def cH:=@List.replicate_succ
def cI:=@Nat.lt_irrefl
def cJ:=@PySem.wpAny_truthy_bool
def cK:=@or_false
def cM:=@PySem.SeqAt.RcAt.tuples
def cO:=@List.exists_cons_of_ne_nil
def cP:=@List.perm_append_comm
def cQ:=@List.length_singleton
def cR:=@List.length_nil
def cS:=@List.find?_cons
def cT:=@Array.length_toList
def cU:=@Int.zero_add
def cV:=@Int.le_of_lt
def cW:=@Nat.mod_lt
def cX:=@List.pairwise_cons
def cY:=@Int.fdiv_eq_ediv_of_nonneg
def cZ:=@PySem.wpAny_execs_nil
def c7:=@List.set_eq_of_length_le
def c8:=@List.getElem?_eq_none_iff
def c9:=@Classical.byContradiction
def da:=@decide_eq_true_eq
def db:=@Option.some.injEq
def dc:=@Option.isSome_map
def de:=@PySem.codeAny_mono
def dg:=@List.getElem?_replicate
def dh:=@PySem.wpAny_setField
def di:=@Nat.le_add_right
def dj:=@List.all_eq_true
def dl:=@Int.natCast_emod
def dm:=@Bool.and_eq_true
def dn:=@List.length_drop
def dq:=@PySem.W.callWith_K
def dr:=@Int.mul_comm
def du:=@PySem.wpAny_newObj_type
def dA:=@List.nodup_cons
def dB:=@Int.natCast_mul
def dC:=@Bool.eq_iff_iff
def dD:=@PySem.wpAny_holding
def dE:=@PySem.SeqAt.RcAt.lists_lengths
def dF:=@PySem.F.type_list_pop
def dG:=@PySem.F.slot_list_pop
def dH:=@List.getElem?_zipWith
def dI:=@PySem.wpAny_call_entry
def dJ:=@PySem.W.methodCall_KW
def dL:=@if_false
def dM:=@List.mem_range
def dN:=@List.map_set
def dO:=@List.flatten_cons
def dP:=@List.length_pos_iff
def dQ:=@PySem.wpAny_specialOf
def dR:=@PySem.wpAny_ite_split
def dS:=@PySem.SeqAt.EqAt.same
def dU:=@PySem.F.slot_zip_next
def dW:=@Nat.eq_zero_or_pos
def dX:=@List.mem_filterMap
def dY:=@Int.mul_nonpos_of_nonneg_of_nonpos
def dZ:=@List.length_reverse
def d5:=@PySem.wpAny_updateSeq_pair
def d7:=@if_true
def d8:=@Nat.lt_trichotomy
def d9:=@Nat.lt_trans
def ee:=@Int.sub_self
def ef:=@Int.gcd_dvd_right
def eu:=@Int.add_emod
def eB:=@Function.comp_def
def eC:=@Option.getD_none
def eD:=@Nat.lt_succ_self
def eE:=@PySem.wpAny_onRaise
def eI:=@PySem.tupleKind_room_in1
def eJ:=@PySem.call_meets
def eK:=@Nat.min_le_left
def eM:=@List.map_map
def eP:=@Option.map_map
def eQ:=@List.getElem?_reverse
def eR:=@PySem.F.slot_dict_getitem
def eT:=@Nat.eq_of_mul_eq_mul_left
def eU:=@List.ne_nil_of_length_pos
def eV:=@List.getLast?_eq_getElem?
def eX:=@Array.getElem?_eq_getElem
def eY:=@PySem.wpAny_isInstance
def eZ:=@PySem.wpAny_execs_cons
def e6:=@PySem.SeqAt.RcAt.lists
def fe:=@Option.isSome_iff_exists
def ff:=@Bool.not_true
def fh:=@Bool.and_true
def fi:=@PySem.Around.in1_units
def fj:=@PySem.wpAny_letGo
def fk:=@PySem.sizeLine_eq
def fo:=@PySem.seqIndex_of
def fq:=@PySem.W.cellsFrom_some
def ft:=@PyProof.noPylong_small
def fu:=@Nat.succ_mul
def fv:=@Nat.sub_self
def fz:=@Nat.min_self
def fA:=@PySem.F.args_tuple_iterator_next_1
def fB:=@List.length_zipWith
def fC:=@List.getElem?_range
def fD:=@List.forIn_cons
def fE:=@List.flatMap_append
def fF:=@List.filterMap_cons
def fG:=@List.take_append_drop
def fH:=@PySem.F.entry_tuple_iterator_next
def fI:=@PySem.wpAny_call
def fJ:=@Nat.pow_lt_pow_right
def fK:=@Int.emod_emod_of_dvd
def fM:=@Decidable.of_not_not
def fN:=@PySem.Calls.Name_function_global
def fO:=@PySem.W.binds_K
def fP:=@PySem.intBits_le_64
def fQ:=@PySem.W.pyHash_slot
def fR:=@PySem.W.looks_subIn
def fS:=@PySem.W.callWith_K0
def fT:=@Nat.add_le_add_left
def fU:=@List.toList_toArray
def fV:=@List.map_congr_left
def fW:=@PySem.wpAny_standAt
def fX:=@PySem.wpAny_comprehension_free
def fY:=@PySem.wpAny_attempt
def fZ:=@List.take_succ
def f9:=@PySem.W.any_some
def gf:=@Option.toList_some
def gg:=@Int.lt_of_lt_of_le
def gk:=@Array.forIn_toList
def gm:=@Array.append_assoc
abbrev A0:=PySem.W.Frag
abbrev A1:=List (Int × Int)
abbrev A2:=List (PySem.Addr × PySem.Obj)
abbrev A3:=PySem.Value->PySem.Shared->Prop
abbrev A4:=PySem.Str->Option PySem.Value
abbrev A5:=PySem.Addr->Prop
abbrev A6:=List Int
abbrev A7:=List PySem.Value
abbrev A8:=List PySem.Str
abbrev A9:=Option Int
abbrev Aa:=Option PySem.Addr
abbrev Ab:=List PySem.Addr
abbrev Ac:=Array PySem.Value
abbrev Ae:=Array (Option PySem.Value)
abbrev Af:=PySem.Program
abbrev Ag:=Unit->PySem.Shared->Prop
abbrev Ah:=Int × Int->Int × Int->Prop
abbrev Ai:=List Bool
abbrev Aj:=List Nat
abbrev Ak:=Option Nat × Option Nat × Nat
abbrev Al:=PySem.Value->PySem.Value->PySem.Sem PySem.Value
abbrev Am:=PySem.Value
abbrev An:=PySem.Shared
abbrev Ao:=PySem.Around
namespace L2
open PySem PySem.Spec PyProof.Rows
variable {A:Ao} {s:An} {K:A0} {m5:A2} {w:World} {P:Af} {x:Str} {E Q:A3} {u:Am} {us:A7} {k t' i:Nat} {b C:Addr} {M:Model} {mg:A4} {base:Heap} {pos:Pos} {op:CmpOp} {f:Al} {tg:Expr} {fd:FuncData}
abbrev Key:=Sum Int Str
noncomputable def WE:Key->Value->Bool
 | .inl k,v=>Value.isInt k v
 | .inr x,v=>Value.isStrOf x v
noncomputable def zi0 (w:World):Key->Int
 | .inl k=>hashInt k
 | .inr x=>hashStr w x
theorem qD:∀ {k:Key} {v:Am},WE k v=true->(∃ i t,k=Sum.inl i/\v=Value.int i t)\/(∃ x t,k=Sum.inr x/\v=Value.str x t)
 | .inl i,v,h=>by
  obtain ⟨t,e⟩:=Value.isInt_shape (k:=i) (v:=v) h;exact .inl ⟨i,t,rfl,e⟩
 | .inr x,v,h=>by
  obtain ⟨t,e⟩:=Value.isStrOf_shape (x:=x) (v:=v) h;exact .inr ⟨x,t,rfl,e⟩
def zdP (i:Int) (t:Tok):WE (.inl i) (.int i t)=true:=by simp [WE,Value.isInt]
def zdO (x:Str) (t:Tok):WE (.inr x) (.str x t)=true:=by simp [WE,Value.isStrOf]
def zhE (a b:Int):decide ((Sum.inl a:Key)=Sum.inl b)=(a == b):=by
 by_cases e:a=b
 ·subst e;simp
 ·have h:¬ (Sum.inl a:Key)=Sum.inl b:=λ q=>e (Sum.inl.inj q);rw [aV h];exact (a7.mpr e).symm
def zhB (a b:Str):decide ((Sum.inr a:Key)=Sum.inr b)=decide (a=b):=by
 by_cases e:a=b
 ·subst e;simp
 ·have h:¬ (Sum.inr a:Key)=Sum.inr b:=λ q=>e (Sum.inr.inj q);rw [aV h,aV e]
def zhD (a:Int) (b:Str):decide ((Sum.inl a:Key)=Sum.inr b)=false:=aV (λ q=>nomatch q)
def zhC (a:Str) (b:Int):decide ((Sum.inr a:Key)=Sum.inl b)=false:=aV (λ q=>nomatch q)
noncomputable def qW (prog:Af) (w:World):PySem.KeyKind prog w Key where
 is:=WE
 hash:=zi0 w
 inj:=λ v a b ha hb=>by
  rcases qD ha with ⟨i,t,rfl,rfl⟩|⟨x,t,rfl,rfl⟩
  ·rcases qD hb with ⟨j,u,rfl,e⟩|⟨y,u,rfl,e⟩
   ·injection e with e1 _;rw [e1]
   ·exact nomatch e
  ·rcases qD hb with ⟨j,u,rfl,e⟩|⟨y,u,rfl,e⟩
   ·exact nomatch e
   ·injection e with e1 _;rw [e1]
 byValue:=λ k v h=>by
  rcases qD h with ⟨i,t,rfl,rfl⟩|⟨x,t,rfl,rfl⟩ <;> rfl
 pyHash:=λ hv h=>by
  rcases qD hv with ⟨i,t,rfl,rfl⟩|⟨x,t,rfl,rfl⟩
  ·exact wpAny_pyHash_int h
  ·exact wpAny_pyHash_str h
 eqBool:=λ hu hv h=>by
  rcases qD hu with ⟨i,t,rfl,rfl⟩|⟨x,t,rfl,rfl⟩
  ·rcases qD hv with ⟨j,u,rfl,rfl⟩|⟨y,u,rfl,rfl⟩
   ·rw [zhE] at h;exact wpAny_eqBool_int h
   ·rw [zhD] at h;exact SeqAt.EqAt.int_str i t y u _ _ _ _ h
  ·rcases qD hv with ⟨j,u,rfl,rfl⟩|⟨y,u,rfl,rfl⟩
   ·rw [zhC] at h;exact SeqAt.EqAt.str_int x t j u _ _ _ _ h
   ·rw [zhB] at h;exact wpAny_eqBool_str h
 «strs»:=λ k x t v h=>by
  rcases qD h with ⟨i,u,rfl,e⟩|⟨y,u,rfl,e⟩
  ·exact nomatch e
  ·injection e with e1 _
   subst e1;cases v <;> rfl
def zaO (prog:Af) (w:World) (i:Int) (t:Tok):(qW prog w).is (.inl i) (.int i t)=true:=zdP i t
def zaN (prog:Af) (w:World) (x:Str) (t:Tok):(qW prog w).is (.inr x) (.str x t)=true:=zdO x t
inductive V where
 | non|bl (b:Bool)|int (i:Int)|str (x:Str)|byt (b:Array UInt8)|flt (b:UInt64)|ref (a:Addr)|ty (n:String)
 deriving DecidableEq
abbrev As:=List (List Key × V)
abbrev Ar:=List (Str × V)
abbrev Aq:=Option V
abbrev Ap:=List V
def RelV:V->Value->Prop
 | .non,u=>u=Value.none
 | .bl b,u=>u=Value.bool b
 | .int i,u=>∃ t,u=Value.int i t
 | .str x,u=>∃ t,u=Value.str x t
 | .byt b,u=>∃ t,u=Value.bytes b t
 | .flt b,u=>∃ t,u=Value.float b t
 | .ref a,u=>u=Value.ref a
 | .ty n,u=>u=Value.type n
abbrev Vals:List V->List Value->Prop:=Paired RelV
def Vals.length {xs:Ap} (r:Vals xs us):xs.length=us.length:=cv r
theorem Vals.get:∀ {xs:Ap} {us:A7} {i:Nat} {x:V},Vals xs us->xs[i]?=some x->∃ u,us[i]?=some u/\RelV x u
 | _,_,_,_,.nil,e=>by simp at e
 | _,_,0,_,.cons r _,e=>by simp at e;subst e;exact ⟨_,rfl,r⟩
 | _,_,i + 1,x,.cons _ t,e=>by
  obtain ⟨u,h1,h2⟩:=Vals.get (i:=i) (x:=x) t (by simpa using e);exact ⟨u,by simpa using h1,h2⟩
theorem Vals.set {x:V} {u:Am} (r:RelV x u):∀ {xs:Ap} {us:A7} (i:Nat),Vals xs us->Vals (xs.set i x) (us.set i u)
 | _,_,_,.nil=>.nil
 | _,_,0,.cons _ t=>.cons r t
 | _,_,i + 1,.cons q t=>.cons q (Vals.set r i t)
theorem Vals.append:∀ {xs ys:Ap} {us ws:A7},Vals xs us->Vals ys ws->Vals (xs ++ ys) (us ++ ws)
 | _,_,_,_,.nil,s=>s
 | _,_,_,_,.cons r t,s=>.cons r (Vals.append t s)
theorem Vals.take:∀ {xs:Ap} {us:A7} (n:Nat),Vals xs us->Vals (xs.take n) (us.take n)
 | _,_,0,_=>.nil
 | _,_,_ + 1,.nil=>.nil
 | _,_,n + 1,.cons r t=>.cons r (Vals.take n t)
theorem Vals.drop:∀ {xs:Ap} {us:A7} (n:Nat),Vals xs us->Vals (xs.drop n) (us.drop n)
 | _,_,0,r=>r
 | _,_,_ + 1,.nil=>.nil
 | _,_,n + 1,.cons _ t=>Vals.drop n t
def Vals.none_of:∀ {xs:Ap} {us:A7} {i:Nat},Vals xs us->xs[i]?=none->us[i]?=none:=λ {xs us i} r e=>by
 have h1:=r.length;have h2:xs.length<=i:=c8.mp e;exact c8.mpr (by omega)
def RelO:Option V->Option Value->Prop
 | some v,some u=>RelV v u
 | none,none=>True
 | _,_=>False
def KV {κ:Type}:List (κ × V)->List (κ × Value)->Prop:=Paired λ (p:κ × V) (q:κ × Value)=>p.1=q.1/\RelV p.2 q.2
noncomputable def kV:Key->V
 | .inl i=>.int i
 | .inr x=>.str x
inductive HO where
 | lst (xs:Ap)
 | tup (xs:Ap)
 | dK (mW:List (Key × V))|dT (mW:As)
 | set (S:Int->Bool) (n:Nat)
 | ins (C dx:Addr) (fs:Ar)
 | own (x:Addr)
 | xd (fs:Ar)
 | met (f x:Addr)
 | rng (lo hi:Int)
 | frz (o:Obj) (u:HO)
 | tbl (ps:Ac)
 | ext (φ:Heap->Prop)
variable {o:HO}
abbrev Hp:=Addr->Option HO
variable {H:Hp}
noncomputable def upd (H:Hp) (a:Addr) (o:HO):Hp:=λ b=>if b=a then some o else H b
def upd_same {a:Addr}:upd H a o a=some o:=by unfold upd;rw [ap rfl]
def nk:=@upd_same
def upd_ne {a b:Addr} (h:b≠a):upd H a o b=H b:=by unfold upd;rw [am h]
def nz:=@upd_ne
def vY {a:Addr} {o u:HO}:upd (upd H a o) a u=upd H a u:=by
 funext b;unfold upd;split <;> rfl
def Z9 {a b:Addr} {o u:HO} (h:H a=some o) (h':H b=some u) (d:o≠u):a≠b:=by
 intro e;subst e;rw [h] at h';exact d (aN h')
def ne_of_none {a b:Addr} (h:H a=some o) (h':H b=none):a≠b:=by
 intro e;subst e;rw [h] at h';cases h'
def nA:=@ne_of_none
section
variable (P:Af) (w:World)
def ObjOk (H:Hp) (h:Heap) (a:Addr):HO->Prop
 | .lst xs=>xs.length<=sizeLine/\∃ (mX:A7) (n:Nat),Vals xs mX/\h.get? a=some { cls:=.type "list",data:=.seq mX.toArray n }
 | .tup xs=>xs.length<=sizeLine/\∃ mX:List Value,Vals xs mX/\IsTup h a mX.toArray
 | .dK mW=>mW.length<=sizeLine/\(a == sysModules)=false/\∃ vs,KV mW vs/\h.DictOf (qW P w) a vs
 | .dT mW=>mW.length<=sizeLine/\(a == sysModules)=false/\∃ xs:List (List Key × Addr × Value),
   Paired (λ (p:List Key × V) (q:List Key × Addr × Value)=>p.1=q.1/\H q.2.1=some (.tup (p.1.map kV))/\RelV p.2 q.2.2) mW xs /\
   ∃ o es ep,h.get? a=some o/\o.ExactDict/\o.data=.dict es ep/\es.toList=xs.map (entryOfKey (tupleKind (qW P w)))/\(xs.map (·.1)).Nodup
 | .set S n=>h.SetOf (intKind P w) a S n
 | .ins C dx fs=>H dx=some (.own a)/\fs.length<=1000/\dx≠a/\h.get? a=some (instObj C dx) /\
   ∃ mA,h.Ns1 dx mA/\(∀ f,RelO (fs.lookup f) (mA f))/\PySem.Within mA (fs.map (·.1))
 | .own _=>∃ o,h.get? a=some o
 | .xd fs=>∃ mA,h.Ns1 a mA/\∀ f,RelO (fs.lookup f) (mA f)
 | .rng lo hi=>∃ t u v,h.get? a=some { cls:=.type "range",data:=.fields #[.int lo t,.int hi u,.int 1 v] }
 | .frz o u=>h.get? a=some o/\ObjOk H h a u
 | .tbl ps=>h.get? a=some { cls:=.none,data:=.fields ps }
 | .met f x=>h.get? a=some (methodObj (.ref f) (.ref x))
 | .ext φ=>φ h/\(∃ o,h.get? a=some o)/\∀ h1 h2:Heap,φ h1->(∀ o,h1.get? a=some o->h2.get? a=some o)->φ h2
def HOk (H:Hp) (h:Heap):Prop:=∀ a o,H a=some o->ObjOk P w H h a o
end
section
variable {P:Af} {w:World} {H H':Hp} {h h':Heap} {a:Addr} {o:HO}
def ObjOk.lt (x:ObjOk P w H h a o):a < h.objs.size:=by
 cases o with
 | lst xs=>obtain ⟨_,_,_,_,e⟩:=x;exact az e
 | tup xs=>obtain ⟨_,_,_,p⟩:=x;exact p.lt
 | dK mW=>obtain ⟨_,_,_,_,o,_,_,e,_⟩:=x;exact az e
 | dT mW=>obtain ⟨_,_,_,_,o,_,_,e,_⟩:=x;exact az e
 | set S n=>obtain ⟨o,_,_,_,e,_⟩:=x;exact az e
 | ins C dx fs=>obtain ⟨_,_,_,e,_⟩:=x;exact az e
 | own y=>obtain ⟨_,e⟩:=x;exact az e
 | xd fs=>obtain ⟨_,⟨_,_,_,e,_⟩,_⟩:=x;exact az e
 | rng lo hi=>obtain ⟨_,_,_,e⟩:=x;exact az e
 | frz ob u=>obtain ⟨e,_⟩:=x;exact az e
 | tbl ps=>exact az (show h.get? a=some _ from x)
 | met f y=>exact az (show h.get? a=some _ from x)
 | ext φ=>obtain ⟨_,⟨_,e⟩,_⟩:=x;exact az e
theorem Paired.mapP {α β:Type} {F G:α->β->Prop}:∀ {l₁:List α} {l₂:List β},Paired F l₁ l₂->(∀ a b,F a b->G a b)->Paired G l₁ l₂
 | _,_,.nil,_=>.nil
 | _,_,.cons r t,f=>.cons (f _ _ r) (Paired.mapP t f)
theorem ObjOk.stay (x:ObjOk P w H h a o) (k:∀ b u,(b=a\/H b=some (.own a))->h.get? b=some u->h'.get? b=some u)
  (ho:∀ b,H b=some (.own a)->H' b=some (.own a)) (ht:∀ b xs,H b=some (.tup xs)->H' b=some (.tup xs)):ObjOk P w H' h' a o:=by
 induction o with
 | lst xs=>obtain ⟨z,mX,n,r,e⟩:=x;exact ⟨z,mX,n,r,k _ _ (.inl rfl) e⟩
 | tup xs=>obtain ⟨z,mX,r,ob,e,c⟩:=x;exact ⟨z,mX,r,ob,k _ _ (.inl rfl) e,c⟩
 | dK mW=>obtain ⟨z,y,vs,r,ob,es,ep,e,c⟩:=x;exact ⟨z,y,vs,r,ob,es,ep,k _ _ (.inl rfl) e,c⟩
 | dT mW =>
  obtain ⟨z,y,xs,r,ob,es,ep,e,c⟩:=x;exact ⟨z,y,xs,Paired.mapP r λ p q z=>⟨z.1,ht _ _ z.2.1,z.2.2⟩,ob,es,ep,k _ _ (.inl rfl) e,c⟩
 | set S n=>obtain ⟨ob,es,ep,t,e,c⟩:=x;exact ⟨ob,es,ep,t,k _ _ (.inl rfl) e,c⟩
 | ins C dx fs =>
  obtain ⟨d,z,ne,e,mA,⟨od,es,ep,e2,c⟩,r⟩:=x;exact ⟨ho _ d,z,ne,k _ _ (.inl rfl) e,mA,⟨od,es,ep,k _ _ (.inr d) e2,c⟩,r⟩
 | own y=>obtain ⟨ob,e⟩:=x;exact ⟨ob,k _ _ (.inl rfl) e⟩
 | xd fs=>obtain ⟨mA,⟨od,es,ep,e,c⟩,r⟩:=x;exact ⟨mA,⟨od,es,ep,k _ _ (.inl rfl) e,c⟩,r⟩
 | rng lo hi=>obtain ⟨t,u,v,e⟩:=x;exact ⟨t,u,v,k _ _ (.inl rfl) e⟩
 | frz ob u ih=>obtain ⟨e,q⟩:=x;exact ⟨k _ _ (.inl rfl) e,ih q⟩
 | tbl ps =>
  have e:h.get? a=some { cls:=.none,data:=.fields ps }:=x;show h'.get? a=some { cls:=.none,data:=.fields ps }
  exact k a _ (.inl rfl) e
 | met f y =>
  have e:h.get? a=some (methodObj (.ref f) (.ref y)):=x;show h'.get? a=some (methodObj (.ref f) (.ref y))
  exact k a _ (.inl rfl) e
 | ext φ=>obtain ⟨p,⟨o,e⟩,st⟩:=x;exact ⟨st _ _ p λ o q=>k _ _ (.inl rfl) q,⟨o,k _ _ (.inl rfl) e⟩,st⟩
def HOk.lt (x:HOk P w H h) (e:H a=some o):a < h.objs.size:=(x a o e).lt
def HOk.fresh (x:HOk P w H h) (e:h.objs.size<=a):H a=none:=by
 cases q:H a with
 | none=>rfl
 | some u=>exact absurd (aI (x.lt q) e) (cI _)
def HOk.kept (x:HOk P w H h) (k:∀ b u,h.get? b=some u->h'.get? b=some u):HOk P w H h':=λ a o e =>
 (x a o e).stay (λ b u _ q=>k b u q) (λ _ q=>q) λ _ _ q=>q
def HOk.laid (x:HOk P w H h) (k:∀ b u,h.get? b=some u->h'.get? b=some u) (hp:h.objs.size<=a) (new:ObjOk P w (upd H a o) h' a o):HOk P w (upd H a o) h':=λ b u e=>by
 have hn:=x.fresh hp;by_cases hb:b=a
 ·subst hb;rw [nk] at e;cases e;exact new
 ·rw [nz hb] at e;exact (x b u e).stay (λ c v _ q=>k c v q) (λ c q=>by rw [nz (nA q hn)];exact q) λ c xs q=>by rw [nz (nA q hn)];exact q
end
def Rd (H:Hp) (a:Addr) (u:HO):Prop:=H a=some u\/∃ o,H a=some (.frz o u)
def Rd.of {a:Addr} {u:HO} (h:H a=some u):Rd H a u:=.inl h
def Rd.ok {h:Heap} {a:Addr} {u:HO} (r:Rd H a u) (x:HOk P w H h):ObjOk P w H h a u:=by
 rcases r with r|⟨o,r⟩
 ·exact x a u r
 ·obtain ⟨_,q⟩:=x a _ r;exact q
def Mut:Option HO->Prop
 | some (.lst _)=>True
 | some (.dK _)=>True
 | some (.dT _)=>True
 | some (.set _ _)=>True
 | some (.ins _ _ _)=>True
 | some (.ext _)=>True
 | _=>False
section
variable {P:Af} {w:World} {H:Hp} {h h':Heap} {x e:Addr} {o':HO}
def HOk.write (ok:HOk P w H h) (mu:Mut (H x)) (he:e=x\/H e=some (.own x)) (k:∀ b u,b≠e->h.get? b=some u->h'.get? b=some u) (heo:∃ u,h'.get? e=some u)
  (new:ObjOk P w (upd H x o') h' x o'):HOk P w (upd H x o') h':=λ b u q=>by
 have nown:∀ c y,H c=some (.own y)->c≠x:=λ c y r z=>by subst z;rw [r] at mu;exact mu
 have ntup:∀ c xs,H c=some (.tup xs)->c≠x:=λ c xs r z=>by subst z;rw [r] at mu;exact mu
 by_cases hb:b=x
 ·subst hb;rw [nk] at q;cases q;exact new
 ·rw [nz hb] at q;by_cases hbe:b=e
  ·have q':H b=some (.own x):=by
    rcases he with z|z
    ·exact absurd (hbe.trans z) hb
    ·rw [hbe];exact z
   rw [q] at q';cases q';obtain ⟨v,hv⟩:=heo;exact ⟨v,by rw [hbe];exact hv⟩
  ·refine (ok b u q).stay (λ c v hc r=>k c v ?_ r) (λ c r=>by rw [nz (nown c b r)];exact r) λ c xs r=>by rw [nz (ntup c xs r)];exact r
   rcases hc with rfl|hc
   ·exact hbe
   ·rintro rfl;rcases he with z|z
    ·exact nown c b hc z
    ·rw [hc] at z;cases z;exact hb rfl
end
structure Un (fs ex:Ab) (H H':Hp) (h h':Heap):Prop where
 keep:∀ b o,h.get? b=some o->H b=none->b ∉ fs->b ∉ ex->h'.get? b=some o
 slot:∀ b o,h.get? b=some o->H b=none->b∈fs->b ∉ ex->∃ sl,h'.get? b=some { o with slots:=sl }
 free:∀ b o,h.get? b=some o->H b=none->b ∉ ex->H' b=none
 there:∀ b o,h.get? b=some o->b ∉ ex->∃ o',h'.get? b=some o'
 tups:∀ b xs,H b=some (.tup xs)->H' b=some (.tup xs)
 frzs:∀ b o u,H b=some (.frz o u)->H' b=some (.frz o u)
 tbls:∀ b ps,H b=some (.tbl ps)->∃ more,H' b=some (.tbl (ps ++ more))
section
variable {fs fs' ex ex':Ab} {H H1 H2:Hp} {h h1 h2 h':Heap} {a x e:Addr} {o:HO}
def Un.any (u:Un fs ex H H1 h h1) {ob:Obj} (q:h.get? b=some ob) (n:H b=none) (hx:b ∉ ex):∃ sl,h1.get? b=some { ob with slots:=sl }:=by
 by_cases hb:b∈fs
 ·exact u.slot b ob q n hb hx
 ·exact ⟨ob.slots,u.keep b ob q n hb hx⟩
def Un.trans (a:Un fs ex H H1 h h1) (b:Un fs ex H1 H2 h1 h2):Un fs ex H H2 h h2 where
 keep:=λ c ob q n hc hx=>b.keep c ob (a.keep c ob q n hc hx) (a.free c ob q n hx) hc hx
 slot:=λ c ob q n hc hx=>by
  obtain ⟨sl,e1⟩:=a.slot c ob q n hc hx;obtain ⟨sl',e2⟩:=b.slot c _ e1 (a.free c ob q n hx) hc hx;exact ⟨sl',e2⟩
 free:=λ c ob q n hx=>by
  obtain ⟨o',e1⟩:=a.there c ob q hx;exact b.free c o' e1 (a.free c ob q n hx) hx
 there:=λ c ob q hx=>by
  obtain ⟨o',e1⟩:=a.there c ob q hx;exact b.there c o' e1 hx
 tups:=λ c xs q=>b.tups c xs (a.tups c xs q)
 frzs:=λ c ob xs q=>b.frzs c ob xs (a.frzs c ob xs q)
 tbls:=λ c ps q=>by
  obtain ⟨m1,e1⟩:=a.tbls c ps q;obtain ⟨m2,e2⟩:=b.tbls c _ e1;exact ⟨m1 ++ m2,by rw [e2,gm]⟩
def Un.kept (k:∀ b u,h.get? b=some u->h'.get? b=some u):Un fs ex H H h h' :=
 ⟨λ b ob q _ _ _=>k b ob q,λ b ob q _ _ _=>⟨ob.slots,k b ob q⟩,λ _ _ _ n _=>n,λ b ob q _=>⟨ob,k b ob q⟩,λ _ _ q=>q,λ _ _ _ q=>q,λ _ ps q=>⟨#[],by rw [q];simp⟩⟩
def Un.refl:Un fs ex H H h h:=Un.kept λ _ _ q=>q
def Un.laid (k:∀ b u,h.get? b=some u->h'.get? b=some u) (hp:h.objs.size<=a) (hn:H a=none):Un fs ex H (upd H a o) h h' where
 keep:=λ b u q _ _ _=>k b u q
 slot:=λ b u q _ _ _=>⟨u.slots,k b u q⟩
 free:=λ b u q n _=>by rw [nz (aK (aI (az q) hp))];exact n
 there:=λ b u q _=>⟨u,k b u q⟩
 tups:=λ b xs q=>by rw [nz (nA q hn)];exact q
 frzs:=λ b u xs q=>by rw [nz (nA q hn)];exact q
 tbls:=λ b ps q=>⟨#[],by rw [nz (nA q hn),q];simp⟩
def Un.write (mu:Mut (H x)) (he:e=x\/H e=some (.own x)) (k:∀ b u,b≠e->h.get? b=some u->h'.get? b=some u) (heo:∃ u,h'.get? e=some u):Un fs ex H (upd H x o) h h':=by
 have hx:∀ b,H b=none->b≠x:=λ b n z=>by subst z;rw [n] at mu;exact mu
 have hb:∀ b,H b=none->b≠e:=λ b n z=>by
  subst z;rcases he with r|r
  ·exact hx b n r
  ·rw [n] at r;cases r
 have hm:∀ b u,H b=some u->¬ Mut (some u)->b≠x:=λ b u q nm z=>by subst z;rw [q] at mu;exact nm mu
 refine ⟨λ b u q n _ _=>k b u (hb b n) q,λ b u q n _ _=>⟨u.slots,k b u (hb b n) q⟩,λ b u q n _=>by rw [nz (hx b n)];exact n,λ b u q _=>?_,
  λ b xs q=>by rw [nz (hm b _ q λ z=>z)];exact q,λ b u xs q=>by rw [nz (hm b _ q λ z=>z)];exact q,λ b ps q=>⟨#[],by rw [nz (hm b _ q λ z=>z),q];simp⟩⟩
 by_cases hbe:b=e
 ·subst hbe;exact heo
 ·exact ⟨u,k b u hbe q⟩
def Un.mono (u:Un fs ex H H1 h h1) (hs:∀ b∈fs,b∈fs') (hx:∀ b∈ex,b∈ex'):Un fs' ex' H H1 h h1 :=
 ⟨λ b ob q n hb he=>u.keep b ob q n (λ z=>hb (hs b z)) λ z=>he (hx b z),λ _ _ q n _ he=>u.any q n λ z=>he (hx _ z),λ b ob q n he=>u.free b ob q n λ z=>he (hx b z),λ b ob q he=>u.there b ob q λ z=>he (hx b z),u.tups,u.frzs,u.tbls⟩
end
noncomputable def trk (h:Heap) (H:Hp):List Addr:=(List.range h.objs.size).filter λ a=>(H a).isSome
noncomputable def VI (h:Heap) (H:Hp):Heap:=PySem.W.hideAll h (trk h H)
def zdR (h:Heap) (H:Hp):(VI h H).objs.size=h.objs.size:=PySem.W.hideAll_size _ _
def zff {h:Heap} {o:Obj} (e:h.get? b=some o) (n:H b=none):(VI h H).get? b=some o :=
 PySem.W.hideAll_get _ e λ hm=>by
  have q:(H b).isSome=true:=(cn.mp hm).2;rw [n] at q;simp at q
def zgi {h:Heap} {o:Obj} (e:(VI h H).get? b=some o):h.get? b=some o/\H b=none:=by
 have e':h.get? b=some o:=PySem.W.of_hideAll (trk h H) e;refine ⟨e',?_⟩;cases q:H b with
 | none=>rfl
 | some x =>
  have hm:b∈trk h H:=cn.mpr ⟨dM.mpr (az e'),by simp [q]⟩;have z:(VI h H).get? b=none:=PySem.W.hideAll_none (trk h H) hm;rw [z] at e;cases e
noncomputable def zgE (g h:Heap) (L:Addr):List (Addr × Obj):=(List.range h.objs.size).filterMap λ a=>if a=L\/(g.get? a).isSome=true then none else (h.get? a).map λ o=>(a,o)
noncomputable def rest (g h:Heap) (L d:Addr):List (Addr × Obj):=(zgE g h L).filter λ p=>decide (p.1≠d)
structure Mod (K:A0) (mg:A4) (base:Heap):Prop where
 kin:K.In base
 glob:base.Ns mainGlobals mg
 blt:∃ mb,base.Ns builtinsNs mb/\∀ x:Str,x≠"__name__"->mb x=bootBuiltins x
 nolimit:base.NoLimit
structure Cx where
 prog:Program
 w:World
 K:PySem.W.Frag
 mg:Str->Option Value
 base:Heap
 A:Around
 N:List Str
 s₀:Shared
 H₀:Hp
 env:Env
 outer:List Env
 stack:List Env
 ex:List Addr
 fn:Str->Bool
 calm:Bool
 pn:List (Addr × Obj)
 xe:Value->Shared->Prop
variable {X:Cx}
noncomputable def frs (l:List Env):List Addr:=l.filterMap (·.frame)
noncomputable abbrev Cx.fs (X:Cx):List Addr:=frs X.outer
def Vis (sc:Scope) (x:Str):Prop:=sc.names.lookup x=some .local\/sc.names.lookup x=some .cell\/sc.names.lookup x=some .free
def Loc (sc:Scope) (x:Str):Prop:=sc.names.lookup x=some .local\/sc.names.lookup x=some .cell
def zi4 (env:Env) (h:Heap) (m:A4) (x:Str) (u:Am):Prop :=
 (env.kindOf x=some .local/\m x=some u)\/((env.kindOf x=some .cell\/env.kindOf x=some .free)/\∃ c,env.cells.lookup x=some c/\h.IsCell c (some u))
structure Cx.Ok (X:Cx):Prop where
 mod:Mod X.K X.mg X.base
 kind:X.env.scope.kind=.function
 glob:X.env.globals=mainGlobals
 blt:X.env.builtins=builtinsNs
 above:X.s₀.heap.objs.size<=X.env.locals
 inj:∀ x y c,X.env.cells.lookup x=some c->X.env.cells.lookup y=some c->x=y
 has:∀ x,(X.env.kindOf x=some .cell\/X.env.kindOf x=some .free)->∃ c,X.env.cells.lookup x=some c
 cab:∀ x c,X.fn x=true->X.env.cells.lookup x=some c->X.s₀.heap.objs.size<=c
 hd:X.calm=true->X.A.handled=none
 frames:X.A.frames=some X.stack
 stk:X.stack=X.outer\/(X.stack=X.env :: X.outer/\X.env.frame=some X.env.locals)
 exf:∀ b∈X.ex,b≠X.env.locals/\∀ x c,X.env.cells.lookup x=some c->c≠b
 bs:∀ b o,X.base.get? b=some o->X.s₀.heap.get? b=some o/\X.H₀ b=none
 bsz:X.base.objs.size<=X.s₀.heap.objs.size
 noex:∀ b o,X.base.get? b=some o->b ∉ X.ex
 exfs:∀ b∈X.ex,b ∉ X.fs
 funs:X.s₀.heap.FunFrames X.base X.outer
 frf:∀ b∈X.fs,X.H₀ b=none
structure Inv (X:Cx) (m5:A2) (σ:List Aq) (H:Hp) (s:An):Prop where
 ok:X.Ok
 os:s.os=X.s₀.os
 bare:AllBare s.gens
 base:Un X.fs X.ex X.H₀ H X.s₀.heap s.heap
 loc:∃ m,s.heap.Ns X.env.locals m/\∀ (i:Nat) (x:Str) (v:V),X.N[i]?=some x->σ[i]?=some (some v)->Vis X.env.scope x->∃ u,RelV v u/\zi4 X.env s.heap m x u
 cell:∀ x c,X.env.cells.lookup x=some c->∃ v,s.heap.IsCell c v
 free:H X.env.locals=none
 freeC:∀ x c,X.env.cells.lookup x=some c->H c=none
 pin:∀ p∈X.pn ++ m5,s.heap.get? p.1=some p.2/\H p.1=none/\p.1≠X.env.locals/\p.1 ∉ X.fs/\∀ v,p.2.data≠.cell v
 hok:HOk X.prog X.w H s.heap
 len:σ.length=X.N.length
section
variable {X:Cx} {m5:A2} {σ:List Aq} {H H':Hp} {s:An} {h':Heap}
def Cx.Ok.nofr (ok:X.Ok) {o:Obj} (e:X.base.get? b=some o):b ∉ X.fs:=λ hb=>by
 have:=(ok.funs.mem hb).1;rw [e] at this;cases this
def Inv.bs (I:Inv X m5 σ H s):∀ b o,X.base.get? b=some o->s.heap.get? b=some o/\H b=none:=λ b o e =>
 ⟨I.base.keep b o (I.ok.bs b o e).1 (I.ok.bs b o e).2 (I.ok.nofr e) (I.ok.noex b o e),I.base.free b o (I.ok.bs b o e).1 (I.ok.bs b o e).2 (I.ok.noex b o e)⟩
def Inv.bk (I:Inv X m5 σ H s):∀ b o,X.base.get? b=some o->s.heap.get? b=some o:=λ b o e=>(I.bs b o e).1
def Inv.mod (I:Inv X m5 σ H s):Mod X.K X.mg X.base:=I.ok.mod
def Inv.kIn (I:Inv X m5 σ H s):X.K.In s.heap:=I.ok.mod.kin.keeps I.bk
def Inv.nolimit (I:Inv X m5 σ H s):s.heap.NoLimit:=I.ok.mod.nolimit.keeps I.bk
def Inv.fr (I:Inv X m5 σ H s):∃ m,Fr X.base X.env.locals s.heap m :=
 let ⟨m,hn,_⟩:=I.loc
 ⟨m,hn,I.bk,ba I.ok.bsz I.ok.above⟩
def Inv.lt (I:Inv X m5 σ H s):X.env.locals < s.heap.objs.size:=by
 obtain ⟨_,hn,_⟩:=I.loc;exact hn.lt
def Inv.sz (I:Inv X m5 σ H s):X.s₀.heap.objs.size<=s.heap.objs.size:=ba I.ok.above (bn I.lt)
def Inv.nofs (I:Inv X m5 σ H s) {a:Addr} (h:s.heap.objs.size<=a):a ∉ X.fs:=λ hb=>by
 obtain ⟨_,o,ho,_⟩:=I.ok.funs.mem hb;exact absurd (aI (az ho) (ba I.sz h)) (cI _)
def Inv.cne (I:Inv X m5 σ H s):∀ x c,X.env.cells.lookup x=some c->c≠X.env.locals:=λ x c e z=>by
 obtain ⟨v,o,ho,hd⟩:=I.cell x c e;obtain ⟨m,⟨o',es,ep,ho',hd',_⟩,_⟩:=I.loc;rw [z,ho'] at ho;cases ho;rw [hd'] at hd;cases hd
def Inv.funs (I:Inv X m5 σ H s):s.heap.FunFrames X.base X.outer:=by
 have all:∀ (l:List Env),(∀ b∈frs l,b∈X.fs)->X.s₀.heap.FunFrames X.base l->s.heap.FunFrames X.base l:=by
  intro l
  induction l with
  | nil=>intro _ _;trivial
  | cons env r ih =>
   intro hs hl;obtain ⟨hk,⟨L,o,hf,hn,ho,hd⟩,hr⟩:=hl;have hL:L∈X.fs:=hs L (by unfold frs;rw [fF,hf];exact bT);obtain ⟨sl,e⟩:=I.base.slot L o ho (I.ok.frf L hL) hL λ z=>I.ok.exfs L z hL;exact ⟨hk,⟨L,_,hf,hn,e,hd⟩,ih (λ b hb=>hs b (by unfold frs;rw [fF,hf];exact aB _ hb)) hr⟩
 exact all X.outer (λ _ hb=>hb) I.ok.funs
def Inv.stack (I:Inv X m5 σ H s):s.heap.FunFrames X.base X.stack:=by
 rcases I.ok.stk with e|⟨e,hf⟩
 ·rw [e];exact I.funs
 ·rw [e];obtain ⟨m,hn,_⟩:=I.loc;refine .cons (by rw [I.ok.kind];decide) hf hn ?_ I.funs;exact Heap.get?_none_of_le (ba I.ok.bsz I.ok.above)
def Inv.stkSub (I:Inv X m5 σ H s):∀ b∈frs X.stack,b∈X.env.locals :: X.fs:=λ b hb=>by
 rcases I.ok.stk with e|⟨e,hf⟩
 ·rw [e] at hb;exact aB _ hb
 ·rw [e] at hb;unfold frs at hb;rw [fF,hf] at hb;exact hb
def Inv.stkFree (I:Inv X m5 σ H s):∀ b∈frs X.stack,H b=none:=λ b hb=>by
 rcases aw.mp (I.stkSub b hb) with e|hb
 ·rw [e];exact I.free
 ·obtain ⟨_,o,ho,_⟩:=I.ok.funs.mem hb;exact I.base.free b o ho (I.ok.frf b hb) λ z=>I.ok.exfs b z hb
def Inv.step {g':Array GenState} {d':Drawn} {ch:Ab} (I:Inv X m5 σ H s)
  (hch:∀ b∈ch,(b∈X.ex\/X.s₀.heap.objs.size<=b)/\b≠X.env.locals/\(∀ x c,X.env.cells.lookup x=some c->c≠b)/\∀ p∈X.pn ++ m5,p.1≠b)
  (keep:∀ b o,b≠X.env.locals->b ∉ X.fs->b ∉ ch->s.heap.get? b=some o->H b=none->h'.get? b=some o)
  (slot:∀ b o,b≠X.env.locals->b∈X.fs->b ∉ ch->s.heap.get? b=some o->H b=none->∃ sl,h'.get? b=some { o with slots:=sl }) (free:∀ b o,b ∉ ch->s.heap.get? b=some o->H b=none->H' b=none)
  (there:∀ b o,b ∉ ch->s.heap.get? b=some o->∃ o',h'.get? b=some o')
  (tups:∀ b xs,H b=some (.tup xs)->H' b=some (.tup xs)) (frzs:∀ b o u,H b=some (.frz o u)->H' b=some (.frz o u)) (tbls:∀ b ps,H b=some (.tbl ps)->∃ more,H' b=some (.tbl (ps ++ more)))
  (ns:∀ m,s.heap.Ns X.env.locals m->h'.Ns X.env.locals m) (hok:HOk X.prog X.w H' h') (hg:AllBare g') :
  Inv X m5 σ H' { s with heap:=h',gens:=g',drawn:=d',toks:=t' }:=by
 have neL:∀ b o,X.s₀.heap.get? b=some o->b≠X.env.locals:=λ b o e=>aK (aI (az e) I.ok.above);have neC:∀ b o,X.s₀.heap.get? b=some o->b ∉ X.ex->b ∉ ch:=λ b o e hx hb=>by
  rcases (hch b hb).1 with z|z
  ·exact hx z
  ·exact absurd (aI (az e) z) (cI _)
 have cellK:∀ x c,X.env.cells.lookup x=some c->∀ v,s.heap.IsCell c v->h'.IsCell c v:=λ x c e v ⟨o,ho,hd⟩=>by
  have nch:c ∉ ch:=λ z=>(hch c z).2.2.1 x c e rfl;by_cases hc:c∈X.fs
  ·obtain ⟨sl,q⟩:=slot c o (I.cne x c e) hc nch ho (I.freeC x c e);exact ⟨_,q,hd⟩
  ·exact ⟨o,keep c o (I.cne x c e) hc nch ho (I.freeC x c e),hd⟩
 refine ⟨I.ok,I.os,hg,⟨λ b o e n hb hx=>?_,λ b o e n hb hx=>?_,λ b o e n hx=>?_,λ b o e hx=>?_,λ b xs e=>tups b xs (I.base.tups b xs e),λ b o xs e=>frzs b o xs (I.base.frzs b o xs e),λ b ps e=>?_⟩,?_,λ x c e=>?_,?_,λ x c e=>?_,λ p hp=>?_,hok,I.len⟩
 ·exact keep b o (neL b o e) hb (neC b o e hx) (I.base.keep b o e n hb hx) (I.base.free b o e n hx)
 ·obtain ⟨sl,e1⟩:=I.base.slot b o e n hb hx;obtain ⟨sl',e2⟩:=slot b _ (neL b o e) hb (neC b o e hx) e1 (I.base.free b o e n hx);exact ⟨sl',e2⟩
 ·obtain ⟨o',e1⟩:=I.base.there b o e hx;exact free b o' (neC b o e hx) e1 (I.base.free b o e n hx)
 ·obtain ⟨o',e1⟩:=I.base.there b o e hx;exact there b o' (neC b o e hx) e1
 ·obtain ⟨m1,e1⟩:=I.base.tbls b ps e;obtain ⟨m2,e2⟩:=tbls b _ e1;exact ⟨m1 ++ m2,by rw [e2,gm]⟩
 ·obtain ⟨m,hn,hl⟩:=I.loc;refine ⟨m,ns m hn,λ i x v e1 e2 e3=>?_⟩;obtain ⟨u,r,l⟩:=hl i x v e1 e2 e3;refine ⟨u,r,?_⟩;rcases l with l|⟨k,c,e,z⟩
  ·exact .inl l
  ·exact .inr ⟨k,c,e,cellK x c e _ z⟩
 ·obtain ⟨v,z⟩:=I.cell x c e;exact ⟨v,cellK x c e v z⟩
 ·obtain ⟨m,⟨o,_,_,ho,_⟩,_⟩:=I.loc;exact free _ o (λ z=>(hch _ z).2.1 rfl) ho I.free
 ·obtain ⟨v,o,ho,hd⟩:=I.cell x c e;exact free c o (λ z=>(hch c z).2.2.1 x c e rfl) ho (I.freeC x c e)
 ·obtain ⟨e,n,ne,nf,d⟩:=I.pin p hp;have nch:p.1 ∉ ch:=λ z=>(hch p.1 z).2.2.2 p hp rfl;exact ⟨keep p.1 p.2 ne nf nch e n,free p.1 p.2 nch e n,ne,nf,d⟩
def Inv.un (I:Inv X m5 σ H s) (u:Un X.fs [] H H' s.heap h') (hok:HOk X.prog X.w H' h'):Inv X m5 σ H' { s with heap:=h',toks:=t' }:=by
 obtain ⟨m,⟨o,es,ep,ho,r⟩,_⟩:=id I.loc;obtain ⟨sl,hL⟩:=u.any ho I.free (by simp);exact I.step (g':=s.gens) (d':=s.drawn) (ch:=[]) (λ _ z=>nomatch z) (λ b o _ hb _ e n=>u.keep b o e n hb (by simp)) (λ b o _ hb _ e n=>u.slot b o e n hb (by simp)) (λ b o _ e n=>u.free b o e n (by simp)) (λ b o _ e=>u.there b o e (by simp)) u.tups u.frzs u.tbls (λ m' hm=>by
  obtain ⟨o',es',ep',ho',r'⟩:=hm;rw [ho] at ho';cases ho';exact ⟨_,es',ep',hL,r'⟩) hok I.bare
def Inv.call {g':Array GenState} {d':Drawn} {ch:Ab} (I:Inv X m5 σ H s) (u:Un (frs X.stack) ch H H' s.heap h') (hok:HOk X.prog X.w H' h') (hg:AllBare g')
  (hch:∀ b∈ch,(b∈X.ex\/X.s₀.heap.objs.size<=b)/\b≠X.env.locals/\(∀ x c,X.env.cells.lookup x=some c->c≠b)/\∀ p∈X.pn ++ m5,p.1≠b) :
  Inv X m5 σ H' { s with heap:=h',gens:=g',drawn:=d',toks:=t' }:=by
 obtain ⟨m,⟨o,es,ep,ho,r⟩,_⟩:=id I.loc;obtain ⟨sl,hL⟩:=u.any ho I.free λ z=>(hch _ z).2.1 rfl;exact I.step (ch:=ch) hch (λ b o hL hb hc e n=>u.keep b o e n (λ z=>(aw.mp (I.stkSub b z)).elim hL hb) hc) (λ b o _ _ hc e n=>u.any e n hc) (λ b o hc e n=>u.free b o e n hc) (λ b o hc e=>u.there b o e hc) u.tups u.frzs u.tbls (λ m' hm=>by
  obtain ⟨o',es',ep',ho',r'⟩:=hm;rw [ho] at ho';cases ho';exact ⟨_,es',ep',hL,r'⟩) hok hg
def Inv.turned {it:Addr} (I:Inv X m5 σ H s) (k:∀ b o,b≠it->s.heap.get? b=some o->h'.get? b=some o) (hn:H it=none) (hL:it≠X.env.locals)
  (h1:it∈X.ex\/X.s₀.heap.objs.size<=it) (h2:∀ x c,X.env.cells.lookup x=some c->c≠it) (h3:∀ p∈X.pn ++ m5,p.1≠it):Inv X m5 σ H { s with heap:=h',toks:=t' }:=by
 have nit:∀ b u,H b=some u->b≠it:=λ b u e z=>by rw [z,hn] at e;cases e
 refine I.step (g':=s.gens) (d':=s.drawn) (ch:=[it]) (λ b hb=>?_) (λ b o _ _ hc e _=>k b o (λ z=>hc (by simp [z])) e) (λ b o _ _ hc e _=>⟨o.slots,k b o (λ z=>hc (by simp [z])) e⟩) (λ _ _ _ _ n=>n)
  (λ b o hc e=>⟨o,k b o (λ z=>hc (by simp [z])) e⟩) (λ _ _ e=>e) (λ _ _ _ e=>e) (λ b ps e=>⟨#[],by rw [e];simp⟩) (λ m hm=>?_) (λ b u e=>?_) I.bare
 ·have e:b=it:=by simpa using hb
  subst e;exact ⟨h1,hL,h2,h3⟩
 ·obtain ⟨o,es,ep,ho,r⟩:=hm;exact ⟨o,es,ep,k _ o (aW hL) ho,r⟩
 ·refine (I.hok b u e).stay (λ c v hc q=>k c v ?_ q) (λ _ q=>q) λ _ _ q=>q;rcases hc with z|z
  ·rw [z];exact nit b u e
  ·exact nit c _ z
def Inv.tok (I:Inv X m5 σ H s) (t:Nat):Inv X m5 σ H { s with toks:=t }:=I.un (h':=s.heap) (t':=t) Un.refl I.hok
def Inv.kept (I:Inv X m5 σ H s) (k:∀ b u,s.heap.get? b=some u->h'.get? b=some u):Inv X m5 σ H { s with heap:=h',toks:=t' }:=I.un (Un.kept k) (I.hok.kept k)
def Inv.laid {a:Addr} (I:Inv X m5 σ H s) (k:∀ b u,s.heap.get? b=some u->h'.get? b=some u) (hp:s.heap.objs.size<=a) (new:ObjOk X.prog X.w (upd H a o) h' a o) :
  Inv X m5 σ (upd H a o) { s with heap:=h',toks:=t' }:=I.un (Un.laid k hp (I.hok.fresh hp)) (I.hok.laid k hp new)
def Inv.write {x e:Addr} (I:Inv X m5 σ H s) (mu:Mut (H x)) (he:e=x\/H e=some (.own x)) (k:∀ b u,b≠e->s.heap.get? b=some u->h'.get? b=some u) (heo:∃ u,h'.get? e=some u)
  (new:ObjOk X.prog X.w (upd H x o) h' x o):Inv X m5 σ (upd H x o) { s with heap:=h',toks:=t' }:=I.un (Un.write mu he k heo) (I.hok.write mu he k heo new)
def Inv.pins_of {pins':A2} (I:Inv X m5 σ H s) (h:∀ p∈pins',s.heap.get? p.1=some p.2/\H p.1=none/\p.1≠X.env.locals/\p.1 ∉ X.fs/\∀ v,p.2.data≠.cell v):Inv X pins' σ H s :=
 ⟨I.ok,I.os,I.bare,I.base,I.loc,I.cell,I.free,I.freeC,λ p hp=>(aF.mp hp).elim (λ z=>I.pin p (bF _ z)) (h p),I.hok,I.len⟩
def zaK {N:A8} (hN:N.Nodup) {i j:Nat} (a:N[i]?=some x) (b:N[j]?=some x):i=j:=by
 obtain ⟨h1,e1⟩:=aa.mp a;obtain ⟨h2,e2⟩:=aa.mp b;exact (List.getElem_inj hN).mp (e1.trans e2.symm)
def Wj {v:V} {Q:Ag} (I:Inv X m5 σ H s) (hN:X.N.Nodup) (hi:X.N[i]?=some x) (hx:Loc X.env.scope x) (r:RelV v u)
  (h:∀ s',Inv X m5 (σ.set i (some v)) H s'->(∃ a,Heap.SameBut a s.heap s'.heap/\(a=X.env.locals\/X.env.cells.lookup x=some a))->Q () s') (hf:X.fn x=true\/X.env.scope.names.lookup x=some .local:=by walk_at "p"):wpAny M A (storeName X.env x u) Q E s:=by
 obtain ⟨m,hn,hl⟩:=id I.loc;have hcls:(X.env.scope.kind == .class || (X.env.scope.kind == .module && X.env.locals != X.env.globals))=false:=by rw [I.ok.kind];rfl
 have hiσ:i < σ.length:=by rw [I.len];exact (aa.mp hi).1
 have cne:=I.cne;have tracked:∀ {a:Addr} {h':Heap},(∃ o,s.heap.get? a=some o/\H a=none)->Heap.SameBut a s.heap h'->HOk X.prog X.w H h':=λ {a h'} ha hs b ob e=>by
  obtain ⟨_,_,hfree⟩:=ha;refine (I.hok b ob e).stay (λ c w' hc q=>(hs.2 c ?_).trans q) (λ _ q=>q) λ _ _ q=>q;rintro rfl;rcases hc with rfl|hc
  ·rw [hfree] at e;cases e
  ·rw [hfree] at hc;cases hc
 rcases hx with hk|hk
 ·refine wpAny_storeName_local hk hn (λ h' hn' hs=>?_) hcls;obtain ⟨oL,_,_,hoL,_⟩:=id hn;refine h _ ⟨I.ok,I.os,I.bare,⟨λ b o e n hb hx=>?_,λ b o e n hb hx=>?_,I.base.free,λ b o e hx=>?_,I.base.tups,I.base.frzs,I.base.tbls⟩,⟨_,hn',λ j y v' e1 e2 e3=>?_⟩,λ y c e=>?_,I.free,I.freeC,λ p hp=>?_,tracked ⟨oL,hoL,I.free⟩ hs,by simpa using I.len⟩ ⟨_,hs,.inl rfl⟩
  ·exact (hs.2 b (aK (aI (az e) I.ok.above))).trans (I.base.keep b o e n hb hx)
  ·obtain ⟨sl,e1⟩:=I.base.slot b o e n hb hx;exact ⟨sl,(hs.2 b (aK (aI (az e) I.ok.above))).trans e1⟩
  ·obtain ⟨o',e1⟩:=I.base.there b o e hx;exact ⟨o',(hs.2 b (aK (aI (az e) I.ok.above))).trans e1⟩
  ·by_cases hj:j=i
   ·subst hj;rw [hi] at e1;cases e1;rw [aY hiσ] at e2;cases e2;exact ⟨u,r,.inl ⟨hk,by simp⟩⟩
   ·rw [bH (aW hj)] at e2;obtain ⟨u',r',q⟩:=hl j y v' e1 e2 e3;refine ⟨u',r',?_⟩;rcases q with ⟨k,e⟩|⟨k,c,e,z⟩
    ·refine .inl ⟨k,?_⟩;have:y≠x:=λ e=>hj (zaK hN e1 (e ▸ hi));simp [this,e]
    ·exact .inr ⟨k,c,e,z.sameBut hs (cne y c e)⟩
  ·obtain ⟨w',z⟩:=I.cell y c e;exact ⟨w',z.sameBut hs (cne y c e)⟩
  ·obtain ⟨e,n,ne,nf,d⟩:=I.pin p hp;exact ⟨(hs.2 p.1 ne).trans e,n,ne,nf,d⟩
 ·have hfn:X.fn x=true:=by
   rcases hf with z|z
   ·exact z
   ·rw [z] at hk;cases hk
  obtain ⟨c,hc⟩:=I.ok.has x (.inl hk);obtain ⟨w',z⟩:=I.cell x c hc;refine wpAny_storeName_cell I.ok.kind hk hc z (λ h' hc' hs=>?_);obtain ⟨oc,hoc,hocd⟩:=id z;refine h { s with heap:=h' } ⟨I.ok,I.os,I.bare,⟨λ b o e n hb hx=>?_,λ b o e n hb hx=>?_,I.base.free,λ b o e hx=>?_,I.base.tups,I.base.frzs,I.base.tbls⟩,⟨m,hn.sameBut hs (aW (cne x c hc)),λ j y v' e1 e2 e3=>?_⟩,λ y c' e=>?_,I.free,I.freeC,λ p hp=>?_,tracked ⟨oc,hoc,I.freeC x c hc⟩ hs,by simpa using I.len⟩ ⟨c,hs,.inr hc⟩
  ·exact (hs.2 b (aK (aI (az e) (I.ok.cab x c hfn hc)))).trans (I.base.keep b o e n hb hx)
  ·obtain ⟨sl,e1⟩:=I.base.slot b o e n hb hx;exact ⟨sl,(hs.2 b (aK (aI (az e) (I.ok.cab x c hfn hc)))).trans e1⟩
  ·obtain ⟨o',e1⟩:=I.base.there b o e hx;exact ⟨o',(hs.2 b (aK (aI (az e) (I.ok.cab x c hfn hc)))).trans e1⟩
  ·by_cases hj:j=i
   ·subst hj;rw [hi] at e1;cases e1;rw [aY hiσ] at e2;cases e2;exact ⟨u,r,.inr ⟨.inl hk,c,hc,hc'⟩⟩
   ·rw [bH (aW hj)] at e2;obtain ⟨u',r',q⟩:=hl j y v' e1 e2 e3;refine ⟨u',r',?_⟩;rcases q with q|⟨k,c',e,z'⟩
    ·exact .inl q
    ·refine .inr ⟨k,c',e,z'.sameBut hs ?_⟩;rintro rfl;exact hj (zaK hN e1 (I.ok.inj _ _ _ e hc ▸ hi))
  ·by_cases hcc:c'=c
   ·subst hcc;exact ⟨_,hc'⟩
   ·obtain ⟨w2,z2⟩:=I.cell y c' e;exact ⟨w2,z2.sameBut hs hcc⟩
  ·obtain ⟨e,n,ne,nf,d⟩:=I.pin p hp;refine ⟨(hs.2 p.1 ?_).trans e,n,ne,nf,d⟩;intro q;rw [q,hoc] at e;have q':oc=p.2:=aN e;exact d w' (by rw [<- q'];exact hocd)
def JH {v:V} {Q:Ag} (I:Inv X m5 σ H s) (hN:X.N.Nodup) (hi:X.N[i]?=some x) (hx:Loc X.env.scope x) (r:RelV v u)
  (h:∀ s',Inv X m5 (σ.set i (some v)) H s'->Q () s') (hf:X.fn x=true\/X.env.scope.names.lookup x=some .local:=by walk_at "p"):wpAny M A (storeName X.env x u) Q E s :=
 Wj I hN hi hx r (λ s' I' _=>h s' I') hf
def Inv.call' {s':An} {ch:Ab} (I:Inv X m5 σ H s) (ho:s'.os=s.os) (u:Un (frs X.stack) ch H H' s.heap s'.heap) (hok:HOk X.prog X.w H' s'.heap) (hg:AllBare s'.gens)
  (hch:∀ b∈ch,(b∈X.ex\/X.s₀.heap.objs.size<=b)/\b≠X.env.locals/\(∀ x c,X.env.cells.lookup x=some c->c≠b)/\∀ p∈X.pn ++ m5,p.1≠b):Inv X m5 σ H' s':=by
 obtain ⟨h',g',d',t',o'⟩:=s';have e:o'=s.os:=ho;subst e;exact I.call (g':=g') (t':=t') (d':=d') u hok hg hch
end
abbrev XK:=Value->Option Addr->Hp->Prop
abbrev St:=List Aq
variable {σ:St}
abbrev VK:=V->Hp->Prop
abbrev TE:=St->Hp->VK->Prop
abbrev TT:=St->Hp->(Bool->Hp->Prop)->Prop
abbrev TA:=St->Hp->(List V->Hp->Prop)->Prop
structure Ends where
 nx:St->Hp->Prop
 rt:VK
 bk:St->Hp->Prop:=λ _ _=>False
 ct:St->Hp->Prop:=λ _ _=>False
abbrev TS:=Ends->St->Hp->Prop
def EP (X:Cx) (m5:A2) (σ:St) (Q:VK) (u:Am) (s':An):Prop:=∃ v H',Inv X m5 σ H' s'/\RelV v u/\Q v H'
def TP (X:Cx) (m5:A2) (σ:St) (Q:Bool->Hp->Prop) (b:Bool) (s':An):Prop:=∃ H',Inv X m5 σ H' s'/\Q b H'
def AP (X:Cx) (m5:A2) (σ:St) (Q:List V->Hp->Prop) (us:A7) (s':An):Prop:=∃ vs H',Inv X m5 σ H' s'/\Vals vs us/\Q vs H'
def SP (X:Cx) (m5:A2) (D:Ends) (f:Flow) (s':An):Prop :=
 match f with
 | .next=>∃ σ' H',Inv X m5 σ' H' s'/\D.nx σ' H'
 | .brk=>∃ σ' H',Inv X m5 σ' H' s'/\D.bk σ' H'
 | .cont=>∃ σ' H',Inv X m5 σ' H' s'/\D.ct σ' H'
 | .ret u=>∃ v σ' H',Inv X m5 σ' H' s'/\RelV v u/\D.rt v H'
def PE (X:Cx) (e:Expr) (t:TE):Prop :=
 ∀ (m5:A2) (s:An) (σ:St) (H:Hp) (Q:VK),Inv X m5 σ H s->t σ H Q->wpAny (model X.prog X.w) X.A (eval e X.env) (EP X m5 σ Q) X.xe s
def PT (X:Cx) (e:Expr) (t:TT):Prop :=
 ∀ (m5:A2) (s:An) (σ:St) (H:Hp) (Q:Bool->Hp->Prop),Inv X m5 σ H s->t σ H Q->wpAny (model X.prog X.w) X.A (isTrue e X.env (eval e X.env)) (TP X m5 σ Q) X.xe s
def PW (X:Cx) (e:Expr) (t:TT):Prop :=
 ∀ (whole:Sem Value) (m5:A2) (s:An) (σ:St) (H:Hp) (Q:Bool->Hp->Prop),Inv X m5 σ H s->t σ H Q->wpAny (model X.prog X.w) X.A (isTrue e X.env whole) (TP X m5 σ Q) X.xe s
def PW.pt {e:Expr} {t:TT} (h:PW X e t):PT X e t:=h _
def PA (X:Cx) (es:List Expr) (t:TA):Prop :=
 ∀ (pos:Pos) (m5:A2) (s:An) (σ:St) (H:Hp) (Q:List V->Hp->Prop),Inv X m5 σ H s->t σ H Q->wpAny (model X.prog X.w) X.A (spliced (backTo pos (starEach es X.env))) (AP X m5 σ Q) X.xe s
def PS (X:Cx) (st:Stmt) (t:TS):Prop :=
 ∀ (m5:A2) (s:An) (σ:St) (H:Hp) (D:Ends),Inv X m5 σ H s->t D σ H->wpAny (model X.prog X.w) X.A (exec st X.env) (SP X m5 D) X.xe s
def PSs (X:Cx) (st:List Stmt) (t:TS):Prop :=
 ∀ (m5:A2) (s:An) (σ:St) (H:Hp) (D:Ends),Inv X m5 σ H s->t D σ H->wpAny (model X.prog X.w) X.A (execs st X.env) (SP X m5 D) X.xe s
def thn {α:Type} {t:Sem α} {Q Q':α->Shared->Prop} (h:wpAny M A t Q E s) (hQ:∀ a s,Q a s->Q' a s):wpAny M A t Q' E s:=aU h hQ λ _ _ x=>x
def qM {Q:VK} {t:Sem Value} {Q':A3} (h:wpAny M A t (EP X m5 σ Q) E s) (k:∀ u s1 x H1,Inv X m5 σ H1 s1->RelV x u->Q x H1->Q' u s1):wpAny M A t Q' E s:=thn h λ u s1 e=>by
 obtain ⟨x,H1,I1,r,q⟩:=e;exact k u s1 x H1 I1 r q
def vt {Q:List V->Hp->Prop} {t:Sem A7} {Q':List Value->Shared->Prop} (h:wpAny M A t (AP X m5 σ Q) E s) (k:∀ us s1 vs H1,Inv X m5 σ H1 s1->Vals vs us->Q vs H1->Q' us s1):wpAny M A t Q' E s:=thn h λ u s1 e=>by
 obtain ⟨x,H1,I1,r,q⟩:=e;exact k u s1 x H1 I1 r q
section
variable {X:Cx}
def bq:V->(Bool->Prop)->Prop
 | .bl k,P=>P k
 | _,_=>False
def zbi {x:V} {P:Bool->Prop} (h:bq x P):∃ k,x=.bl k/\P k:=by
 cases x <;> first|exact ⟨_,rfl,h⟩|exact False.elim h
def iq:V->(Int->Prop)->Prop
 | .int i,P=>P i
 | _,_=>False
def Qk {x:V} {P:Int->Prop} (h:iq x P):∃ i,x=.int i/\P i:=by
 cases x <;> first|exact ⟨_,rfl,h⟩|exact False.elim h
def QS {x y:V} {P:Int->Int->Prop} (h:iq x λ i=>iq y λ j=>P i j):∃ i j,x=.int i/\y=.int j/\P i j:=by
 obtain ⟨i,e,h⟩:=Qk h;obtain ⟨j,e2,h⟩:=Qk h;exact ⟨i,j,e,e2,h⟩
def nq:V->Prop->Prop
 | .non,P=>P
 | _,_=>False
def zcF {x:V} {P:Prop} (h:nq x P):x=.non/\P:=by
 cases x <;> first|exact ⟨rfl,h⟩|exact False.elim h
def lq:List V->(V->Prop)->Prop
 | [v],P=>P v
 | _,_=>False
theorem ze3:∀ {xs:Ap} {P:V->Prop},lq xs P->∃ v,xs=[v]/\P v
 | [_],_,h=>⟨_,rfl,h⟩
 | [],_,h=>h.elim
 | _ :: _ :: _,_,h=>h.elim
def vq:Option Aq->(V->Prop)->Prop
 | some (some v),P=>P v
 | _,_=>False
theorem zgK:∀ {o:Option Aq} {P:V->Prop},vq o P->∃ v,o=some (some v)/\P v
 | some (some v),_,h=>⟨v,rfl,h⟩
 | some none,_,h=>h.elim
 | none,_,h=>h.elim
def szl (xs:Ap) (P:Prop):Prop:=cond (Nat.ble xs.length 12) P False
def zbt {xs:Ap} {P:Prop} (h:szl xs P):xs.length<=sizeLine/\P:=by
 unfold szl at h;cases e:Nat.ble xs.length 12 with
 | true=>rw [e] at h;exact ⟨ba (Nat.le_of_ble_eq_true e) (by decide),h⟩
 | false=>rw [e] at h;exact h.elim
def tVar (i:Nat):TE:=λ σ H Q=>vq σ[i]? λ v=>Q v H
def tC (v:V):TE:=λ _ H Q=>Q v H
def zhl (hN:X.N[i]?=some x) (hv:Vis X.env.scope x) (hd:(x == ("__debug__":Str))=false:=by decide) (hcd:(x == ("__classdict__":Str))=false:=by decide):PE X (.Name x pos) (tVar i):=by
 intro m5 s σ H Q I h;obtain ⟨v,e,h⟩:=zgK h;obtain ⟨m,hn,hl⟩:=I.loc;obtain ⟨u,r,l⟩:=hl i x v hN e hv;have fin:EP X m5 σ Q u s:=⟨v,H,I,r,h⟩;rcases l with ⟨hk,hm⟩|⟨hk,c,hc,hcell⟩
 ·exact wpAny_Name (wpAny_loadName_local I.ok.kind hk hn hm fin) hd
 ·rcases hk with hk|hk
  ·exact wpAny_Name (wpAny_loadName_cell I.ok.kind hk hc hcell fin) hd
  ·exact wpAny_Name (wpAny_loadName_free I.ok.kind hk hc hcell fin hcd) hd
def zd {i j pos}:PE X (.Constant (.int i) j pos) (tC (.int i)):=λ _ _ _ H _ I h=>wpAny_Constant_int ⟨.int i,H,I.tok _,⟨_,rfl⟩,h⟩
def zeO {b j pos}:PE X (.Constant (.bool b) j pos) (tC (.bl b)):=λ _ _ _ H _ I h=>Constant_bool ⟨.bl b,H,I,rfl,h⟩
def zG {j pos}:PE X (.Constant .none j pos) (tC .non):=λ _ _ _ H _ I h=>Constant_none ⟨.non,H,I,rfl,h⟩
def ju {x j pos}:PE X (.Constant (.str x) j pos) (tC (.str x)):=λ _ _ _ H _ I h=>Calls.Constant_str ⟨.str x,H,I.tok _,⟨_,rfl⟩,h⟩
def Gl (X:Cx) (x:Str):Prop:=X.env.kindOf x=some .globalImplicit
def x8 (I:Inv X m5 σ H s) (hg:Gl X x) (hm:X.mg x=some u) (h:Q u s)
  (hd:(x == ("__debug__":Str))=false:=by decide):wpAny (model X.prog X.w) X.A (eval (.Name x pos) X.env) Q E s :=
 fN I.ok.kind hg (Calls.loadGlobal_global (by rw [I.ok.glob];exact I.mod.glob.keeps I.bk) hm h) hd
def wY (I:Inv X m5 σ H s) (hg:Gl X x) (hm:X.mg x=none) (hv:bootBuiltins x=some u) (h:Q u s)
  (hn:x≠"__name__":=by decide) (hd:(x == ("__debug__":Str))=false:=by decide):wpAny (model X.prog X.w) X.A (eval (.Name x pos) X.env) Q E s:=by
 obtain ⟨mb,h1,h2⟩:=I.mod.blt;exact fN I.ok.kind hg (Calls.loadGlobal_builtin (by rw [I.ok.glob];exact I.mod.glob.keeps I.bk) hm (by rw [I.ok.blt];exact h1.keeps I.bk) ((h2 x hn).trans hv) h) hd
variable {a b:Expr} {ta tb:TE} {pos:Pos}
def PC (X:Cx) (op:CmpOp) (a b:Expr) (t:TE):Prop :=
 ∀ (m5:A2) (s:An) (σ:St) (H:Hp) (Q:VK),Inv X m5 σ H s->t σ H Q ->
  wpAny (model X.prog X.w) X.A (eval a X.env) (λ v s₁=>wpAny (model X.prog X.w) X.A (eval b X.env) (λ u s₂=>wpAny (model X.prog X.w) X.A (compareOp op v u) (EP X m5 σ Q) X.xe s₂) X.xe s₁) X.xe s
def nobehind (b:Expr) (h:op≠.In) (h2:op≠.NotIn):behindInMarks op b=false:=by
 have e1:(op == CmpOp.In)=false:=by cases op <;> first|rfl|exact absurd rfl h
 have e2:(op == CmpOp.NotIn)=false:=by cases op <;> first|rfl|exact absurd rfl h2
 cases b <;> simp [behindInMarks,e1,e2]
def RelV.none_iff {x:V} {v:Am} (r:RelV x v):(v == Value.none)=decide (x=.non):=by
 cases x with
 | non=>cases r;rfl
 | bl _=>cases r;rfl
 | int _=>obtain ⟨t,rfl⟩:=r;rfl
 | str _=>obtain ⟨t,rfl⟩:=r;rfl
 | byt _=>obtain ⟨t,rfl⟩:=r;rfl
 | flt _=>obtain ⟨t,rfl⟩:=r;rfl
 | ref _=>cases r;rfl
 | ty _=>cases r;rfl
def tB (t:TE):TT:=λ σ H Q=>t σ H λ x H1=>bq x λ c=>Q c H1
def zeI {t:TE} (h:PC X op a b t) (h1:behindInMarks op b=false:=by walk_at "q"):PT X (.Compare a [op] [b] pos) (tB t):=by
 intro m5 s σ H Q I hw;refine wpAny_isTrue_Compare1 (thn (h m5 s σ H _ I hw) λ v s1 h1=>thn h1 λ u s2 h2=>thn h2 λ c s3 ⟨x,H1,I1,r1,q1⟩=>?_) h1;obtain ⟨d,rfl,q⟩:=zbi q1;cases r1;exact cJ ⟨H1,I1,q⟩
variable {tA tB':TT} {rest:List Expr}
def tAnd (t u:TT):TT:=λ σ H Q=>t σ H λ c H1=>if c=true then u σ H1 Q else Q false H1
def tOr (t u:TT):TT:=λ σ H Q=>t σ H λ c H1=>if c=true then Q true H1 else u σ H1 Q
def tNot (t:TT):TT:=λ σ H Q=>t σ H λ c H1=>Q (!c) H1
def pw_and1 (ha:PT X a tA):PW X (.BoolOp .And [a] pos) tA:=by
 intro wh m5 s σ H Q I h;refine isTrue_and (thn (ha m5 s σ H Q I h) λ c s1 e=>?_);cases c with
 | true=>exact isTrue_and_nil e
 | false=>exact e
def pw_or1 (ha:PT X a tA):PW X (.BoolOp .Or [a] pos) tA:=by
 intro wh m5 s σ H Q I h;refine isTrue_or (thn (ha m5 s σ H Q I h) λ c s1 e=>?_);cases c with
 | false=>exact isTrue_or_nil e
 | true=>exact e
def pw_and (ha:PT X a tA) (hb:PW X (.BoolOp .And (b :: rest) pos) tB'):PW X (.BoolOp .And (a :: b :: rest) pos) (tAnd tA tB'):=by
 intro wh m5 s σ H Q I h;refine isTrue_and (thn (ha m5 s σ H _ I h) λ c s1 ⟨H1,I1,q1⟩=>?_);cases c with
 | true=>exact hb wh m5 s1 σ H1 Q I1 q1
 | false=>exact ⟨H1,I1,q1⟩
def pw_or (ha:PT X a tA) (hb:PW X (.BoolOp .Or (b :: rest) pos) tB'):PW X (.BoolOp .Or (a :: b :: rest) pos) (tOr tA tB'):=by
 intro wh m5 s σ H Q I h;refine isTrue_or (thn (ha m5 s σ H _ I h) λ c s1 ⟨H1,I1,q1⟩=>?_);cases c with
 | true=>exact ⟨H1,I1,q1⟩
 | false=>exact hb wh m5 s1 σ H1 Q I1 q1
def xK (ha:PT X a tA):PT X (.UnaryOp .Not a pos) (tNot tA):=by
 intro m5 s σ H Q I h;exact isTrue_not (ha m5 s σ H (λ c H1=>Q (!c) H1) I h)
def tIf (t:TT) (ta tb:TE):TE:=λ σ H Q=>t σ H λ c H1=>if c=true then ta σ H1 Q else tb σ H1 Q
def ww {c:Expr} (hc:PT X c tA) (ha:PE X a ta) (hb:PE X b tb):PE X (.IfExp c a b pos) (tIf tA ta tb):=by
 intro m5 s σ H Q I h;refine wpAny_IfExp (thn (hc m5 s σ H _ I h) λ d s1 ⟨H1,I1,q1⟩=>?_);cases d with
 | true=>exact ha m5 s1 σ H1 Q I1 q1
 | false=>exact hb m5 s1 σ H1 Q I1 q1
end
def SqL (K:A0) (H:Hp) (a:Addr) (xs:Ap):Prop :=
 Rd H a (.lst xs) \/
  ∃ (o:Obj) (mX:Ac) (n:Nat),K.lookup a=some o/\o.cls=.type "list"/\o.dict=none/\o.data=.seq mX n/\mX.size<=sizeLine/\Vals xs mX.toList
def SqT (K:A0) (H:Hp) (a:Addr) (xs:Ap):Prop :=
 Rd H a (.tup xs) \/
  ∃ (o:Obj) (mX:Ac) (n:Nat),K.lookup a=some o/\o.cls=.type "tuple"/\o.data=.seq mX n/\mX.size<=sizeLine/\Vals xs mX.toList
noncomputable def zi2:Value->Option V
 | .none=>some .non
 | .bool b=>some (.bl b)
 | .int i _=>some (.int i)
 | .str x _=>some (.str x)
 | .bytes b _=>some (.byt b)
 | .float b _=>some (.flt b)
 | .ref a=>some (.ref a)
 | .type n=>some (.ty n)
 | _=>none
def RelV.abs {x:V} (r:RelV x u):zi2 u=some x:=by
 cases x with
 | non=>cases r;rfl
 | bl _=>cases r;rfl
 | int _=>obtain ⟨t,rfl⟩:=r;rfl
 | str _=>obtain ⟨t,rfl⟩:=r;rfl
 | byt _=>obtain ⟨t,rfl⟩:=r;rfl
 | flt _=>obtain ⟨t,rfl⟩:=r;rfl
 | ref _=>cases r;rfl
 | ty _=>cases r;rfl
def RelV.inj {x y:V} (r:RelV x u) (q:RelV y u):x=y:=aN (r.abs.symm.trans q.abs)
theorem Vals.inj:∀ {xs ys:Ap} {us:A7},Vals xs us->Vals ys us->xs=ys
 | _,_,_,.nil,.nil=>rfl
 | _,_,_,.cons r t,.cons r' t'=>by rw [r.inj r',Vals.inj t t']
section
variable {X:Cx} {m5:A2} {σ:St} {H:Hp} {s:An} {a:Addr} {xs ys:Ap}
def SqL.of (h:H a=some (.lst xs)):SqL K H a xs:=.inl (.inl h)
def SqT.of (h:H a=some (.tup xs)):SqT K H a xs:=.inl (.inl h)
def Inv.list (I:Inv X m5 σ H s) (h:SqL X.K H a xs):∃ mX:List Value,Vals xs mX/\PlainL s.heap a mX.toArray/\xs.length<=sizeLine:=by
 rcases h with h|⟨o,mX,n,hk,hc,hd,hs,hz,r⟩
 ·obtain ⟨z,mX,n,r,e⟩:=h.ok I.hok;exact ⟨mX,r,⟨_,n,e,rfl,rfl,rfl⟩,z⟩
 ·refine ⟨mX.toList,r,⟨o,n,I.kIn a o hk,hc,hd,by simpa using hs⟩,?_⟩;have e:=r.length;simp only [cT] at e;omega
def Inv.tuple (I:Inv X m5 σ H s) (h:SqT X.K H a xs):∃ mX:List Value,Vals xs mX/\IsTup s.heap a mX.toArray/\xs.length<=sizeLine:=by
 rcases h with h|⟨o,mX,n,hk,hc,hs,hz,r⟩
 ·obtain ⟨z,mX,r,p⟩:=h.ok I.hok;exact ⟨mX,r,p,z⟩
 ·refine ⟨mX.toList,r,⟨o,I.kIn a o hk,hc,n,by simpa using hs⟩,?_⟩;have e:=r.length;simp only [cT] at e;omega
def Inv.list_inj (I:Inv X m5 σ H s) (h:SqL X.K H a xs) (h':SqL X.K H a ys):xs=ys:=by
 obtain ⟨mX,r,⟨o,n,e,_,_,d⟩,_⟩:=I.list h;obtain ⟨its',r',⟨o',n',e',_,_,d'⟩,_⟩:=I.list h';rw [e] at e';cases e';rw [d] at d';injection d' with d1 _
 have:mX=its':=by simpa using bP Array.toList d1
 subst this;exact r.inj r'
def Inv.tuple_inj (I:Inv X m5 σ H s) (h:SqT X.K H a xs) (h':SqT X.K H a ys):xs=ys:=by
 obtain ⟨mX,r,⟨o,e,_,n,d⟩,_⟩:=I.tuple h;obtain ⟨its',r',⟨o',e',_,n',d'⟩,_⟩:=I.tuple h';rw [e] at e';cases e';rw [d] at d';injection d' with d1 _
 have:mX=its':=by simpa using bP Array.toList d1
 subst this;exact r.inj r'
end
noncomputable abbrev Cx.wish (X:Cx) (E:A3):Cx:={ X with xe:=E }
noncomputable abbrev Cx.nox (X:Cx):Cx:=X.wish λ _ _=>False
def Cx.Ok.wish (ok:X.Ok) (E:A3):(X.wish E).Ok :=
 ⟨ok.mod,ok.kind,ok.glob,ok.blt,ok.above,ok.inj,ok.has,ok.cab,ok.hd,ok.frames,ok.stk,ok.exf,ok.bs,ok.bsz,ok.noex,ok.exfs,ok.funs,ok.frf⟩
def Cx.Ok.unwish (ok:(X.wish E).Ok):X.Ok :=
 ⟨ok.mod,ok.kind,ok.glob,ok.blt,ok.above,ok.inj,ok.has,ok.cab,ok.hd,ok.frames,ok.stk,ok.exf,ok.bs,ok.bsz,ok.noex,ok.exfs,ok.funs,ok.frf⟩
section
variable {X:Cx} {m5:A2} {σ:St} {H:Hp} {s:An} {E:A3}
def Inv.wish (I:Inv X m5 σ H s) (E:A3):Inv (X.wish E) m5 σ H s:=⟨I.ok.wish E,I.os,I.bare,I.base,I.loc,I.cell,I.free,I.freeC,I.pin,I.hok,I.len⟩
def Inv.unwish (I:Inv (X.wish E) m5 σ H s):Inv X m5 σ H s:=⟨I.ok.unwish,I.os,I.bare,I.base,I.loc,I.cell,I.free,I.freeC,I.pin,I.hok,I.len⟩
def SP.unwish {D:Ends} {f:Flow} {s':An} (h:SP (X.wish E) m5 D f s'):SP X m5 D f s':=by
 cases f with
 | next=>obtain ⟨σ',H',I,q⟩:=h;exact ⟨σ',H',I.unwish,q⟩
 | brk=>obtain ⟨σ',H',I,q⟩:=h;exact ⟨σ',H',I.unwish,q⟩
 | cont=>obtain ⟨σ',H',I,q⟩:=h;exact ⟨σ',H',I.unwish,q⟩
 | ret u=>obtain ⟨v,σ',H',I,r,q⟩:=h;exact ⟨v,σ',H',I.unwish,r,q⟩
def PE.nox {e:Expr} {t:TE} (h:PE X.nox e t):PE X e t:=λ m5 s σ H Q I hw =>
 aU (h m5 s σ H Q (I.wish _) hw) (λ _ _ ⟨v,H',I',r,q⟩=>⟨v,H',I'.unwish,r,q⟩) λ _ _ z=>False.elim z
def PT.nox {e:Expr} {t:TT} (h:PT X.nox e t):PT X e t:=λ m5 s σ H Q I hw =>
 aU (h m5 s σ H Q (I.wish _) hw) (λ _ _ ⟨H',I',q⟩=>⟨H',I'.unwish,q⟩) λ _ _ z=>False.elim z
def PSs.nox {st:List Stmt} {t:TS} (h:PSs X.nox st t):PSs X st t:=λ m5 s σ H D I hw =>
 aU (h m5 s σ H D (I.wish _) hw) (λ _ _ q=>q.unwish) λ _ _ z=>False.elim z
end
section
variable {X:Cx} {st:Stmt} {rest:List Stmt} {t u:TS} {e:Expr} {te:TE} {pos:Pos}
def tNext:TS:=λ D σ H=>D.nx σ H
def tSeq (t u:TS):TS:=λ D σ H=>t { D with nx:=u D } σ H
def zp:PSs X [] tNext:=λ _ _ σ H _ I h=>cZ ⟨σ,H,I,h⟩
def zg (h1:PS X st t) (h2:PSs X rest u):PSs X (st :: rest) (tSeq t u):=by
 intro m5 s σ H D I h;refine eZ (thn (h1 m5 s σ H { D with nx:=u D } I h) λ f s1 q=>?_);cases f with
 | next =>
  obtain ⟨σ',H',I',q⟩:=q;exact h2 m5 s1 σ' H' D I' q
 | ret v=>exact q
 | brk=>exact q
 | cont=>exact q
def zc (h1:PS X st t):PSs X [st] t:=by
 intro m5 s σ H D I h;refine eZ (thn (h1 m5 s σ H D I h) λ f s1 q=>?_);cases f with
 | next=>exact cZ q
 | ret v=>exact q
 | brk=>exact q
 | cont=>exact q
def Inv.quiet (I:Inv X m5 σ H s):interactive X.env=false:=by simp [interactive,I.ok.kind]
def tDrop (te:TE):TS:=λ D σ H=>te σ H λ _ H1=>D.nx σ H1
def zu (he:PE X e te) (hs:swapsWith e none pos.line X.env=pure false:=by rfl):PS X (.Expr e pos) (tDrop te):=by
 intro m5 s σ H D I h;exact wpAny_Expr_any (qM (he m5 s σ H _ I h) λ v s1 x H1 I1 r1 q1=>⟨σ,H1,I1,q1⟩) I.quiet hs
def tRet (te:TE):TS:=λ D σ H=>te σ H D.rt
def zl (he:PE X e te):PS X (.Return (some e) pos) (tRet te):=by
 intro m5 s σ H D I h;exact wpAny_Return_some (qM (he m5 s σ H _ I h) λ v s1 x H1 I1 r1 q1=>⟨x,σ,H1,I1,r1,q1⟩)
def tIfS (c:TT) (t u:TS):TS:=λ D σ H=>c σ H λ b H1=>if b=true then t D σ H1 else u D σ H1
def zD {c:Expr} {a b:List Stmt} {tc:TT} (hc:PT X c tc) (ha:PSs X a t) (hb:PSs X b u):PS X (.If c a b pos) (tIfS tc t u):=by
 intro m5 s σ H D I h;refine wpAny_If (thn (hc m5 s σ H _ I h) λ d s1 ⟨H1,I1,q1⟩=>?_);cases d with
 | true=>exact ha m5 s1 σ H1 D I1 q1
 | false=>exact hb m5 s1 σ H1 D I1 q1
end
abbrev TG:=V->St->Hp->(St->Hp->Prop)->Prop
abbrev TGs:=List V->St->Hp->(St->Hp->Prop)->Prop
def PG (X:Cx) (target:Expr) (t:TG):Prop :=
 ∀ (m5:A2) (s:An) (σ:St) (H:Hp) (v:V) (u:Am) (Q:St->Hp->Prop),Inv X m5 σ H s->RelV v u->t v σ H Q ->
  wpAny (model X.prog X.w) X.A (assign target X.env u) (λ _ s'=>∃ σ' H',Inv X m5 σ' H' s'/\Q σ' H') X.xe s
def PGs (X:Cx) (ts:List Expr) (t:TGs):Prop :=
 ∀ (m5:A2) (s:An) (σ:St) (H:Hp) (vs:Ap) (us:A7) (Q:St->Hp->Prop),Inv X m5 σ H s->Vals vs us->t vs σ H Q ->
  wpAny (model X.prog X.w) X.A (assignInOrder ((assignEach ts X.env).map (·.2)) us) (λ _ s'=>∃ σ' H',Inv X m5 σ' H' s'/\Q σ' H') X.xe s
abbrev zfI:=V->V->V->Hp->(Hp->Prop)->Prop
def zh2 (X:Cx) (t:zfI):Prop :=
 ∀ (m5:A2) (s:An) (σ:St) (H:Hp) (o i v:V) (ov iv u:Am) (Q:Hp->Prop),Inv X m5 σ H s->RelV o ov->RelV i iv->RelV v u->t o i v H Q ->
  wpAny (model X.prog X.w) X.A (setItem ov iv u) (λ _ s'=>∃ H',Inv X m5 σ H' s'/\Q H') X.xe s
abbrev TIp:=V->V->Hp->VK->Prop
def PIp (X:Cx) (op:Operator) (t:TIp):Prop :=
 ∀ (m5:A2) (s:An) (σ:St) (H:Hp) (x y:V) (v u:Am) (Q:VK),Inv X m5 σ H s->RelV x v->RelV y u->t x y H Q ->
  wpAny (model X.prog X.w) X.A (inplaceOp op v u) (EP X m5 σ Q) X.xe s
section
variable {X:Cx} {pos:Pos}
def gName (i:Nat):TG:=λ v σ H Q=>Q (σ.set i (some v)) H
def Ze (hN:X.N.Nodup) (hi:X.N[i]?=some x) (hx:Loc X.env.scope x) (hf:X.fn x=true\/X.env.scope.names.lookup x=some .local:=by walk_at "p"):PG X (.Name x pos) (gName i):=by
 intro m5 s σ H v u Q I r h;exact wpAny_assign_Name (JH I hN hi hx r (λ s' I'=>⟨_,H,I',h⟩) hf)
def gNil:TGs:=λ vs σ H Q=>vs=[]/\Q σ H
def gCons (t:TG) (u:TGs):TGs:=λ vs σ H Q=>∃ v r,vs=v :: r/\t v σ H λ σ' H'=>u r σ' H' Q
def jF:PGs X [] gNil:=by
 intro m5 s σ H vs us Q I r h;obtain ⟨e,h⟩:=h;subst e;cases r;exact assignInOrder_nil ⟨σ,H,I,h⟩
theorem z9 {e:Expr} {es:List Expr} {t:TG} {u:TGs} (h1:PG X e t) (h2:PGs X es u)
  (hs:(assignEach (e :: es) X.env).map (·.2)=assign e X.env :: (assignEach es X.env).map (·.2):=by rfl):PGs X (e :: es) (gCons t u):=by
 intro m5 s σ H vs us Q I r h;obtain ⟨v,vr,e1,h⟩:=h;subst e1;cases r with
 | cons r rr =>
  rw [hs];refine assignInOrder_cons (thn (h1 m5 s σ H _ _ _ I r h) λ _ s1 ⟨σ1,H1,I1,q1⟩=>?_);exact h2 m5 s1 σ1 H1 _ _ Q I1 rr q1
def gTup (K:A0) (n:Nat) (t:TGs):TG:=λ v σ H Q=>∃ a xs,v=.ref a/\SqT K H a xs/\xs.length=n/\t xs σ H Q
def xL {es:List Expr} {t:TGs} {n:Nat} (hc:X.calm=true) (h:PGs X es t)
  (hn:(assignEach es X.env).length=n:=by rfl) (hst:(assignEach es X.env).findIdx? (·.1)=none:=by rfl):PG X (.Tuple es k pos) (gTup X.K n t):=by
 intro m5 s σ H v u Q I r hw;obtain ⟨a,xs,e1,hq,hl,hw⟩:=hw;subst e1;cases r;obtain ⟨mX,rv,ht,hz⟩:=I.tuple hq;refine assign_Tuple_tuple (I.ok.hd hc) ht (by simp [hn,<- hl,rv.length]) hst λ h' hx=>?_;have I1:Inv X m5 σ H { s with heap:=h' }:=I.kept (t':=s.toks) λ b o e=>hx b o (aK (az e)) e;exact h m5 _ σ H xs _ Q I1 (by simpa using rv) hw
def gSub (to ti:TE) (t:zfI):TG:=λ v σ H Q=>to σ H λ o H1=>ti σ H1 λ i H2=>t o i v H2 λ H3=>Q σ H3
def Xc {o i:Expr} {to ti:TE} {t:zfI} (ho:PE X o to) (hi:PE X i ti) (hs:zh2 X t)
  (ha:∀ v,assign (.Subscript o i pos) X.env v=(do
   let ov <- holding [v] (eval o X.env)
   let iv <- holding [v,ov] (eval i X.env)
   standAt pos
   holding [v,ov,iv] (setItem ov iv v)
   release [v,ov,iv] []):=by intro _;rfl):PG X (.Subscript o i pos) (gSub to ti t):=by
 intro m5 s σ H v u Q I r h;rw [ha];refine ad (dD (qM (ho m5 s σ H _ I h) λ ov s1 x H1 I1 r1 q1=>?_));refine ad (dD (qM (hi m5 s1 σ H1 _ I1 q1) λ iv s2 y H2 I2 r2 q2=>?_));refine ad (fW (ad (dD (thn (hs m5 s2 σ H2 x y v ov iv u _ I2 r1 r2 r q2) λ _ s3 ⟨H3,I3,q3⟩=>?_))));exact wpAny_release ⟨σ,H3,I3,q3⟩
def tAsg (te:TE) (g:TG):TS:=λ D σ H=>te σ H λ x H1=>g x σ H1 D.nx
def J9 {tg e:Expr} {te:TE} {g:TG} (he:PE X e te) (hg:PG X tg g) (hs:swapsWithSole [tg] e pos.line X.env=pure false:=by rfl) (hw:swappedStores [tg] e X.env=pure none:=by rfl)
  (h1:(assignEach [tg] X.env).map (·.2)=[assign tg X.env]:=by rfl):PS X (.Assign [tg] e pos) (tAsg te g):=by
 intro m5 s σ H D I h;refine wpAny_Assign_stores (qM (he m5 s σ H _ I h) λ v s1 x H1 I1 r1 q1=>?_) hs hw;rw [h1];exact thn (hg m5 s1 σ H1 x v _ I1 r1 q1) λ _ s2 q=>q
def J8 {e:Expr} {te:TE} {pos':Pos} (hN:X.N.Nodup) (hi:X.N[i]?=some x) (hx:Loc X.env.scope x) (he:PE X e te) (hs:swapsWith e (some (.Name x pos')) pos.line X.env=pure false:=by rfl) (hf:X.fn x=true\/X.env.scope.names.lookup x=some .local:=by walk_at "p") :
  PS X (.Assign [.Name x pos'] e pos) (tAsg te (gName i)):=by
 intro m5 s σ H D I h;refine wpAny_Assign_Name (qM (he m5 s σ H _ I h) λ v s1 y H1 I1 r1 q1=>?_) hs;exact JH I1 hN hi hx r1 (λ s2 I2=>⟨_,H1,I2,q1⟩) hf
def tAug (i:Nat) (te:TE) (ti:TIp):TS:=λ D σ H=>vq σ[i]? λ x=>te σ H λ y H1=>ti x y H1 λ z H2=>D.nx (σ.set i (some z)) H2
def zhj {e:Expr} {te:TE} {op:Operator} {ti:TIp} {pos':Pos} (hN:X.N.Nodup) (hi:X.N[i]?=some x) (hx:Loc X.env.scope x) (he:PE X e te) (ho:PIp X op ti) (hf:X.fn x=true\/X.env.scope.names.lookup x=some .local:=by walk_at "p") :
  PS X (.AugAssign (.Name x pos') op e pos) (tAug i te ti):=by
 intro m5 s σ H D I h;obtain ⟨v,e1,h⟩:=zgK h;obtain ⟨m,hn,hl⟩:=I.loc;have vis:Vis X.env.scope x:=by rcases hx with k|k;exact .inl k;exact .inr (.inl k)
 obtain ⟨u,r,l⟩:=hl i x v hi e1 vis;refine wpAny_AugAssign_Name ?_;have go:wpAny (model X.prog X.w) X.A (eval e X.env) (λ w s₂=>wpAny (model X.prog X.w) X.A (inplaceOp op u w) (λ r s₃=>wpAny (model X.prog X.w) X.A (storeName X.env x r) (λ _=>SP X m5 D .next) X.xe s₃) X.xe s₂) X.xe s:=by
  refine qM (he m5 s σ H _ I h) λ w s1 y H1 I1 r1 q1=>?_;refine qM (ho m5 s1 σ H1 v y u w _ I1 r r1 q1) λ z s2 zv H2 I2 r2 q2=>?_;exact JH I2 hN hi hx r2 (λ s3 I3=>⟨_,H2,I3,q2⟩) hf
 rcases l with ⟨hk,hm⟩|⟨hk,c,hc,hcell⟩
 ·exact wpAny_loadName_local I.ok.kind hk hn hm go
 ·rcases hk with hk|hk
  ·exact wpAny_loadName_cell I.ok.kind hk hc hcell go
  ·rcases hx with k|k
   ·have:X.env.scope.names.lookup x=some .free:=hk;rw [k] at this;cases this
   ·have:X.env.scope.names.lookup x=some .free:=hk;rw [k] at this;cases this
def zgO (to ti te:TE) (tget:V->V->Hp->VK->Prop) (tip:TIp) (tset:zfI):TS:=λ D σ H=>to σ H λ o H1=>ti σ H1 λ i H2=>tget o i H2 λ x H3=>te σ H3 λ y H4=>tip x y H4 λ z H5=>tset o i z H5 λ H6=>D.nx σ H6
def ziL (X:Cx) (t:V->V->Hp->VK->Prop):Prop :=
 ∀ (m5:A2) (s:An) (σ:St) (H:Hp) (o i:V) (ov iv:Am) (Q:VK),Inv X m5 σ H s->RelV o ov->RelV i iv->t o i H Q ->
  wpAny (model X.prog X.w) X.A (getItem ov iv) (EP X m5 σ Q) X.xe s
def zf9 {o i e:Expr} {to ti te:TE} {tget:V->V->Hp->VK->Prop} {tip:TIp} {tset:zfI} {op:Operator} {tpos:Pos} (ho:PE X o to) (hi:PE X i ti) (hg:ziL X tget) (he:PE X e te) (hp:PIp X op tip) (hs:zh2 X tset)
  (ha:∀ ov iv new,augStore i ov iv new=(do holding [new,ov,iv] (setItem ov iv new);release [new,ov,iv] [];pure .next):=by intros;rfl):PS X (.AugAssign (.Subscript o i tpos) op e pos) (zgO to ti te tget tip tset):=by
 intro m5 s σ H D I h;refine wpAny_AugAssign_SubscriptAny (qM (ho m5 s σ H _ I h) λ ov s1 x1 H1 I1 r1 q1=>?_) ha;refine qM (hi m5 s1 σ H1 _ I1 q1) λ iv s2 x2 H2 I2 r2 q2=>?_;refine qM (hg m5 s2 σ H2 x1 x2 ov iv _ I2 r1 r2 q2) λ old s3 x3 H3 I3 r3 q3=>?_;refine qM (he m5 s3 σ H3 _ I3 q3) λ v s4 x4 H4 I4 r4 q4=>?_;refine qM (hp m5 s4 σ H4 x3 x4 old v _ I4 r3 r4 q4) λ new s5 x5 H5 I5 r5 q5=>?_;exact thn (hs m5 s5 σ H5 x1 x2 x5 ov iv new _ I5 r1 r2 r5 q5) λ _ s6 ⟨H6,I6,q6⟩=>⟨σ,H6,I6,q6⟩
def ipI (f:Int->Int->Int):TIp:=λ x y H Q=>iq x λ i=>iq y λ j=>Q (.int (f i j)) H
def zhK:PIp X .Add (ipI λ i j=>i + j):=by
 intro m5 s σ H x y v u Q I r1 r2 h;obtain ⟨i,j,e1,e2,q⟩:=QS h;subst e1;subst e2;obtain ⟨t,rfl⟩:=r1;obtain ⟨t',rfl⟩:=r2;exact iadd_int ⟨.int _,H,I.tok _,⟨_,rfl⟩,q⟩
def zhJ:PIp X .Sub (ipI λ i j=>i - j):=by
 intro m5 s σ H x y v u Q I r1 r2 h;obtain ⟨i,j,e1,e2,q⟩:=QS h;subst e1;subst e2;obtain ⟨t,rfl⟩:=r1;obtain ⟨t',rfl⟩:=r2;exact isub_int ⟨.int _,H,I.tok _,⟨_,rfl⟩,q⟩
end
section
variable {X:Cx} {pos:Pos}
def zg5 (c:TT) (tb:TS):TS:=λ D σ H=>∃ W:Nat->St->Hp->Prop,(∃ m,W m σ H)/\∀ m σ H,W m σ H ->
 c σ H λ b H1=>if b=true then ∃ N:St->Hp->Prop,(∀ σ' H',N σ' H'->∃ m',m' < m/\W m' σ' H')/\tb { D with nx:=N,ct:=N,bk:=D.nx } σ H1 else D.nx σ H1
def zaB {c:Expr} {body:List Stmt} {tc:TT} {tb:TS} (hp:PassesOwn (model X.prog X.w) X.A X.env X.xe) (hc:PT X c tc) (hb:PSs X body tb):PS X (.While c body [] pos) (zg5 tc tb):=by
 intro m5 s σ H D I h;obtain ⟨W,⟨m0,w0⟩,turn⟩:=h;refine wpAny_While (codeAny_whileLoop (λ n s'=>∃ σ' H',Inv X m5 σ' H' s'/\W n σ' H') ?_ m0 ⟨σ,H,I,w0⟩);rintro n s1 ⟨σ1,H1,I1,w1⟩;refine b7 hp (thn (hc m5 s1 σ1 H1 _ I1 (turn n σ1 H1 w1)) λ b s2 ⟨H2,I2,q2⟩=>?_);cases b with
 | true =>
  obtain ⟨N,hN,q2⟩:=q2;rw [ap rfl];refine b7 hp (thn (hb m5 s2 σ1 H2 _ I2 q2) λ f s3 q3=>?_);cases f with
  | next =>
   obtain ⟨σ3,H3,I3,n3⟩:=q3;obtain ⟨m',hm,w3⟩:=hN σ3 H3 n3;exact ⟨m',hm,σ3,H3,I3,w3⟩
  | cont =>
   obtain ⟨σ3,H3,I3,n3⟩:=q3;obtain ⟨m',hm,w3⟩:=hN σ3 H3 n3;exact ⟨m',hm,σ3,H3,I3,w3⟩
  | brk=>exact q3
  | ret v=>exact q3
 | false =>
  rw [am aA];exact cZ ⟨σ1,H2,I2,q2⟩
end
structure It where
 go:Nat->Hp->Prop
 yld:Nat->Hp->V->Hp->Prop
 stop:Nat->Hp->Prop
def QX (X:Cx) (m5:A2) (H:Hp) (b:Addr):Prop :=
 H b=none/\b≠X.env.locals/\b ∉ X.fs/\(b∈X.ex\/X.s₀.heap.objs.size<=b)/\(∀ x c,X.env.cells.lookup x=some c->c≠b)/\∀ p∈X.pn ++ m5,p.1≠b
def Inv.fpOk {H H':Hp} (I:Inv X m5 σ H s) (hb:s.heap.objs.size<=b) (hn:H' b=none):QX X m5 H' b:=by
 refine ⟨hn,cx (aI I.lt hb),I.nofs hb,.inr (ba I.sz hb),λ x c e z=>?_,λ p hp z=>?_⟩
 ·obtain ⟨v,q⟩:=I.cell x c e;exact absurd (aI q.lt (by rw [z];exact hb)) (cI _)
 ·exact absurd (aI (az (I.pin p hp).1) (by rw [z];exact hb)) (cI _)
structure Turn (P:Af) (w:World) (K:A0) (tg:Expr) (J:It) (fp:Ab) (it:Addr) (tn:Nat->Heap->Prop):Prop where
 mem:it∈fp
 obj:∀ i h,tn i h->∀ b∈fp,∃ o,h.get? b=some o/\∀ v,o.data≠.cell v
 keep:∀ i h h',tn i h->(∀ b∈fp,∀ o,h.get? b=some o->h'.get? b=some o)->tn i h'
 item:∀ (X:Cx),X.prog=P->X.w=w->X.K=K->X.calm=true->∀ (i:Nat) (m5:A2) (s:An) (σ:St) (H:Hp) (E:A3),Inv X m5 σ H s->(∀ b∈fp,QX X m5 H b)->tn i s.heap->J.go i H ->
  wpAny (model P w) X.A (pyNext (.ref it)) (λ r s1=>∃ u,r=some u /\
   wpAny (model P w) X.A (letOwnedTupleGo tg (.ref it) u) (λ _ s2=>∃ x H',Inv X m5 σ H' s2/\RelV x u/\J.yld i H x H'/\tn (i + 1) s2.heap/\∀ b∈fp,H' b=none) E s1) E s
 done:∀ (X:Cx),X.prog=P->X.w=w->X.K=K->X.calm=true->∀ (i:Nat) (m5:A2) (s:An) (σ:St) (H:Hp) (E:A3),Inv X m5 σ H s->(∀ b∈fp,QX X m5 H b)->tn i s.heap->J.stop i H ->
  wpAny (model P w) X.A (pyNext (.ref it)) (λ r s1=>r=none/\Inv X m5 σ H s1) E s
 self:∀ (A:Ao) (i:Nat) (s:An) (Q:A3) (E:A3),tn i s.heap->Q (.ref it) s->wpAny (model P w) A (pyIter (.ref it)) Q E s
abbrev TI:=St->Hp->(It->Hp->Prop)->Prop
def PIE (X:Cx) (m5:A2) (σ:St) (tg:Expr) (R:It->Hp->Prop) (itv:Am) (s2:An):Prop :=
 ∃ (it:Addr) (fp:Ab) (tn:Nat->Heap->Prop) (J:It) (H':Hp),itv=.ref it/\Inv X m5 σ H' s2/\Turn X.prog X.w X.K tg J fp it tn/\tn 0 s2.heap/\(∀ b∈fp,QX X m5 H' b)/\R J H'
def PI (X:Cx) (tg iter:Expr) (wi:TI):Prop :=
 ∀ (m5:A2) (s:An) (σ:St) (H:Hp) (R:It->Hp->Prop),Inv X m5 σ H s->wi σ H R ->
  wpAny (model X.prog X.w) X.A (eval iter X.env) (λ v s1=>wpAny (model X.prog X.w) X.A (pyIter v) (PIE X m5 σ tg R) X.xe s1) X.xe s
theorem zcP {it:Addr} {o:Obj} {n:String} {vs:Ac} {Q:Ag} (ho:s.heap.get? it=some o) (hc:o.cls=.type n) (hd:o.data=.fields vs)
  (hn:["enumerate","zip","dict_itemiterator","dict_reverseitemiterator","odict_iterator","itertools.zip_longest","itertools.pairwise"].contains n=false) (hQ:Q () s):wpAny M A (letOwnedTupleGo tg (.ref it) u) Q E s:=by
 unfold letOwnedTupleGo;cases tg <;> first
  | exact aC hQ
  | (cases u <;> first
    | exact aC hQ
    | (refine ad (wpAny_load ho ?_)
       rw [hc,hd];show wpAny M A (if (["enumerate","zip","dict_itemiterator","dict_reverseitemiterator","odict_iterator","itertools.zip_longest","itertools.pairwise"].contains n && vs[0]? == some (rawInt _))=true then _ else _) Q E s
       rw [am (by intro h;rw [hn,Bool.false_and] at h;cases h)];exact aC hQ))
noncomputable def Itl (K:A0) (a:Addr):It :=
 ⟨λ i H=>∃ xs x,SqL K H a xs/\xs[i]?=some x,λ i H x H'=>H'=H/\∀ xs,SqL K H a xs->xs[i]?=some x,λ i H=>∃ xs,SqL K H a xs/\xs.length<=i⟩
noncomputable def Itt (K:A0) (a:Addr):It :=
 ⟨λ i H=>∃ xs x,SqT K H a xs/\xs[i]?=some x,λ i H x H'=>H'=H/\∀ xs,SqT K H a xs->xs[i]?=some x,λ i H=>∃ xs,SqT K H a xs/\xs.length<=i⟩
noncomputable def Itr (lo:Int) (n:Nat):It:=⟨λ i _=>i < n,λ i H x H'=>H'=H/\x=.int (lo + i),λ i _=>n<=i⟩
def zdc (a it:Addr):Turn P w K tg (Itl K a) [it] it (λ i h=>h.IsListIter it a i) where
 mem:=by simp
 obj:=λ i h st b hb=>by
  have e:b=it:=by simpa using hb
  subst e;obtain ⟨o,e,c,d⟩:=st;exact ⟨o,e,λ v z=>by rw [d] at z;cases z⟩
 keep:=λ i h h' st k=>st.at λ o e=>k it (by simp) o e
 item:=by
  intro X hP hw hK hc i m5 s σ H E I hf st hg;subst hP hw hK;obtain ⟨xs,x,hq,hx⟩:=hg;obtain ⟨mX,rv,p,hz⟩:=I.list hq;obtain ⟨u,hu,ru⟩:=rv.get hx;obtain ⟨f0,f1,f2,f3,f4,f5⟩:=hf it (by simp);refine wpAny_pyNext_list_item st p.isList (x:=u) (by simpa using hu) λ h' st' sb=>?_;have I1:Inv X m5 σ H { s with heap:=h' }:=I.turned (t':=s.toks) (λ b o hb e=>(sb.2 b hb).trans e) f0 f1 f3 f4 f5;obtain ⟨o,e,c,d⟩:=id st';exact ⟨u,rfl,zcP (s:={ s with heap:=h' }) e c d (by decide) ⟨x,H,I1,ru,⟨rfl,λ ys hy=>by rw [I.list_inj hy hq];exact hx⟩,st',λ b hb=>(hf b hb).1⟩⟩
 done:=by
  intro X hP hw hK hc i m5 s σ H E I hf st hg;subst hP hw hK;obtain ⟨xs,hq,hx⟩:=hg;obtain ⟨mX,rv,p,hz⟩:=I.list hq;obtain ⟨f0,f1,f2,f3,f4,f5⟩:=hf it (by simp);have hl:=rv.length;exact wpAny_pyNext_list_end (I.ok.hd hc) st p.isList (by simp;omega) λ h' eb=>⟨rfl,I.turned (t':=s.toks) (λ b o hb e=>eb b o hb e) f0 f1 f3 f4 f5⟩
 self:=λ _ _ _ _ _ st h=>wpAny_pyIter_listiter st h
def zbr (a it:Addr):Turn P w K tg (Itt K a) [it] it (λ i h=>h.IsTupleIter it a i) where
 mem:=by simp
 obj:=λ i h st b hb=>by
  have e:b=it:=by simpa using hb
  subst e;obtain ⟨o,e,c,d⟩:=st;exact ⟨o,e,λ v z=>by rw [d] at z;cases z⟩
 keep:=λ i h h' st k=>st.at λ o e=>k it (by simp) o e
 item:=by
  intro X hP hw hK hc i m5 s σ H E I hf st hg;subst hP hw hK;obtain ⟨xs,x,hq,hx⟩:=hg;obtain ⟨mX,rv,p,hz⟩:=I.tuple hq;obtain ⟨u,hu,ru⟩:=rv.get hx;obtain ⟨f0,f1,f2,f3,f4,f5⟩:=hf it (by simp);refine wpAny_pyNext_tuple_item st (show s.heap.IsTuple a mX.toArray from p) (x:=u) (by simpa using hu) λ h' st' sb=>?_;have I1:Inv X m5 σ H { s with heap:=h' }:=I.turned (t':=s.toks) (λ b o hb e=>(sb.2 b hb).trans e) f0 f1 f3 f4 f5;obtain ⟨o,e,c,d⟩:=id st';exact ⟨u,rfl,zcP (s:={ s with heap:=h' }) e c d (by decide) ⟨x,H,I1,ru,⟨rfl,λ ys hy=>by rw [I.tuple_inj hy hq];exact hx⟩,st',λ b hb=>(hf b hb).1⟩⟩
 done:=by
  intro X hP hw hK hc i m5 s σ H E I hf st hg;subst hP hw hK;obtain ⟨xs,hq,hx⟩:=hg;obtain ⟨mX,rv,p,hz⟩:=I.tuple hq;obtain ⟨f0,f1,f2,f3,f4,f5⟩:=hf it (by simp);have hl:=rv.length;exact wpAny_pyNext_tuple_end (I.ok.hd hc) st (show s.heap.IsTuple a mX.toArray from p) (by simp;omega) λ h' eb=>⟨rfl,I.turned (t':=s.toks) (λ b o hb e=>eb b o hb e) f0 f1 f3 f4 f5⟩
 self:=λ _ _ _ _ _ st h=>wpAny_pyIter_tupleiter st h
def zbs (it:Addr) (lo:Int) (n:Nat):Turn P w K tg (Itr lo n) [it] it (λ i h=>IsRangeIter h it (lo + (i:Nat) * 1) ((n:Int) - (i:Nat)) 1) where
 mem:=by simp
 obj:=λ i h st b hb=>by
  have e:b=it:=by simpa using hb
  subst e;exact ⟨_,st,λ v z=>by
   have z':Data.fields _=Data.cell v:=z;cases z'⟩
 keep:=λ i h h' st k=>k it (by simp) _ st
 item:=by
  intro X hP hw hK hc i m5 s σ H E I hf st hg;subst hP hw hK;obtain ⟨f0,f1,f2,f3,f4,f5⟩:=hf it (by simp);have W:=Walks.range (prog:=X.prog) (w:=X.w) (I.ok.hd hc) it lo 1 n;refine W.item i s _ _ hg st λ v h' tk hv st' kk=>?_;obtain ⟨t,rfl⟩:=hv;have I1:Inv X m5 σ H { s with heap:=h',toks:=tk }:=I.turned (λ b o hb e=>kk b o (by simpa using hb) e) f0 f1 f3 f4 f5;refine ⟨_,rfl,zcP (s:={ s with heap:=h',toks:=tk }) (n:="range_iterator") st' rfl rfl (by decide) ⟨.int (lo + i),H,I1,⟨t,?_⟩,⟨rfl,rfl⟩,st',λ b hb=>(hf b hb).1⟩⟩;rw [Int.mul_one]
 done:=by
  intro X hP hw hK hc i m5 s σ H E I hf st hg;subst hP hw hK;obtain ⟨f0,f1,f2,f3,f4,f5⟩:=hf it (by simp);exact wpAny_pyNext_range_end (I.ok.hd hc) st (by have:n<=i:=hg;omega) λ h' eb=>⟨rfl,I.turned (t':=s.toks) (λ b o hb e=>eb b o hb e) f0 f1 f3 f4 f5⟩
 self:=λ _ _ _ _ _ st h=>wpAny_pyIter_rangeiter st h
section
variable {X:Cx} {tg:Expr}
def zeE {R:It->Hp->Prop} {lo hi:Int} {t u v:Tok} {tk:Nat} (I:Inv X m5 σ H s) (h1:-(2 ^ 62)<=lo) (h2:lo < 2 ^ 62) (h3:-(2 ^ 62)<=hi) (h4:hi < 2 ^ 62)
  (q:R (Itr lo (hi - lo).toNat) H):wpAny (model X.prog X.w) X.A (pyIter (.ref s.heap.objs.size)) (PIE X m5 σ tg R) E { s with heap:=s.heap.push { cls:=.type "range",data:=.fields #[.int lo t,.int hi u,.int 1 v] },toks:=tk }:=by
 refine wpAny_pyIter_range (IsRange.new ..) (small_one h1 h2 h3 h4) ?_;have I1:Inv X m5 σ H { s with heap:=s.heap.push { cls:=.type "range",data:=.fields #[.int lo t,.int hi u,.int 1 v] },toks:=tk }:=I.kept λ b o e=>ai _ e;refine ⟨(s.heap.push { cls:=.type "range",data:=.fields #[.int lo t,.int hi u,.int 1 v] }).objs.size,[(s.heap.push { cls:=.type "range",data:=.fields #[.int lo t,.int hi u,.int 1 v] }).objs.size],_,_,H,rfl,
  I1.kept (t':=tk) λ b o e=>ai _ e,zbs _ lo (hi - lo).toNat,?_,λ b hb=>?_,q⟩
 ·have e1:lo + ((0:Nat):Int) * 1=lo:=by simp
  have e2:(((hi - lo).toNat:Nat):Int) - ((0:Nat):Int)=Builtin.Range.rangeSize lo hi 1:=by rw [rangeSize_one];split <;> omega
  show IsRangeIter _ _ (lo + ((0:Nat):Int) * 1) ((((hi - lo).toNat:Nat):Int) - ((0:Nat):Int)) 1
  rw [e1,e2];exact aD _ rfl
 ·have e:b=(s.heap.push { cls:=.type "range",data:=.fields #[.int lo t,.int hi u,.int 1 v] }).objs.size:=by simpa using hb
  subst e;exact I1.fpOk (aq _) (I1.hok.fresh (aq _))
def iRng1 (ta:TA):TI:=λ σ H R=>ta σ H λ vs H1=>lq vs λ v=>iq v λ j=>-(2 ^ 62)<=j/\j < 2 ^ 62/\R (Itr 0 j.toNat) H1
def zdD {a:Expr} {ta:TA} {p pos:Pos} (hg:Gl X "range") (hm:X.mg "range"=none) (ha:PA X [a] ta) (hs:starEach [a] X.env=[(false,eval a X.env)]:=by rfl):PI X tg (.Call (.Name "range" p) [a] [] pos) (iRng1 ta):=by
 intro m5 s σ H R I h;refine Call_ (wY I hg hm boot_range (aZ (vt (ha pos m5 s σ H _ I h) λ us s1 vs H1 I1 r1 q1=>?_) hs rfl));obtain ⟨v,e,q0⟩:=ze3 q1;clear q1;obtain ⟨j,e2,q1,q2,q⟩:=Qk q0;subst e2;subst e;cases r1 with
 | cons r rr =>
  cases rr;obtain ⟨t,rfl⟩:=r;exact call_range_1 (zeE I1 (by omega) (by omega) q1 q2 (by simpa using q))
def tFor (wi:TI) (g:TG) (tb:TS):TS:=λ D σ H=>wi σ H λ J H1=>∃ W:Nat->Nat->St->Hp->Prop,(∃ m,W 0 m σ H1)/\∀ i m σ H,W i m σ H ->
 (J.stop i H/\D.nx σ H)\/(J.go i H/\∃ N:St->Hp->Prop,(∀ σ' H',N σ' H'->∃ m',m' < m/\W (i + 1) m' σ' H')/\∀ x H',J.yld i H x H'->g x σ H' λ σ2 H2=>tb { D with nx:=N,ct:=N,bk:=D.nx } σ2 H2)
noncomputable def Xb (fp:Ab) (h:Heap):List (Addr × Obj):=fp.filterMap λ b=>(h.get? b).map λ o=>(b,o)
def wX {fp:Ab} {h:Heap} {o:Obj} (hb:b∈fp) (e:h.get? b=some o):(b,o)∈Xb fp h:=dX.mpr ⟨b,hb,by rw [e];rfl⟩
def zdH {fp:Ab} {h:Heap} {p:Addr × Obj} (hp:p∈Xb fp h):p.1∈fp/\h.get? p.1=some p.2:=by
 obtain ⟨b,hb,e⟩:=dX.mp hp;cases q:h.get? b with
 | none=>rw [q] at e;cases e
 | some o =>
  rw [q] at e;have e':(b,o)=p:=aN e;subst e';exact ⟨hb,q⟩
def Inv.pinned {fp:Ab} (I:Inv X m5 σ H s) (hf:∀ b∈fp,QX X m5 H b) (ho:∀ b∈fp,∃ o,s.heap.get? b=some o/\∀ v,o.data≠.cell v):Inv X (m5 ++ Xb fp s.heap) σ H s :=
 I.pins_of λ p hp=>(aF.mp hp).elim (λ z=>I.pin p (aX _ z)) λ z=>by
  obtain ⟨hb,e⟩:=zdH z;obtain ⟨f0,f1,f2,_⟩:=hf p.1 hb;obtain ⟨o,e',d⟩:=ho p.1 hb;rw [e] at e';cases e';exact ⟨e,f0,f1,f2,d⟩
def Inv.unpinned {m5 pl:A2} (I:Inv X (m5 ++ pl) σ H s):Inv X m5 σ H s:=I.pins_of λ p hp=>I.pin p (aX _ (bF _ hp))
theorem qo {iter:Expr} {body:List Stmt} {wi:TI} {g:TG} {tb:TS} (hp:PassesOwn (model X.prog X.w) X.A X.env X.xe) (hc:X.calm=true) (hi:PI X tg iter wi) (hg:PG X tg g) (hb:PSs X body tb)
  (hs:∀ x,foldedSetIterable iter X.env x=pure x:=by intro _;rfl):PS X (.For tg iter body [] pos) (tFor wi g tb):=by
 intro m5 s σ H D I h;refine wpAny_For (thn (hi m5 s σ H _ I h) λ v s1 h1=>thn h1 λ itv s2 h2=>?_) hs;obtain ⟨it,fp,tn,J,H2,e,I2,T,st2,f2,W,⟨m0,w0⟩,turn⟩:=h2;subst e;have stat:∀ {H':Hp},(∀ b∈fp,H' b=none)->∀ b∈fp,QX X m5 H' b:=λ hn b hb=>⟨hn b hb,(f2 b hb).2⟩;refine codeAny_forLoop_any (λ n s'=>∃ i σ' H',Inv X m5 σ' H' s'/\tn i s'.heap/\(∀ b∈fp,H' b=none)/\W i n σ' H') ?_ m0 ⟨0,σ,H2,I2,st2,λ b hb=>(f2 b hb).1,w0⟩;rintro n s3 ⟨i,σ3,H3,I3,st3,fr3,w3⟩;rcases turn i n σ3 H3 w3 with ⟨stop,qn⟩|⟨go,N,hN,step⟩
 ·refine b7 hp (thn (T.done X rfl rfl rfl hc i m5 s3 σ3 H3 X.xe I3 (stat fr3) st3 stop) λ r s4 ⟨hr,I4⟩=>?_);subst hr;exact cZ ⟨σ3,H3,I4,qn⟩
 ·refine b7 hp (thn (T.item X rfl rfl rfl hc i m5 s3 σ3 H3 X.xe I3 (stat fr3) st3 go) λ r s4 ⟨u,hr,h4⟩=>?_);subst hr;refine b7 hp (thn h4 λ _ s5 ⟨x,H5,I5,r5,y5,st5,fr5⟩=>?_);have I5':=I5.pinned (stat fr5) (T.obj _ _ st5);refine b7 hp (thn (hg _ s5 σ3 H5 x u _ I5' r5 (step x H5 y5)) λ _ s6 ⟨σ6,H6,I6,q6⟩=>?_);refine b7 hp (thn (hb _ s6 σ6 H6 _ I6 q6) λ f s7 q7=>?_);have again:∀ {σ7:St} {H7:Hp},Inv X (m5 ++ Xb fp s5.heap) σ7 H7 s7->N σ7 H7->∃ m,m < n/\∃ i σ' H',Inv X m5 σ' H' s7/\tn i s7.heap/\(∀ b∈fp,H' b=none)/\W i m σ' H':=λ {σ7 H7} I7 n7=>by
   obtain ⟨m',hm,w7⟩:=hN σ7 H7 n7;refine ⟨m',hm,i + 1,σ7,H7,I7.unpinned,T.keep _ _ _ st5 λ b hb o e=>(I7.pin (b,o) (aX _ (aX _ (wX hb e)))).1,λ b hb=>?_,w7⟩;obtain ⟨o,e,d⟩:=T.obj _ _ st5 b hb;exact (I7.pin (b,o) (aX _ (aX _ (wX hb e)))).2.1
  cases f with
  | next=>obtain ⟨σ7,H7,I7,n7⟩:=q7;exact again I7 n7
  | cont=>obtain ⟨σ7,H7,I7,n7⟩:=q7;exact again I7 n7
  | brk=>obtain ⟨σ7,H7,I7,q7⟩:=q7;exact ⟨σ7,H7,I7.unpinned,q7⟩
  | ret v=>obtain ⟨x7,σ7,H7,I7,r7,q7⟩:=q7;exact ⟨x7,σ7,H7,I7.unpinned,r7,q7⟩
end
abbrev R2:=V->V->Hp->VK->Prop
def OpR (X:Cx) (f:Al) (r:R2):Prop :=
 ∀ (m5:A2) (s:An) (σ:St) (H:Hp) (x y:V) (v u:Am) (Q:VK),Inv X m5 σ H s->RelV x v->RelV y u->r x y H Q ->
  wpAny (model X.prog X.w) X.A (f v u) (EP X m5 σ Q) X.xe s
def UnR (X:Cx) (f:Value->Sem Value) (r:V->Hp->VK->Prop):Prop :=
 ∀ (m5:A2) (s:An) (σ:St) (H:Hp) (x:V) (v:Am) (Q:VK),Inv X m5 σ H s->RelV x v->r x H Q ->
  wpAny (model X.prog X.w) X.A (f v) (EP X m5 σ Q) X.xe s
def CallR (X:Cx) (f:Am) (r:List V->Hp->VK->Prop):Prop :=
 ∀ (m5:A2) (s:An) (σ:St) (H:Hp) (xs:Ap) (us:A7) (Q:VK),Inv X m5 σ H s->Vals xs us->r xs H Q ->
  wpAny (model X.prog X.w) X.A (call f us) (EP X m5 σ Q) X.xe s
def zi3 (X:Cx) (r:V->Hp->(Bool->Hp->Prop)->Prop):Prop :=
 ∀ (m5:A2) (s:An) (σ:St) (H:Hp) (x:V) (v:Am) (Q:Bool->Hp->Prop),Inv X m5 σ H s->RelV x v->r x H Q ->
  wpAny (model X.prog X.w) X.A (truthy v) (TP X m5 σ Q) X.xe s
def tOp (r:R2) (ta tb:TE):TE:=λ σ H Q=>ta σ H λ x H1=>tb σ H1 λ y H2=>r x y H2 Q
def tUn (r:V->Hp->VK->Prop) (ta:TE):TE:=λ σ H Q=>ta σ H λ x H1=>r x H1 Q
def rI (C:Int->Int->Prop) (g:Int->Int->V):R2:=λ x y H Q=>iq x λ i=>iq y λ j=>C i j/\Q (g i j) H
def rI0 (g:Int->Int->V):R2:=λ x y H Q=>iq x λ i=>iq y λ j=>Q (g i j) H
def rU (g:Int->V):V->Hp->VK->Prop:=λ x H Q=>iq x λ i=>Q (g i) H
section
variable {X:Cx} {a b c:Expr} {ta tb tc:TE} {pos:Pos}
def zhX (ha:PE X a ta) (hb:PE X b tb) {R:V->V->Hp->Prop} (I:Inv X m5 σ H s)
  (h:ta σ H λ x H1=>tb σ H1 λ y H2=>R x y H2)
  (hf:∀ v u s2 x y H2,Inv X m5 σ H2 s2->RelV x v->RelV y u->R x y H2->wpAny (model X.prog X.w) X.A (f v u) Q X.xe s2) :
  wpAny (model X.prog X.w) X.A (eval a X.env) (λ v s₁=>wpAny (model X.prog X.w) X.A (eval b X.env) (λ u s₂=>wpAny (model X.prog X.w) X.A (f v u) Q X.xe s₂) X.xe s₁) X.xe s:=by
 refine qM (ha m5 s σ H _ I h) λ v s1 x H1 I1 r1 q1=>?_;refine qM (hb m5 s1 σ H1 _ I1 q1) λ u s2 y H2 I2 r2 q2=>?_;exact hf v u s2 x y H2 I2 r1 r2 q2
def zr {op:Operator} {r:R2} (ho:OpR X (binaryOp op) r) (ha:PE X a ta) (hb:PE X b tb):PE X (.BinOp a op b pos) (tOp r ta tb):=by
 intro m5 s σ H Q I h;exact wpAny_BinOp (zhX ha hb I h λ v u s2 x y H2 I2 rx ry q=>ho m5 s2 σ H2 x y v u Q I2 rx ry q)
def vK {op:UnaryOp} {r:V->Hp->VK->Prop} (ho:UnR X (unaryOp op) r) (ha:PE X a ta):PE X (.UnaryOp op a pos) (tUn r ta):=by
 intro m5 s σ H Q I h;exact UnaryOp_ (qM (ha m5 s σ H _ I h) λ v s1 x H1 I1 r1 q1=>ho m5 s1 σ H1 x v Q I1 r1 q1)
def opI {C:Int->Int->Prop} {g:Int->Int->Int}
  (rule:∀ (i j:Int) (t u:Tok) (s:An) (Q:A3) (E:A3),C i j->Q (.int (g i j) s.toks) { s with toks:=s.toks + 1 }->wpAny (model X.prog X.w) X.A (f (.int i t) (.int j u)) Q E s) :
  OpR X f (rI C λ i j=>.int (g i j)):=by
 intro m5 s σ H x y v u Q I rx ry h;obtain ⟨i,j,rfl,rfl,hc,q⟩:=QS h;obtain ⟨t,rfl⟩:=rx;obtain ⟨t',rfl⟩:=ry;exact rule i j t t' s _ _ hc ⟨.int (g i j),H,I.tok _,⟨_,rfl⟩,q⟩
def ziq {g:Int->Int->Int}
  (rule:∀ (i j:Int) (t u:Tok) (s:An) (Q:A3) (E:A3),Q (.int (g i j) s.toks) { s with toks:=s.toks + 1 }->wpAny (model X.prog X.w) X.A (f (.int i t) (.int j u)) Q E s) :
  OpR X f (rI0 λ i j=>.int (g i j)):=by
 intro m5 s σ H x y v u Q I rx ry h;obtain ⟨i,j,rfl,rfl,q⟩:=QS h;obtain ⟨t,rfl⟩:=rx;obtain ⟨t',rfl⟩:=ry;exact rule i j t t' s _ _ ⟨.int (g i j),H,I.tok _,⟨_,rfl⟩,q⟩
def zhr {g:Int->Int->Bool}
  (rule:∀ (i j:Int) (t u:Tok) (s:An) (Q:A3) (E:A3),Q (.bool (g i j)) s->wpAny (model X.prog X.w) X.A (f (.int i t) (.int j u)) Q E s) :
  OpR X f (rI0 λ i j=>.bl (g i j)):=by
 intro m5 s σ H x y v u Q I rx ry h;obtain ⟨i,j,rfl,rfl,q⟩:=QS h;obtain ⟨t,rfl⟩:=rx;obtain ⟨t',rfl⟩:=ry;exact rule i j t t' s _ _ ⟨.bl (g i j),H,I,rfl,q⟩
def zi5 (i j:Int):Prop:=0 < j/\j < 1073741824
def ziO (i j:Int):Prop:=0<=j/\j<=1000000/\i.natAbs < 2 ^ 64
def CMul (i j:Int):Prop:=(-(2 ^ 64) < i/\i < 2 ^ 64)\/(-(2 ^ 64) < j/\j < 2 ^ 64)
def CMul.ok {i j:Int} (h:CMul i j):IntMulOk i j:=by
 rcases h with ⟨h1,h2⟩|⟨h1,h2⟩
 ·exact .of_left (intBits_le_64 h1 h2)
 ·exact .of_right (intBits_le_64 h1 h2)
def op_add:OpR X (binaryOp .Add) (rI0 λ i j=>.int (i + j)):=ziq λ _ _ _ _ _ _ _ q=>add_int q
def xn:OpR X (binaryOp .Sub) (rI0 λ i j=>.int (i - j)):=ziq λ _ _ _ _ _ _ _ q=>sub_int q
def zgf:OpR X (binaryOp .FloorDiv) (rI zi5 λ i j=>.int (i / j)):=opI λ i j _ _ _ _ _ hc q=>by
 have h1:(0:Int) < j:=hc.1;have h2:j < 1073741824:=hc.2;exact floordiv_int (by omega) (by rw [cY i (by omega)];exact q) (.inl (ft (by omega)))
def qu:OpR X (binaryOp .Mod) (rI (λ _ j=>0 < j) λ i j=>.int (i % j)):=opI λ i j _ _ _ _ _ hc q=>by
 have h1:(0:Int) < j:=hc;exact mod_int' (by omega) (by rw [Int.fmod_eq_emod_of_nonneg i (by omega)];exact q)
def zhq:OpR X (binaryOp .Pow) (rI ziO λ i j=>.int (i ^ j.toNat)):=opI λ _ _ _ _ _ _ _ hc q=>pow_int_small hc.1 hc.2.1 hc.2.2 q
def unI {f:Value->Sem Value} {g:Int->Int}
  (rule:∀ (i:Int) (t:Tok) (s:An) (Q:A3) (E:A3),Q (.int (g i) s.toks) { s with toks:=s.toks + 1 }->wpAny (model X.prog X.w) X.A (f (.int i t)) Q E s) :
  UnR X f (rU λ i=>.int (g i)):=by
 intro m5 s σ H x v Q I rx h;obtain ⟨i,rfl,q⟩:=Qk h;obtain ⟨t,rfl⟩:=rx;exact rule i t s _ _ ⟨.int (g i),H,I.tok _,⟨_,rfl⟩,q⟩
def xy:UnR X (unaryOp .USub) (rU λ i=>.int (-i)):=unI λ _ _ _ _ _ q=>neg_int q
end
noncomputable def zid:V->V->Bool
 | .non,.non=>true | .non,.int _=>true | .int _,.non=>true | .non,.bl _=>true | .bl _,.non=>true | .non,.str _=>true | .str _,.non=>true
 | .int _,.int _=>true | .bl _,.bl _=>true | .str _,.str _=>true | .byt _,.byt _=>true
 | .int _,.str _=>true | .str _,.int _=>true | .bl _,.str _=>true | .str _,.bl _=>true
 | _,_=>false
def rEq:R2:=λ x y H Q=>zid x y=true/\Q (.bl (decide (x=y))) H
def rNe:R2:=λ x y H Q=>zid x y=true/\Q (.bl (!decide (x=y))) H
def zcZ {i j:Int}:decide (V.int i=V.int j)=(i == j):=by
 rw [dC];simp
def zfr {i j:Bool}:decide (V.bl i=V.bl j)=(i == j):=by
 rw [dC];simp
def zcY {i j:Str}:decide (V.str i=V.str j)=(i == j):=by
 rw [dC];simp
def zc0 {i j:Array UInt8}:decide (V.byt i=V.byt j)=(i.toList == j.toList):=by
 rw [dC];cases i;cases j;simp
section
variable {X:Cx} {a b c:Expr} {ta tb tc:TE} {pos:Pos}
def qe {Q:VK} {k k':Bool} (I:Inv X m5 σ H s) (q:Q (.bl k) H) (e:k=k'):EP X m5 σ Q (.bool k') s:=by
 subst e;exact ⟨.bl k,H,I,rfl,q⟩
def op_eq:OpR X (compareOp .Eq) rEq:=by
 intro m5 s σ H x y v u Q I rx ry h;obtain ⟨hs,q⟩:=h;cases x with
 | non =>
  cases rx;cases y with
  | non=>cases ry;exact PySem.EqNone.eq_none_none (qe I q (by simp))
  | bl j=>cases ry;exact PySem.EqNone.eq_none_bool (qe I q (by simp))
  | int j=>obtain ⟨t',rfl⟩:=ry;exact PySem.EqNone.eq_none_int (qe I q (by simp))
  | str j=>obtain ⟨t',rfl⟩:=ry;exact PySem.EqNone.eq_none_str (qe I q (by simp))
  | _=>exact absurd (show false=true from hs) aA
 | bl i =>
  cases rx;cases y with
  | non=>cases ry;exact PySem.EqNone.eq_bool_none (qe I q (by simp))
  | bl j=>cases ry;exact eq_bool (qe I q zfr)
  | str j=>obtain ⟨t',rfl⟩:=ry;exact PySem.EqMixed.eq_bool_str (qe I q (by simp))
  | _=>exact absurd (show false=true from hs) aA
 | int i =>
  obtain ⟨t,rfl⟩:=rx;cases y with
  | non=>cases ry;exact PySem.EqNone.eq_int_none (qe I q (by simp))
  | int j=>obtain ⟨t',rfl⟩:=ry;exact eq_int (qe I q zcZ)
  | str j=>obtain ⟨t',rfl⟩:=ry;exact PySem.EqMixed.eq_int_str (qe I q (by simp))
  | _=>exact absurd (show false=true from hs) aA
 | str i =>
  obtain ⟨t,rfl⟩:=rx;cases y with
  | non=>cases ry;exact PySem.EqNone.eq_str_none (qe I q (by simp))
  | bl j=>cases ry;exact PySem.EqMixed.eq_str_bool (qe I q (by simp))
  | int j=>obtain ⟨t',rfl⟩:=ry;exact PySem.EqMixed.eq_str_int (qe I q (by simp))
  | str j=>obtain ⟨t',rfl⟩:=ry;exact eq_str (qe I q zcY)
  | _=>exact absurd (show false=true from hs) aA
 | byt i =>
  obtain ⟨t,rfl⟩:=rx;cases y with
  | byt j=>obtain ⟨t',rfl⟩:=ry;exact PySem.W.eq_bytes (qe I q zc0)
  | _=>exact absurd (show false=true from hs) aA
 | _=>cases y <;> exact absurd (show false=true from hs) aA
def op_ne:OpR X (compareOp .NotEq) rNe:=by
 intro m5 s σ H x y v u Q I rx ry h;obtain ⟨hs,q⟩:=h;cases x with
 | non =>
  cases rx;cases y with
  | non=>cases ry;exact PySem.EqNone.ne_none_none (qe I q (by simp))
  | bl j=>cases ry;exact PySem.EqNone.ne_none_bool (qe I q (by simp))
  | int j=>obtain ⟨t',rfl⟩:=ry;exact PySem.EqNone.ne_none_int (qe I q (by simp))
  | str j=>obtain ⟨t',rfl⟩:=ry;exact PySem.EqNone.ne_none_str (qe I q (by simp))
  | _=>exact absurd (show false=true from hs) aA
 | bl i =>
  cases rx;cases y with
  | non=>cases ry;exact PySem.EqNone.ne_bool_none (qe I q (by simp))
  | bl j=>cases ry;exact ne_bool (qe I q (bP not zfr))
  | str j=>obtain ⟨t',rfl⟩:=ry;exact PySem.EqMixed.ne_bool_str (qe I q (by simp))
  | _=>exact absurd (show false=true from hs) aA
 | int i =>
  obtain ⟨t,rfl⟩:=rx;cases y with
  | non=>cases ry;exact PySem.EqNone.ne_int_none (qe I q (by simp))
  | int j=>obtain ⟨t',rfl⟩:=ry;exact ne_int (qe I q (bP not zcZ))
  | str j=>obtain ⟨t',rfl⟩:=ry;exact PySem.EqMixed.ne_int_str (qe I q (by simp))
  | _=>exact absurd (show false=true from hs) aA
 | str i =>
  obtain ⟨t,rfl⟩:=rx;cases y with
  | non=>cases ry;exact PySem.EqNone.ne_str_none (qe I q (by simp))
  | bl j=>cases ry;exact PySem.EqMixed.ne_str_bool (qe I q (by simp))
  | int j=>obtain ⟨t',rfl⟩:=ry;exact PySem.EqMixed.ne_str_int (qe I q (by simp))
  | str j=>obtain ⟨t',rfl⟩:=ry;exact ne_str (qe I q (bP not zcY))
  | _=>exact absurd (show false=true from hs) aA
 | byt i =>
  obtain ⟨t,rfl⟩:=rx;cases y with
  | byt j=>obtain ⟨t',rfl⟩:=ry;exact PySem.W.ne_bytes (qe I q (bP not zc0))
  | _=>exact absurd (show false=true from hs) aA
 | _=>cases y <;> exact absurd (show false=true from hs) aA
def op_lt:OpR X (compareOp .Lt) (rI0 λ i j=>.bl (decide (i < j))):=zhr λ _ _ _ _ _ _ _ q=>lt_int q
def op_le:OpR X (compareOp .LtE) (rI0 λ i j=>.bl (decide (i<=j))):=zhr λ _ _ _ _ _ _ _ q=>le_int q
def op_gt:OpR X (compareOp .Gt) (rI0 λ i j=>.bl (decide (j < i))):=zhr λ _ _ _ _ _ _ _ q=>gt_int q
def op_isN:OpR X (compareOp .Is) (λ x y H Q=>nq y (Q (.bl (decide (x=.non))) H)):=by
 intro m5 s σ H x y v u Q I rx ry h;obtain ⟨rfl,q⟩:=zcF h;cases ry;refine is_none_gen (qe I q ?_);cases x <;> first
  | (cases rx;rfl)
  | (obtain ⟨t,rfl⟩:=rx;rfl)
def op_notN:OpR X (compareOp .IsNot) (λ x y H Q=>nq y (Q (.bl (!decide (x=.non))) H)):=by
 intro m5 s σ H x y v u Q I rx ry h;obtain ⟨rfl,q⟩:=zcF h;cases ry;refine isnot_none_gen (qe I q ?_);cases x <;> first
  | (cases rx;rfl)
  | (obtain ⟨t,rfl⟩:=rx;rfl)
def OpR.or {r r':R2} (h:OpR X f r) (h':OpR X f r'):OpR X f (λ x y H Q=>r x y H Q\/r' x y H Q):=by
 intro m5 s σ H x y v u Q I rx ry q;rcases q with q|q
 ·exact h m5 s σ H x y v u Q I rx ry q
 ·exact h' m5 s σ H x y v u Q I rx ry q
def zt (b:Expr) (h:op≠.In:=by decide) (h2:op≠.NotIn:=by decide):behindInMarks op b=false:=by
 have e1:(op == CmpOp.In)=false:=by cases op <;> first|rfl|exact absurd rfl h
 have e2:(op == CmpOp.NotIn)=false:=by cases op <;> first|rfl|exact absurd rfl h2
 cases b <;> simp [behindInMarks,e1,e2]
def zcB {r:R2} (ho:OpR X (compareOp op) r) (ha:PE X a ta) (hb:PE X b tb) (hm:behindInMarks op b=false):PE X (.Compare a [op] [b] pos) (tOp r ta tb):=by
 intro m5 s σ H Q I h;exact wpAny_Compare1 (zhX ha hb I h λ v u s2 x y H2 I2 rx ry q=>ho m5 s2 σ H2 x y v u Q I2 rx ry q) hm
def tTest (t:TE):TT:=λ σ H Q=>t σ H λ x H'=>bq x λ k=>Q k H'
def zm {r:R2} (ho:OpR X (compareOp op) r) (ha:PE X a ta) (hb:PE X b tb) (hm:behindInMarks op b=false):PT X (.Compare a [op] [b] pos) (tTest (tOp r ta tb)):=by
 intro m5 s σ H Q I h;refine wpAny_isTrue_Compare1 (qM (ha m5 s σ H _ I h) λ v s1 x H1 I1 r1 q1=>qM (hb m5 s1 σ H1 _ I1 q1) λ u s2 y H2 I2 r2 q2 =>
  thn (ho m5 s2 σ H2 x y v u _ I2 r1 r2 q2) λ c s3 ⟨z,H3,I3,r3,q3⟩=>?_) hm
 obtain ⟨k,e,q3⟩:=zbi q3;subst e;cases r3;exact cJ ⟨H3,I3,q3⟩
def tChain (r r':R2) (ta tb tc:TE):TE:=λ σ H Q=>ta σ H λ x H1=>tb σ H1 λ y H2=>r x y H2 λ z H3=>bq z λ k =>
 (if k=true then tc σ H3 λ w' H4=>r' y w' H4 Q else Q (.bl false) H3)
theorem jZ {op op':CmpOp} {r r':R2} (ho:OpR X (compareOp op) r) (ho':OpR X (compareOp op') r') (ha:PE X a ta) (hb:PE X b tb) (hc:PE X c tc)
  (hm:lastMarks [op,op'] [b,c]=false:=by with_unfolding_all rfl):PT X (.Compare a [op,op'] [b,c] pos) (tTest (tChain r r' ta tb tc)):=by
 intro m5 s σ H Q I h;refine isTrue_chain (qM (ha m5 s σ H _ I h) λ v s1 x H1 I1 r1 q1=>test_link (qM (hb m5 s1 σ H1 _ I1 q1) λ u s2 y H2 I2 r2 q2 =>
  thn (ho m5 s2 σ H2 x y v u _ I2 r1 r2 q2) λ d s3 ⟨z,H3,I3,r3,q3⟩=>?_)) hm
 obtain ⟨k,e,q3⟩:=zbi q3;subst e;cases r3;refine cJ ?_;cases k with
 | false =>
  obtain ⟨k',e',q'⟩:=zbi q3;cases e';exact ite_ff ⟨H3,I3,q'⟩
 | true =>
  refine ite_tt (test_last (thn (hc m5 s3 σ H3 _ I3 q3) λ w' s4 ⟨z',H4,I4,r4,q4⟩=>thn (ho' m5 s4 σ H4 y z' u w' _ I4 r2 r4 q4) λ d' s5 ⟨z2,H5,I5,r5,q5⟩=>?_));obtain ⟨k2,e2,q5⟩:=zbi q5;subst e2;cases r5;exact cJ ⟨H5,I5,q5⟩
def zec (K:A0) (x:V) (H:Hp) (k:Bool):Prop :=
 match x with
 | .non=>k=false
 | .bl b=>k=b
 | .int i=>k=(i != 0)
 | .str y=>y.length<=sizeLine/\k=((y.length:Int) != 0)
 | .byt y=>y.size<=sizeLine/\k=((y.size:Int) != 0)
 | .ref p=>(∃ xs,SqL K H p xs/\k=!xs.isEmpty)\/(∃ xs,SqT K H p xs/\k=!xs.isEmpty)\/∃ mW,H p=some (.dK mW)/\k=!mW.isEmpty
 | _=>False
def zb8 {κ:Type} {mW:List (κ × V)} {vs:List (κ × Value)} (r:KV mW vs):(!vs.isEmpty)=!mW.isEmpty:=by
 cases r <;> rfl
def Xz {xs:Ap} {mX:A7} (r:Vals xs mX):(!mX.toArray.isEmpty)=!xs.isEmpty:=by
 cases r <;> simp
def ZR:(sizeLine:Nat) < 2 ^ 63:=by rw [fk];decide
def zg3:zi3 X (λ x H Q=>∃ k,zec X.K x H k/\Q k H):=by
 intro m5 s σ H x v Q I rx h;obtain ⟨k,e,q⟩:=h;have hl:=ZR;have hs:sizeLine=16777216:=fk;cases x with
 | non =>
  cases rx;have e':k=false:=e;subst e';exact truthy_none ⟨H,I,q⟩
 | bl b =>
  cases rx;have e':k=b:=e;subst e';exact cJ ⟨H,I,q⟩
 | int i =>
  obtain ⟨t,rfl⟩:=rx;have e':k=(i != 0):=e;subst e';exact PySem.P.truthy_int ⟨H,I,q⟩
 | str y =>
  obtain ⟨t,rfl⟩:=rx;obtain ⟨hy,e'⟩:y.length<=sizeLine/\k=((y.length:Int) != 0):=e;subst e';exact PySem.P.truthy_str (by omega) ⟨H,I.tok _,q⟩
 | byt y =>
  obtain ⟨t,rfl⟩:=rx;obtain ⟨hy,e'⟩:y.size<=sizeLine/\k=((y.size:Int) != 0):=e;subst e';exact PySem.W.truthy_bytes (by omega) ⟨H,I.tok _,q⟩
 | ref p =>
  cases rx;have e':(∃ xs,SqL X.K H p xs/\k=!xs.isEmpty)\/(∃ xs,SqT X.K H p xs/\k=!xs.isEmpty)\/∃ mW,H p=some (.dK mW)/\k=!mW.isEmpty:=e;rcases e' with ⟨xs,hx,e'⟩|⟨xs,hx,e'⟩|⟨mW,hx,e'⟩
  ·subst e';obtain ⟨mX,r,pl,hz⟩:=I.list hx;have hlen:=r.length;exact wpAny_truthy_list pl.isList (by simp only [av];omega) ⟨H,I.tok _,by rw [Xz r];exact q⟩
  ·subst e';obtain ⟨mX,r,pl,hz⟩:=I.tuple hx;have hlen:=r.length;exact truthy_tuple pl (by simp only [av];omega) ⟨H,I.tok _,by rw [Xz r];exact q⟩
  ·subst e';obtain ⟨hz,hS,vs,r,m⟩:mW.length<=sizeLine/\(p == sysModules)=false/\∃ vs,KV mW vs/\s.heap.DictOf (qW X.prog X.w) p vs:=I.hok p _ hx;have hlen:mW.length=vs.length:=cv r;exact wpAny_truthy_dict hS m (by omega) ⟨H,I.tok _,by rw [zb8 r];exact q⟩
 | _=>exact (show False from e).elim
def trq (K:A0) (x:V) (H:Hp) (Q:Bool->Hp->Prop):Prop :=
 match x with
 | .bl b=>Q b H
 | x=>∃ k,zec K x H k/\Q k H
def zg4 {x:V} {Q:Bool->Hp->Prop} (h:trq K x H Q):∃ k,zec K x H k/\Q k H:=by
 cases x <;> first|exact ⟨_,rfl,h⟩|exact h
def tTru (K:A0) (ta:TE):TT:=λ σ H Q=>ta σ H λ x H'=>trq K x H' Q
def jY (ha:PE X a ta) (he:∀ whole,isTrue a X.env whole=(do let v <- whole;standAt a.pos;holding [v] (truthy v))) :
  PT X a (tTru X.K ta):=by
 intro m5 s σ H Q I h;exact isTrue_plain (qM (ha m5 s σ H _ I h) λ v s1 x H1 I1 r1 q1=>zg3 m5 s1 σ H1 x v Q I1 r1 (zg4 q1)) (he _)
def op_add_str:OpR X (binaryOp .Add) (λ x y H Q=>∃ i j,x=.str i/\y=.str j/\i.length + j.length<=sizeLine/\Q (.str (i ++ j)) H):=by
 intro m5 s σ H x y v u Q I rx ry h;obtain ⟨i,j,rfl,rfl,hz,q⟩:=h;obtain ⟨t,rfl⟩:=rx;obtain ⟨t',rfl⟩:=ry;exact add_str (λ t' tk=>⟨.str (i ++ j),H,I.tok _,⟨_,rfl⟩,q⟩) hz
def QZ {x:V} (r:Vals [x] us):∃ u,us=[u]/\RelV x u:=by
 cases r with
 | cons r1 r2=>cases r2;exact ⟨_,rfl,r1⟩
def zeg {x y:V} (r:Vals [x,y] us):∃ u w',us=[u,w']/\RelV x u/\RelV y w':=by
 cases r with
 | cons r1 r2 =>
  cases r2 with
  | cons r3 r4=>cases r4;exact ⟨_,_,rfl,r1,r3⟩
def zfw:CallR X (.builtin "abs") (λ xs H Q=>∃ i,xs=[.int i]/\Q (.int (if i < 0 then -i else i)) H):=by
 intro m5 s σ H xs us Q I r h;obtain ⟨i,rfl,q⟩:=h;obtain ⟨u,rfl,t,rfl⟩:=QZ r;exact call_abs_int λ u tk=>⟨.int (if i < 0 then -i else i),H,I.tok _,⟨_,rfl⟩,q⟩
def WN (hc:X.calm=true):CallR X (.builtin "max") (λ xs H Q=>∃ i j,xs=[.int i,.int j]/\Q (.int (if j > i then j else i)) H):=by
 intro m5 s σ H xs us Q I r h;obtain ⟨i,j,rfl,q⟩:=h;obtain ⟨u,w',rfl,⟨t,rfl⟩,⟨t',rfl⟩⟩:=zeg r;refine max_two_ints (I.ok.hd hc) λ h' tk k=>⟨_,H,I.kept k,?_,q⟩;by_cases hj:j > i
 ·rw [ap hj,ap hj];exact ⟨_,rfl⟩
 ·rw [am hj,am hj];exact ⟨_,rfl⟩
def zd2 (hc:X.calm=true):CallR X (.builtin "min") (λ xs H Q=>∃ i j,xs=[.int i,.int j]/\Q (.int (if j < i then j else i)) H):=by
 intro m5 s σ H xs us Q I r h;obtain ⟨i,j,rfl,q⟩:=h;obtain ⟨u,w',rfl,⟨t,rfl⟩,⟨t',rfl⟩⟩:=zeg r;refine min_two_ints (I.ok.hd hc) λ h' tk k=>⟨_,H,I.kept k,?_,q⟩;by_cases hj:j < i
 ·rw [ap hj,ap hj];exact ⟨_,rfl⟩
 ·rw [am hj,am hj];exact ⟨_,rfl⟩
def ziM (K:A0) (x:V) (H:Hp) (n:Nat):Prop :=
 match x with
 | .str y=>y.length<=sizeLine/\n=y.length
 | .byt y=>y.size<=sizeLine/\n=y.size
 | .ref p=>(∃ xs,SqL K H p xs/\n=xs.length)\/∃ xs,SqT K H p xs/\n=xs.length
 | _=>False
def zfv:CallR X (.builtin "len") (λ xs H Q=>∃ x n,xs=[x]/\ziM X.K x H n/\Q (.int n) H):=by
 intro m5 s σ H xs us Q I r h;obtain ⟨x,n,rfl,e,q⟩:=h;obtain ⟨u,rfl,rx⟩:=QZ r;have hl:=ZR;have hs:sizeLine=16777216:=fk;cases x with
 | str y =>
  obtain ⟨t,rfl⟩:=rx;obtain ⟨hy,e'⟩:y.length<=sizeLine/\n=y.length:=e;subst e';exact len_str (by omega) ⟨.int _,H,I.tok _,⟨_,rfl⟩,q⟩
 | byt y =>
  obtain ⟨t,rfl⟩:=rx;obtain ⟨hy,e'⟩:y.size<=sizeLine/\n=y.size:=e;subst e';exact PySem.W.len_bytes (by omega) ⟨.int _,H,I.tok _,⟨_,rfl⟩,q⟩
 | ref p =>
  cases rx;have e':(∃ xs,SqL X.K H p xs/\n=xs.length)\/∃ xs,SqT X.K H p xs/\n=xs.length:=e;rcases e' with ⟨xs,hx,e'⟩|⟨xs,hx,e'⟩
  ·subst e';obtain ⟨mX,r',pl,hz⟩:=I.list hx;have hlen:=r'.length;exact Calls.call_len_list pl.isList (by simp only [av];omega) ⟨.int xs.length,H,I.tok _,⟨_,by simp only [av];rw [hlen]⟩,q⟩
  ·subst e';obtain ⟨mX,r',pl,hz⟩:=I.tuple hx;have hlen:=r'.length;exact len_tuple pl (by simp only [av];omega) ⟨.int xs.length,H,I.tok _,⟨_,by simp only [av];rw [hlen]⟩,q⟩
 | _=>exact (show False from e).elim
end
structure ObjM (h:Heap) (x dx C:Addr) (mA:A4):Prop where
 obj:h.get? x=some (instObj C dx)
 ns:h.Ns1 dx mA
 ne:dx≠x
def zdK {h:Heap} {dx:Addr} {mA:A4} (n:h.Ns1 dx mA):∃ od,h.get? dx=some od/\∀ name,lookIn name od=some (mA name):=by
 obtain ⟨o,es,ep,ho,hd,hk,_,hm⟩:=n;refine ⟨o,ho,λ name=>?_⟩;have e:=hm name;unfold nsFind findBy at e;rw [<- Array.find?_toList] at e;unfold lookIn;rw [hd];dsimp only
 split
 ·rename_i y q;rw [q] at e;exact bP some e
 ·rename_i q;rw [q] at e;have a:es.toList.any (·.refKey)=false:=by
   rw [List.any_eq_false];intro y hy;obtain ⟨z,t,hkey⟩:=hk y (Array.mem_toList_iff.mp hy);simp [DictEntry.refKey,hkey]
  have a':¬ es.toList.any (·.refKey)=true:=by rw [a];exact aA
  rw [am a'];exact bP some e
def ObjM.look {h:Heap} {x dx C:Addr} {mA:A4} (I:ObjM h x dx C mA):∃ od,PySem.W.InstAt h x (instObj C dx) C (some od)/\∀ name,lookIn name od=some (mA name) :=
 let ⟨od,ho,hl⟩:=zdK I.ns
 ⟨od,⟨I.obj,rfl,rfl,ho⟩,hl⟩
section
variable {prog:Af} {w:World} {A:Ao} {E:A3} {s:An} {K:A0} {x dx C f:Addr} {mA:A4} {name:Str} {v:Am}
def zgt {expr:Bool} (X:K.In s.heap) (I:ObjM s.heap x dx C mA) (hg:plainGet K C name=true) (hh:hasDictIn K C=true)
  (ha:findIn K (.ref C) name=some none) (hv:mA name=some v) (hv':handedIn v=true) (h:Q v { s with toks:=s.toks + 1 }) :
  wpAny (model prog w) A (getAttr (.ref x) name expr) Q E s:=by
 obtain ⟨od,J,hl⟩:=I.look;exact PySem.W.get_value X J (plainGet_of hg).1 (PySem.W.findObj_own hh ha rfl (by rw [hl,hv])) hv' h
def zfh {pl:Sem Bool} {Q:Value × List Value->Shared->Prop} (X:K.In s.heap) (I:ObjM s.heap x dx C mA) (hg:plainGet K C name=true)
  (hf:findIn K (.ref C) name=some (some (.ref f))) (ht:isFn K (.ref f)=true) (hv:mA name=none) (h:Q (.ref f,[.ref x]) s) :
  wpAny (model prog w) A (getMethod (.ref x) name pl) Q E s:=by
 obtain ⟨od,J,hl⟩:=I.look;exact PySem.W.method_fn X J (plainGet_of hg).1 (plainGet_of hg).2 hf (bx.mp ht) (by show (lookIn name od).map (·.isSome)=some false;rw [hl,hv];rfl) h
def zfU {ns:A8} {Q:Ag} (X:K.In s.heap) (I:ObjM s.heap x dx C mA)
  (hs:findIn K (.ref C) "__setattr__"=some (some (.builtin "object.__setattr__"))) (hp:plainOver K C=true) (ht:takerIn K C name=some none) (hh:hasDictIn K C=true)
  (hw:PySem.Within mA ns) (hsz:ns.length<=sizeLine)
  (h:∀ h',ObjM h' x dx C (λ y=>if y=name then some v else mA y)->Heap.SameBut dx s.heap h'->Q () { s with heap:=h',toks:=s.toks + 2 }) :
  wpAny (model prog w) A (setAttr (.ref x) name v) Q E s:=by
 obtain ⟨od,J,hl⟩:=I.look;refine PySem.W.set_plain X J hs (PySem.W.osa_open (s:={ s with toks:=s.toks + 1 }) (r:=none) X J hp ht λ b=>?_);obtain ⟨cd,hc,hd'⟩:=f9 hh;have hx:s.heap.get? x=some ⟨.ref C,some dx,.plain,#[]⟩:=I.obj;refine ad (aC (ad (ad (wpAny_loadPart hx (ad (PySem.W.Looks.here (s:={ s with toks:=s.toks + 1 }) (PySem.W.looks_clsIn X hc) ?_))))));rw [hd'];refine aC (a:=some dx) (ad (aC (ad ?_)));refine wpAny_nsSet1 (s:={ s with toks:=s.toks + 1 }) I.ns λ h' hn2 hs2=>?_;obtain ⟨oD,esD,epD,hoD,hdD,hcD⟩:=hn2.count (PySem.Within.cons name v hw);refine ad (wpAny_lookBehind hoD (by rw [hdD];exact pastItsLine_dict (ba hcD (by rw [bz];omega))) ?_);exact aC (h _ ⟨(hs2.2 _ (aW I.ne)).trans I.obj,hn2,I.ne⟩ hs2)
def zaQ {R:Result->Shared->Prop} {vs:A7} {kw:List (Str × Value)} (X:K.In s.heap) (hm:makesIn K C=true)
  (hi:findIn K (.ref C) "__init__"=some (some (.ref f))) (hf:typeIn K (.ref f)=some (.type "function"))
  (h:codeAny (model prog w) (A.under (.builtin "type.__call__" ⟨.ref C :: vs,kw⟩)) (.call (.ref f) ⟨.ref (s.heap.objs.size + 1) :: vs,kw⟩) (PySem.W.InitBack (s.heap.objs.size + 1) R)
   { s with heap:=(s.heap.push emptyDict).push (instObj C s.heap.objs.size) }) :
  codeAny (model prog w) A (.call (.ref C) ⟨vs,kw⟩) R s:=by
 obtain ⟨hh,g,d,t,os⟩:=s;exact PySem.W.make_core (PySem.W.makes_of X hm) (looks_findIn X hi) (λ self=>PySem.W.bind_fn X self hf) (.inl rfl) h
end
noncomputable def zP (f:Str) (v:V):List (Str × V)->List (Str × V)
 | []=>[(f,v)]
 | (g,x) :: r=>if g=f then (g,v) :: r else (g,x) :: zP f v r
theorem zA (f g:Str) (v:V):∀ fs:List (Str × V),(zP f v fs).lookup g=if g=f then some v else fs.lookup g
 | []=>by
  show List.lookup g [(f,v)]=_
  by_cases h:g=f
  ·have hb:(g == f)=true:=bx.mpr h;simp only [List.lookup,hb,ap h]
  ·have hb:(g == f)=false:=a7.mpr h;simp only [List.lookup,hb,am h]
 | (k,x) :: r=>by
  have ih:=zA f g v r;rw [show zP f v ((k,x) :: r)=(if k=f then (k,v) :: r else (k,x) :: zP f v r) from rfl];by_cases hk:k=f
  ·rw [ap hk];by_cases h:g=k
   ·have hb:(g == k)=true:=bx.mpr h;simp only [List.lookup,hb,ap (h.trans hk)]
   ·have hb:(g == k)=false:=a7.mpr h;simp only [List.lookup,hb,am (λ e:g=f=>h (e.trans hk.symm))]
  ·rw [am hk];by_cases h:g=k
   ·have hb:(g == k)=true:=bx.mpr h;simp only [List.lookup,hb,am (λ e:g=f=>hk (h.symm.trans e))]
   ·have hb:(g == k)=false:=a7.mpr h;simp only [List.lookup,hb];exact ih
theorem QQ (f:Str) (v:V):∀ fs:List (Str × V),f∈(zP f v fs).map (·.1)/\∀ g,g∈fs.map (·.1)->g∈(zP f v fs).map (·.1)
 | []=>⟨by simp [zP],λ g h=>by simp at h⟩
 | (k,x) :: r=>by
  obtain ⟨i1,i2⟩:=QQ f v r;rw [show zP f v ((k,x) :: r)=(if k=f then (k,v) :: r else (k,x) :: zP f v r) from rfl];by_cases hk:k=f
  ·rw [ap hk];subst hk;exact ⟨by simp,λ g h=>by simpa using h⟩
  ·rw [am hk];refine ⟨?_,λ g h=>?_⟩
   ·rw [bM];exact aB _ i1
   ·rw [bM] at h ⊢;rcases aw.mp h with e|e
    ·exact aw.mpr (.inl e)
    ·exact aB _ (i2 g e)
theorem x6 (f:Str) (v:V):∀ fs:List (Str × V),(zP f v fs).length<=fs.length + 1
 | []=>by simp [zP]
 | (k,x) :: r=>by
  have ih:=x6 f v r;rw [show zP f v ((k,x) :: r)=(if k=f then (k,v) :: r else (k,x) :: zP f v r) from rfl];by_cases hk:k=f
  ·rw [ap hk,bz,bz];omega
  ·rw [am hk,bz,bz];omega
def RelO.some_of {v:V} {o:Option Value} (r:RelO (some v) o):∃ u,o=some u/\RelV v u:=by
 cases o with
 | none=>exact (show False from r).elim
 | some u=>exact ⟨u,rfl,r⟩
def RelO.none_of {o:Option Value} (r:RelO none o):o=none:=by
 cases o with
 | none=>rfl
 | some u=>exact (show False from r).elim
def zdU {v:V} (r:RelV v u):handedIn u=true:=by
 cases v with
 | non=>cases (show u=Value.none from r);rfl
 | bl b=>cases (show u=Value.bool b from r);rfl
 | int i=>obtain ⟨t,e⟩:=(show ∃ t,u=Value.int i t from r);cases e;rfl
 | str x=>obtain ⟨t,e⟩:=(show ∃ t,u=Value.str x t from r);cases e;rfl
 | byt b=>obtain ⟨t,e⟩:=(show ∃ t,u=Value.bytes b t from r);cases e;rfl
 | flt b=>obtain ⟨t,e⟩:=(show ∃ t,u=Value.float b t from r);cases e;rfl
 | ref a=>cases (show u=Value.ref a from r);rfl
 | ty n=>cases (show u=Value.type n from r);rfl
section
variable {P:Af} {w:World} {H H':Hp} {h h':Heap} {a C dx:Addr} {fs fs':Ar}
def JC (hok:HOk P w H h) (e:H a=some (.ins C dx fs)):∃ mA,ObjM h a dx C mA/\(∀ f,RelO (fs.lookup f) (mA f))/\PySem.Within mA (fs.map (·.1))/\fs.length<=1000/\H dx=some (.own a):=by
 obtain ⟨d,z,ne,ob,mA,n,r,q⟩:=(show ObjOk P w H h a (.ins C dx fs) from hok a _ e);exact ⟨mA,⟨ob,n,ne⟩,r,q,z,d⟩
end
structure Cls (K:A0) (C:Addr):Prop where
 pg:plainGet K C Str.empty=true
 hd:hasDictIn K C=true
 po:plainOver K C=true
 sa:findIn K (.ref C) "__setattr__"=some (some (.builtin "object.__setattr__"))
def Cls.get (c:Cls K C) (f:Str):plainGet K C f=true:=c.pg
def NoAttr (K:A0) (C:Addr) (f:Str):Prop:=findIn K (.ref C) f=some none
def NoAttr.taker {f:Str} (n:NoAttr K C f):takerIn K C f=some none:=by
 unfold takerIn;rw [show findIn K (.ref C) f=some none from n]
 rfl
structure Meth (K:A0) (C:Addr) (m:Str) (f:Addr):Prop where
 at_:findIn K (.ref C) m=some (some (.ref f))
 fn:isFn K (.ref f)=true
 kp:keepIn K (.ref f)=true
section
variable {X:Cx} {m5:A2} {σ:St} {H:Hp} {s:An} {a C dx:Addr} {fs:Ar} {f:Str} {v:V} {A:Ao} {E:A3}
def XB {b:Bool} (I:Inv X m5 σ H s) (e:H a=some (.ins C dx fs)) (c:Cls X.K C) (n:NoAttr X.K C f) (l:fs.lookup f=some v)
  (h:∀ u s',Inv X m5 σ H s'->RelV v u->Q u s'):wpAny (model X.prog X.w) A (getAttr (.ref a) f b) Q E s:=by
 obtain ⟨mA,O,r,_,_,_⟩:=JC I.hok e;obtain ⟨u,hu,ru⟩:=RelO.some_of (v:=v) (o:=mA f) (by rw [<- l];exact r f);exact zgt I.kIn O (c.get f) c.hd n hu (zdU ru) (h u _ (I.tok _) ru)
def wZ {m:Str} {g:Addr} {pl:Sem Bool} {Q:Value × List Value->Shared->Prop} (I:Inv X m5 σ H s) (e:H a=some (.ins C dx fs)) (c:Cls X.K C) (k:Meth X.K C m g) (l:fs.lookup m=none)
  (h:Q (.ref g,[.ref a]) s):wpAny (model X.prog X.w) A (getMethod (.ref a) m pl) Q E s:=by
 obtain ⟨mA,O,r,_,_,_⟩:=JC I.hok e;have hn:mA m=none:=RelO.none_of (by rw [<- l];exact r m);exact zfh I.kIn O (c.get m) k.at_ k.fn hn h
def JP {y:V} {Q:Ag} (I:Inv X m5 σ H s) (e:H a=some (.ins C dx fs)) (c:Cls X.K C) (n:NoAttr X.K C f) (hl:fs.length < 1000) (ry:RelV y u)
  (h:∀ s',Inv X m5 σ (upd H a (.ins C dx (zP f y fs))) s'->Q () s'):wpAny (model X.prog X.w) A (setAttr (.ref a) f u) Q E s:=by
 obtain ⟨mA,O,r,wi,_,ho⟩:=JC I.hok e;have hz:(fs.map (·.1)).length<=sizeLine:=by rw [af,fk];omega
 refine zfU I.kIn O c.sa c.po n.taker c.hd wi hz λ h' O' sb=>h _ ?_;have hd:∃ o,h'.get? dx=some o:=let ⟨o,_,_,e',_⟩:=O'.ns;⟨o,e'⟩
 refine I.write (x:=a) (e:=dx) (by rw [e];exact True.intro) (.inr ho) (λ b q hb z=>(sb.2 b hb).trans z) hd ?_;refine ⟨by rw [nz O.ne];exact ho,?_,O.ne,O'.obj,_,O'.ns,λ g=>?_,λ g hg=>?_⟩
 ·have:=x6 f y fs;omega
 ·show RelO ((zP f y fs).lookup g) (if g=f then some u else mA g)
  rw [zA];by_cases q:g=f
  ·rw [ap q,ap q];exact ry
  ·rw [am q,am q];exact r g
 ·by_cases q:g=f
  ·rw [q];exact (QQ f y fs).1
  ·refine (QQ f y fs).2 g (wi g λ z=>hg ?_);show (if g=f then some u else mA g)=none
   rw [am q];exact z
def Inv.made (I:Inv X m5 σ H s):Inv X m5 σ (upd (upd H s.heap.objs.size (.own (s.heap.objs.size + 1))) (s.heap.objs.size + 1) (.ins C s.heap.objs.size []))
  { s with heap:=(s.heap.push emptyDict).push (instObj C s.heap.objs.size) }:=by
 have e1:(s.heap.push emptyDict).get? s.heap.objs.size=some emptyDict:=aD s.heap rfl;have e2:((s.heap.push emptyDict).push (instObj C s.heap.objs.size)).get? (s.heap.objs.size + 1)=some (instObj C s.heap.objs.size):=by
  have:=aD (s.heap.push emptyDict) (o:=instObj C s.heap.objs.size) rfl
  rwa [bE] at this
 have e3:(s.heap.push emptyDict).Ns s.heap.objs.size (λ _=>none):=⟨emptyDict,#[],_,e1,rfl,(λ e he=>absurd he (by simp)),λ _=>rfl⟩;have I1:=I.laid (a:=s.heap.objs.size) (o:=.own (s.heap.objs.size + 1)) (h':=s.heap.push emptyDict) (t':=s.toks) (λ b u q=>ai _ q) (aq _) ⟨_,e1⟩;refine I1.laid (a:=s.heap.objs.size + 1) (o:=.ins C s.heap.objs.size []) (t':=s.toks) (λ b u q=>ai _ q) (Nat.le_of_eq (bE _ _)) ?_;have ne:s.heap.objs.size≠s.heap.objs.size + 1:=aK (eD _);refine ⟨by rw [nz ne,nk],bQ _,ne,e2,λ _=>none,(Heap.Ns1.of_empty e3).at λ o q=>ai _ q,λ _=>True.intro,λ y hy=>absurd rfl hy⟩
def zgD {prog:Af} {env:Env} {e:Expr} {f:Str} {s:An} (hb:attributeBase e f env (eval e env)=eval e env)
  (h:wpAny (model prog w) A (eval e env) (λ o s₁=>wpAny (model prog w) A (getAttr o f true) Q E s₁) E s):wpAny (model prog w) A (eval (.Attribute e f pos) env) Q E s :=
 Attribute_any_ h (by rw [arm_eval_Attribute,hb])
end
def tFld (K:A0) (ta:TE) (f:Str):TE:=λ σ H Q=>ta σ H λ x H1=>∃ a C dx fs v,x=.ref a/\H1 a=some (.ins C dx fs)/\Cls K C/\NoAttr K C f/\fs.lookup f=some v/\Q v H1
def sFld (K:A0) (ta tv:TE) (f:Str):TS:=λ D σ H=>tv σ H λ y H1=>ta σ H1 λ x H2=>∃ a C dx fs,x=.ref a/\H2 a=some (.ins C dx fs)/\Cls K C/\NoAttr K C f/\fs.length < 1000 /\
 D.nx σ (upd H2 a (.ins C dx (zP f y fs)))
def ziN (X:Cx) (op:Operator) (rd:V->V->Hp->VK->Prop):Prop :=
 ∀ (m5:A2) (s:An) (σ:St) (H:Hp) (x y:V) (u v:Am) (Q:VK),Inv X m5 σ H s->RelV x u->RelV y v->rd x y H Q->wpAny (model X.prog X.w) X.A (inplaceOp op u v) (EP X m5 σ Q) X.xe s
def zfW (K:A0) (ta tv:TE) (rd:V->V->Hp->VK->Prop) (f:Str):TS:=λ D σ H=>ta σ H λ x H1=>∃ a C dx fs v,x=.ref a/\H1 a=some (.ins C dx fs)/\Cls K C/\NoAttr K C f/\fs.lookup f=some v /\
 tv σ H1 λ y H2=>rd v y H2 λ z H3=>∃ dx' fs',H3 a=some (.ins C dx' fs')/\fs'.length < 1000/\D.nx σ (upd H3 a (.ins C dx' (zP f z fs')))
section
variable {X:Cx} {o e value:Expr} {f:Str} {pos pos' tpos:Pos} {ta tv:TE}
def zj (he:PE X e ta) (hb:attributeBase e f X.env (eval e X.env)=eval e X.env):PE X (.Attribute e f pos) (tFld X.K ta f):=by
 intro m5 s σ H Q I h;refine zgD hb (qM (he m5 s σ H _ I h) λ u s1 x H1 I1 rx qq_=>?_);obtain ⟨a,C,dx,fs,v,ex,ea,c,n,l,q⟩:=qq_;subst ex;obtain rfl:u=Value.ref a:=rx;exact XB I1 ea c n l λ u' s2 I2 ru=>⟨v,H1,I2,ru,q⟩
def qT (ha:PE X o ta) (hv:PE X value tv) (hs:swapsWith value (some (.Attribute o f pos')) pos.line X.env=pure false):PS X (.Assign [.Attribute o f pos'] value pos) (sFld X.K ta tv f):=by
 intro m5 s σ H D I h;refine plainObj_wpAny_Assign_Attribute (qM (hv m5 s σ H _ I h) λ u s1 y H1 I1 ry q=>qM (ha m5 s1 σ H1 _ I1 q) λ ov s2 x H2 I2 rx qq_=>?_) hs;obtain ⟨a,C,dx,fs,ex,ea,c,n,l,q2⟩:=qq_;subst ex;obtain rfl:ov=Value.ref a:=rx;exact JP I2 ea c n l ry λ s3 I3=>⟨σ,_,I3,q2⟩
def zdB {op:Operator} {rd:V->V->Hp->VK->Prop} (ha:PE X o ta) (hv:PE X value tv) (hop:ziN X op rd):PS X (.AugAssign (.Attribute o f tpos) op value pos) (zfW X.K ta tv rd f):=by
 intro m5 s σ H D I h;refine wpAny_AugAssign_AttributeAny (qM (ha m5 s σ H _ I h) λ ov s1 x H1 I1 rx qq_=>?_);obtain ⟨a,C,dx,fs,v,ex,ea,c,n,l,q⟩:=qq_;subst ex;obtain rfl:ov=Value.ref a:=rx;refine XB I1 ea c n l λ u s2 I2 ru=>qM (hv m5 s2 σ H1 _ I2 q) λ w3 s3 y H2 I3 ry q3=>thn (hop m5 s3 σ H2 v y u w3 _ I3 ru ry q3) λ w4 s4 ⟨z,H3,I4,rz,dx',fs',ea',l',q4⟩=>?_;exact JP I4 ea' c n l' rz λ s5 I5=>⟨σ,_,I5,q4⟩
def ziX:V->V->Hp->VK->Prop:=λ x y H Q=>∃ i j,x=.int i/\y=.int j/\Q (.int (i + j)) H
def zhL:ziN X .Add ziX:=by
 rintro m5 s σ H x y u v Q I rx ry ⟨i,j,rfl,rfl,q⟩;obtain ⟨t,rfl⟩:=(show ∃ t,u=Value.int i t from rx);obtain ⟨t',rfl⟩:=(show ∃ t',v=Value.int j t' from ry);exact PyProof.Rows.iadd_int ⟨.int (i + j),H,I.tok _,⟨_,rfl⟩,q⟩
end
section
variable {X:Cx} {m5:A2} {σ:St} {H:Hp} {s:An} {A:Ao} {E:A3} {Q:A3} {c:Am} {b:Bool}
inductive TyOf (K:A0) (H:Hp):V->Value->Prop where
 | non:TyOf K H .non (.type "NoneType")
 | bl (x:Bool):TyOf K H (.bl x) (.type "bool")
 | int (i:Int):TyOf K H (.int i) (.type "int")
 | str (x:Str):TyOf K H (.str x) (.type "str")
 | flt (x:UInt64):TyOf K H (.flt x) (.type "float")
 | lst {a:Addr} {xs:Ap} (e:H a=some (.lst xs)):TyOf K H (.ref a) (.type "list")
 | frz {a:Addr} {o:Obj} {xs:Ap} (e:H a=some (.frz o (.lst xs))):TyOf K H (.ref a) (.type "list")
 | tup {a:Addr} {xs:Ap} (e:H a=some (.tup xs)):TyOf K H (.ref a) (.type "tuple")
 | dK {a:Addr} {mW:List (Key × V)} (e:H a=some (.dK mW)):TyOf K H (.ref a) (.type "dict")
 | dT {a:Addr} {mW:As} (e:H a=some (.dT mW)):TyOf K H (.ref a) (.type "dict")
 | ins {a C dx:Addr} {fs:Ar} (e:H a=some (.ins C dx fs)) (cl:Cls K C) (ha:findIn K (.ref C) "__class__"=some (some (.builtin "object.__class__")))
   (hn:specialIn K (.builtin "object.__class__") "__get__"=some (some (.builtin "getset_descriptor.__get__"))) (htk:takesIn K (.builtin "object.__class__")=some true)
   (hm:mroIn K C (.type "object")=some true):TyOf K H (.ref a) (.ref C)
end
structure Room (k:Nat) (A:Ao):Prop where
 hd:A.handled=none
 dp:A.depth + 3 * k + 5 < recursionLimit
 un:A.units + 16 * k + 200 < cLine
def Room.mono {j k:Nat} (r:Room k A) (h:j<=k):Room j A:=⟨r.hd,by have:=r.dp;omega,by have:=r.un;omega⟩
def Room.deeper (r:Room (k + 1) A) (env:Env):Room k (A.deeper env) :=
 ⟨r.hd,by have:=r.dp;show A.depth + 1 + 3 * k + 5 < _;omega,by have:=r.un;show A.units + 3 + 16 * k + 200 < _;omega⟩
def Room.in1 (r:Room (k + 1) A):Room k A.in1 :=
 ⟨r.hd,by have:=r.dp;show A.depth + 3 * k + 5 < _;omega,by have:=r.un;show A.units + 1 + 16 * k + 200 < _;omega⟩
def zb0 {kw:List (Str × Value)}:(A.under (.builtin "type.__call__" ⟨.ref C :: us,kw⟩)).depth=A.depth + 1:=by
 first|rfl|simp [Around.under,Code.weight,Code.isCreation,Code.isGuard,Code.isCaller,Code.frames,Code.isFrame,guardIds]
def zbZ {kw:List (Str × Value)}:(A.under (.builtin "type.__call__" ⟨.ref C :: us,kw⟩)).units=A.units + 1:=by
 first|rfl|simp [Around.under,Code.cUnits,Code.frames,Code.isFrame]
def Room.make (r:Room (k + 1) A) (C:Addr) (us:A7) (kw:List (Str × Value)):Room k (A.under (.builtin "type.__call__" ⟨.ref C :: us,kw⟩)) :=
 ⟨r.hd,by have:=r.dp;rw [zb0];omega,by have:=r.un;rw [zbZ];omega⟩
def Room.depth (r:Room k A):A.depth < recursionLimit:=by have:=r.dp;omega
def Room.units (r:Room k A):A.units + 64 < cLine:=by have:=r.un;omega
def tNil:TA:=λ _ H Q=>Q [] H
def tCons (ta:TE) (tr:TA):TA:=λ σ H Q=>ta σ H λ x H1=>tr σ H1 λ xs H2=>Q (x :: xs) H2
section
variable {X:Cx} {e:Expr} {es:List Expr} {te:TE} {t:TA} {pos:Pos}
def zb:PA X [] tNil:=λ _ _ _ _ H Q I h=>Calls.spliced_nil ⟨[],H,I,.nil,h⟩
def za (ha:PE X e te) (hr:PA X es t) (hs:starEach (e :: es) X.env=(false,eval e X.env) :: starEach es X.env:=by rfl):PA X (e :: es) (tCons te t):=by
 intro pos m5 s σ H Q I h;rw [hs];show wpAny _ _ (spliced ((false,eval e X.env) :: backTo pos (starEach es X.env))) _ _ s
 refine Calls.spliced_cons (qM (ha m5 s σ H _ I h) λ u s1 x H1 I1 r1 q1=>?_);exact vt (hr pos m5 s1 σ H1 _ I1 q1) λ us s2 xs H2 I2 r2 q2=>⟨x :: xs,H2,I2,.cons r1 r2,q2⟩
def tTup (t:TA):TE:=λ σ H Q=>t σ H λ xs H1=>szl xs (∀ p,H1 p=none->Q (.ref p) (upd H1 p (.tup xs)))
def tLst (t:TA):TE:=λ σ H Q=>t σ H λ xs H1=>szl xs (∀ p,H1 p=none->Q (.ref p) (upd H1 p (.lst xs)))
def qL {x1} (h:PA X es t):PE X (.Tuple es x1 pos) (tTup t):=by
 intro m5 s σ H Q I hq;refine wpAny_Tuple_spliced (vt (h pos m5 s σ H _ I hq) λ us s1 xs H1 I1 r q=>let ⟨z,q⟩:=zbt q;⟨by rw [<- r.length];exact z,?_⟩);have hf:H1 s1.heap.objs.size=none:=I1.hok.fresh (aq _);refine ⟨.ref s1.heap.objs.size,upd H1 s1.heap.objs.size (.tup xs),I1.laid (t':=s1.toks) (λ b u e=>ai _ e) (aq _) ?_,rfl,q _ hf⟩;exact ⟨z,us,r,⟨_,aD _ rfl,rfl,_,rfl⟩⟩
def zI (h:PA X es t):PE X (.List es pos) (tLst t):=by
 intro m5 s σ H Q I hq;refine wpAny_List_spliced (vt (h pos m5 s σ H _ I hq) λ us s1 xs H1 I1 r q=>let ⟨z,q⟩:=zbt q;⟨by rw [<- r.length];exact z,?_⟩);have hf:H1 s1.heap.objs.size=none:=I1.hok.fresh (aq _);refine ⟨.ref s1.heap.objs.size,upd H1 s1.heap.objs.size (.lst xs),I1.laid (t':=s1.toks) (λ b u e=>ai _ e) (aq _) ?_,rfl,q _ hf⟩;exact ⟨z,us,0,r,aD _ rfl⟩
end
abbrev Sp:=List V->Hp->VK->XK->Prop
abbrev CXT:=List Env->Hp->Shared->XK->Value->Shared->Prop
variable {CX:CXT}
structure Env0 (P:Af) (w:World) (K:A0) (mg:A4) (base:Heap) (A:Ao) (outer:List Env) (s:An) (H:Hp):Prop where
 frames:A.frames=some outer
 mod:Mod K mg base
 bs:∀ b o,base.get? b=some o->s.heap.get? b=some o/\H b=none
 bsz:base.objs.size<=s.heap.objs.size
 funs:s.heap.FunFrames base outer
 frf:∀ b∈frs outer,H b=none
 hok:HOk P w H s.heap
 bare:AllBare s.gens
def CE (outer:List Env) (P:Af) (w:World) (H:Hp) (s:An) (Q:VK) (u:Am) (s':An):Prop :=
 ∃ v H',s'.os=s.os/\AllBare s'.gens/\Un (frs outer) [] H H' s.heap s'.heap/\HOk P w H' s'.heap/\RelV v u/\Q v H'
def CR (CX:CXT) (outer:List Env) (P:Af) (w:World) (H:Hp) (s:An) (Q:VK) (E:XK) (r:Result) (s':An):Prop :=
 match r with
 | .ok (.ret u)=>CE outer P w H s Q u s'
 | .ok _=>False
 | .error e=>CX outer H s E e s'
structure FnOk (P:Af) (w:World) (K:A0) (mg:A4) (base:Heap) (CX:CXT) (k:Nat) (f:Addr) (fd:FuncData) (ps:A8) (sp:Sp):Prop where
 len:∀ vs H Q E,sp vs H Q E->vs.length=ps.length
 run:∀ (A:Ao) (outer:List Env) (s:An) (H:Hp) (args:Args) (us:A7) (vs:Ap) (Q:VK) (E:XK),Room k A->Env0 P w K mg base A outer s H->BindsTo s fd args (ps.zip us)->Vals vs us->sp vs H Q E ->
  codeAny (model P w) A (.call (.ref f) args) (CR CX outer P w H s Q E) s
def FnOk.mono {j k:Nat} {f:Addr} {ps:A8} {sp:Sp} (F:FnOk P w K mg base CX j f fd ps sp) (h:j<=k) :
  FnOk P w K mg base CX k f fd ps sp:=⟨F.len,λ A outer s H args us vs Q E hr=>F.run A outer s H args us vs Q E (hr.mono h)⟩
def FnOk.imp {f:Addr} {ps:A8} {sp sp':Sp} (F:FnOk P w K mg base CX k f fd ps sp)
  (h:∀ vs H Q E,sp' vs H Q E->sp vs H Q E):FnOk P w K mg base CX k f fd ps sp' :=
 ⟨λ vs H Q E q=>F.len vs H Q E (h _ _ _ _ q),λ A outer s H args us vs Q E hr he hb hv hs=>F.run A outer s H args us vs Q E hr he hb hv (h _ _ _ _ hs)⟩
def Env0.make {outer:List Env} (e:Env0 P w K mg base A outer s H) (C:Addr) (us:A7) (kw:List (Str × Value)) :
  Env0 P w K mg base (A.under (.builtin "type.__call__" ⟨.ref C :: us,kw⟩)) outer s H:=⟨by first|exact e.frames|(simpa [Around.under,Code.envs,Code.isFrame,pushEnvs] using e.frames),e.mod,e.bs,e.bsz,e.funs,e.frf,e.hok,e.bare⟩
def Env0.in1 {outer:List Env} (e:Env0 P w K mg base A outer s H) :
  Env0 P w K mg base A.in1 outer s H:=⟨e.frames,e.mod,e.bs,e.bsz,e.funs,e.frf,e.hok,e.bare⟩
section
variable {X:Cx} {m5:A2} {σ:St} {H:Hp} {s s':An}
def Inv.env0 (I:Inv X m5 σ H s):Env0 X.prog X.w X.K X.mg X.base X.A X.stack s H :=
 ⟨I.ok.frames,I.ok.mod,I.bs,ba I.ok.bsz I.sz,I.stack,I.stkFree,I.hok,I.bare⟩
def Inv.after {Q:VK} (I:Inv X m5 σ H s) (h:CE X.stack X.prog X.w H s Q u s'):EP X m5 σ Q u s':=by
 obtain ⟨v,H',os,bare,un,hok,r,q⟩:=h;obtain ⟨hh,g,d,t,os'⟩:=s';obtain rfl:os'=s.os:=os;exact ⟨v,H',I.call (h':=hh) (g':=g) (d':=d) (t':=t) (ch:=[]) un hok bare (λ b z=>absurd z (by simp)),r,q⟩
end
def Binds (K:A0) (fd:FuncData) (ps:A8) (ds:A7):Prop :=
 ∀ (s:An) (us:A7),K.In s.heap->(us ++ ds).length=ps.length->BindsTo s fd ⟨us,[]⟩ (ps.zip (us ++ ds))
def Binds.all {ps:A8} (h:∀ us:List Value,us.length=ps.length->bindArgs fd ⟨us,[]⟩=pure (ps.zip us)):Binds K fd ps []:=λ s us _ hl=>by
 rw [bU] at hl ⊢;exact .of_eq (h us hl)
def zcs (CX:CXT) (X:Cx) (E:XK):Prop:=∀ (m5:A2) (σ:St) (H:Hp) (s:An) (e:Am) (s':An),Inv X m5 σ H s->CX X.stack H s E e s'->X.xe e s'
section
variable {X:Cx} {CX:CXT} {k:Nat} {f C:Addr} {fd:FuncData} {ps:A8} {sp:Sp} {dvs:Ap} {ds:A7} {E:XK} {x m:Str} {p pos apos:Pos} {e o:Expr} {es:List Expr} {ta:TE} {t:TA}
theorem zbK {Q:VK} {vs:Ap} (F:FnOk X.prog X.w X.K X.mg X.base CX k f fd ps sp) (hr:Room k X.A) (hb:Binds X.K fd ps ds) (hd:Vals dvs ds) (hx:zcs CX X E)
  (I:Inv X m5 σ H s) (r:Vals vs us) (h:sp (vs ++ dvs) H Q E):wpAny (model X.prog X.w) X.A (call (.ref f) us) (EP X m5 σ Q) X.xe s:=by
 have r2:Vals (vs ++ dvs) (us ++ ds):=r.append hd;have hl:(us ++ ds).length=ps.length:=by rw [<- r2.length];exact F.len _ _ _ _ h
 refine fI (de (F.run X.A X.stack s H ⟨us,[]⟩ (us ++ ds) (vs ++ dvs) Q E hr I.env0 (hb s us I.kIn hl) r2 h) λ r s' hq=>?_);cases r with
 | error e=>exact hx m5 σ H s e s' I hq
 | ok fl =>
  cases fl with
  | ret u=>exact I.after hq
  | next=>exact False.elim hq
  | brk=>exact False.elim hq
  | cont=>exact False.elim hq
structure Mk (K:A0) (C f:Addr):Prop where
 makes:makesIn K C=true
 init:findIn K (.ref C) "__init__"=some (some (.ref f))
 fn:isFn K (.ref f)=true
 kp:keepIn K (.ref C)=true
theorem zeC {Q:VK} {vs:Ap} (M:Mk X.K C f) (F:FnOk X.prog X.w X.K X.mg X.base CX k f fd ps sp) (hr:Room (k + 1) X.A) (hb:Binds X.K fd ps ds) (hd:Vals dvs ds)
  (hx:zcs CX X E) (I:Inv X m5 σ H s) (r:Vals vs us)
  (h:∀ x dx,H x=none->H dx=none->dx≠x->sp (.ref x :: (vs ++ dvs)) (upd (upd H dx (.own x)) x (.ins C dx [])) (λ v H2=>v=.non/\Q (.ref x) H2) E) :
  wpAny (model X.prog X.w) X.A (call (.ref C) us) (EP X m5 σ Q) X.xe s:=by
 have hq:=h (s.heap.objs.size + 1) s.heap.objs.size (I.hok.fresh (b8 _)) (I.hok.fresh (aq _)) (aK (eD _));have I2:=Inv.made (C:=C) I;have r2:Vals (V.ref (s.heap.objs.size + 1) :: (vs ++ dvs)) (Value.ref (s.heap.objs.size + 1) :: (us ++ ds)):=.cons rfl (r.append hd);have hl:(Value.ref (s.heap.objs.size + 1) :: us ++ ds).length=ps.length:=by
  have e:=r2.length;rw [F.len _ _ _ _ hq] at e;exact e.symm
 refine fI (zaQ (f:=f) I.kIn M.makes M.init (bx.mp M.fn) (de (F.run _ X.stack _ _ ⟨Value.ref (s.heap.objs.size + 1) :: us,[]⟩ (Value.ref (s.heap.objs.size + 1) :: (us ++ ds)) _ _ E (hr.make C us [])
  (I2.env0.make C us []) (hb _ (Value.ref (s.heap.objs.size + 1) :: us) I2.kIn hl) r2 hq) λ r s' hq'=>?_))
 cases r with
 | error e=>exact hx m5 σ _ _ e s' I2 hq'
 | ok fl =>
  cases fl with
  | ret u =>
   obtain ⟨v,H',I3,rv,ev,q3⟩:=I2.after hq';subst ev;exact ⟨rv,⟨V.ref (s.heap.objs.size + 1),H',I3,rfl,q3⟩⟩
  | next=>exact False.elim hq'
  | brk=>exact False.elim hq'
  | cont=>exact False.elim hq'
end
def PK (X:Cx) (kws:List Keyword) (t:TA):Prop :=
 ∀ (pos:Pos) (m5:A2) (s:An) (σ:St) (H:Hp) (Q:List V->Hp->Prop),Inv X m5 σ H s->t σ H Q->wpAny (model X.prog X.w) X.A (evalAll ((backToKw pos (keywordEach kws X.env)).map (·.2))) (AP X m5 σ Q) X.xe s
section
variable {X:Cx} {CX:CXT} {k:Nat} {f C:Addr} {fd:FuncData} {ps ks:A8} {sp:Sp} {E:XK} {x m:Str} {p pos apos kpos:Pos} {e o:Expr} {es:List Expr} {kws:List Keyword} {te ta:TE} {t tk:TA} {nm:Option Str}
variable {g:List Value->List Value->List Value} {gV:List V->List V->List V}
end
structure FnScope (N P:A8) (sc:Scope):Prop where
 kind:sc.kind=.function
 co:sc.isCoroutine=false
 gen:sc.isGenerator=false
 nd:N.Nodup
 pre:N.take P.length=P
 par:∀ x∈P,sc.names.lookup x=some .local\/sc.names.lookup x=some .cell
 nofree:∀ y∈sc.names,y.2≠.free
theorem WR {kindOf:Str->Option NameKind} {x:Str}:∀ {binds:List (Str × Value)} {m:A4},(∀ v,(x,v) ∉ binds)->bindL kindOf binds m x=m x
 | [],_,_=>rfl
 | (n,v) :: r,m,h=>by
  unfold bindL;rw [WR λ w hw=>h w (aB _ hw)]
  split
  ·have:x≠n:=by rintro rfl;exact h v bT
   simp [this]
  ·rfl
theorem WU {kindOf:Str->Option NameKind} {x:Str}:∀ {binds:List (Str × Value)} {m:A4},(∀ v,(x,v) ∉ binds)->bindC kindOf binds m x=m x
 | [],_,_=>rfl
 | (n,v) :: r,m,h=>by
  unfold bindC;rw [WU λ w hw=>h w (aB _ hw)]
  split
  ·rfl
  ·have:x≠n:=by rintro rfl;exact h v bT
   simp [this]
theorem WS {kindOf:Str->Option NameKind} {x:Str} {v:Am}:∀ {P:A8} {vs:A7} {i:Nat} {m:A4},P.Nodup->P[i]?=some x->vs[i]?=some v->kindOf x=some .local ->
  bindL kindOf (P.zip vs) m x=some v
 | [],_,_,_,_,h,_,_=>by simp at h
 | _ :: _,[],_,_,_,_,h,_=>by simp at h
 | p :: P,w :: vs,0,m,nd,h1,h2,hk=>by
  simp at h1 h2;subst h1;subst h2;show bindL kindOf ((p,w) :: P.zip vs) m p=_
  unfold bindL;rw [WR λ v hv=>(dA.mp nd).1 (of_mem_zip hv).1,ap hk];simp
 | p :: P,w :: vs,i + 1,m,nd,h1,h2,hk=>by
  show bindL kindOf ((p,w) :: P.zip vs) m x=_
  unfold bindL;exact WS (i:=i) (dA.mp nd).2 (by simpa using h1) (by simpa using h2) hk
theorem WV {kindOf:Str->Option NameKind} {x:Str} {v:Am}:∀ {P:A8} {vs:A7} {i:Nat} {m:A4},P.Nodup->P[i]?=some x->vs[i]?=some v->kindOf x≠some .local ->
  bindC kindOf (P.zip vs) m x=some v
 | [],_,_,_,_,h,_,_=>by simp at h
 | _ :: _,[],_,_,_,_,h,_=>by simp at h
 | p :: P,w :: vs,0,m,nd,h1,h2,hk=>by
  simp at h1 h2;subst h1;subst h2;show bindC kindOf ((p,w) :: P.zip vs) m p=_
  unfold bindC;rw [WU λ v hv=>(dA.mp nd).1 (of_mem_zip hv).1,am hk];simp
 | p :: P,w :: vs,i + 1,m,nd,h1,h2,hk=>by
  show bindC kindOf ((p,w) :: P.zip vs) m x=_
  unfold bindC;exact WV (i:=i) (dA.mp nd).2 (by simpa using h1) (by simpa using h2) hk
noncomputable def start (N:A8) (vs:Ap):St:=vs.map some ++ List.replicate (N.length - vs.length) none
noncomputable def Jo (CX:CXT) (P:Af) (w:World) (K:A0) (mg:A4) (base:Heap) (N:A8) (qual:Str) (scope:Scope) (f:Addr) (cd:Am) (A:Ao) (outer:List Env) (s:An) (H:Hp) (E:XK):Cx where
 prog:=P
 w:=w
 K:=K
 mg:=mg
 base:=base
 A:=A.deeper (envOfC qual scope s.heap.objs.size f cd)
 N:=N
 s₀:=s
 H₀:=H
 env:=envOfC qual scope s.heap.objs.size f cd
 outer:=outer
 stack:=envOfC qual scope s.heap.objs.size f cd :: outer
 ex:=[]
 calm:=true
 fn:=λ _=>true
 pn:=[]
 xe:=λ e s'=>wpAny (model P w) (A.deeper (envOfC qual scope s.heap.objs.size f cd)) (leaving (envOfC qual scope s.heap.objs.size f cd) e) (λ _ s''=>CX outer H s E e s'') (λ e' s''=>CX outer H s E e' s'') s'
def za9 {sc:Scope} {n:Nat} (h:sc.names.lookup x=some .cell):∃ c,(cellsFrom n sc.names []).lookup x=some c:=by
 have q:=fq sc.names n [] (.inl h);exact fe.mp q
theorem zdQ {N ps:A8} {qual:Str} {scope:Scope} {f:Addr} {cd:Am} {outer:List Env} {s s1:An} {E:XK} {vs:Ap}
  (S:FnScope N ps scope) (hd:A.handled=none) (e0:Env0 P w K mg base A outer s H) (hl:vs.length=ps.length) (r:Vals vs us)
  (x:InCallC s s.heap.objs.size (bindL (envOfC qual scope s.heap.objs.size f cd).kindOf (ps.zip us) λ _=>none) (cellsFrom (s.heap.objs.size + 1) scope.names []) (bindC (envOfC qual scope s.heap.objs.size f cd).kindOf (ps.zip us) λ _=>none) s1) :
  Inv (Jo CX P w K mg base N qual scope f cd A outer s H E) [] (start N vs) H s1:=by
 have hpl:ps.length<=N.length:=by have:=bP List.length S.pre;rw [aR] at this;omega
 obtain ⟨h1,tk,rfl,hk⟩:=x.done;have noA:∀ b:Addr,b ∉ (Jo CX P w K mg base N qual scope f cd A outer s H E).ex:=λ b z=>absurd (show b∈([]:Ab) from z) (by simp);refine ⟨⟨e0.mod,S.kind,rfl,rfl,aq _,λ y z c h1 h2=>?_,λ y hy=>?_,λ y c _ h=>?_,λ _=>hd,Around.frames_deeper e0.frames,.inr ⟨rfl,rfl⟩,λ b z=>absurd z (noA b),e0.bs,e0.bsz,λ b _ _=>noA b,λ b z=>absurd z (noA b),e0.funs,e0.frf⟩,
  rfl,e0.bare,Un.kept hk,⟨_,x.toInCall.ns,λ i y v h1 h2 h3=>?_⟩,λ y c h=>⟨_,x.cell y c h⟩,e0.hok.fresh (aq _),λ y c h=>?_,λ p hp=>absurd (show p∈([]:A2) from hp) (by simp),e0.hok.kept hk,?_⟩
 ·exact name_of_addr x.apart (bD h1) (bD h2)
 ·have hy:scope.names.lookup y=some .cell\/scope.names.lookup y=some .free:=hy;rcases hy with hy|hy
  ·exact za9 hy
  ·exact absurd rfl (S.nofree _ (bD hy))
 ·exact bn (x.above y c (bD h))
 ·have hi:i < vs.length:=by
   unfold start at h2;by_cases hi:i < vs.length
   ·exact hi
   ·rw [aJ (by simpa using hi)] at h2;rw [dg] at h2
    split at h2 <;> cases h2
  have ha:vs[i]?=some v:=by
   unfold start at h2;rw [aT (by simpa using hi),aj] at h2;cases e:vs[i]? with
   | none=>rw [e] at h2;cases h2
   | some a=>rw [e] at h2;cases h2;rfl
  obtain ⟨u,hu,rv⟩:=r.get ha;have hp:ps[i]?=some y:=by
   rw [<- S.pre,List.getElem?_take_of_lt (by omega)];exact h1
  have ndP:ps.Nodup:=by rw [<- S.pre];exact S.nd.sublist (List.take_sublist _ _)
  refine ⟨u,rv,?_⟩;rcases S.par y (ah hp) with k|k
  ·exact .inl ⟨k,WS ndP hp hu k⟩
  ·obtain ⟨c,e⟩:=za9 (n:=s.heap.objs.size + 1) k;refine .inr ⟨.inl k,c,e,?_⟩;have q:=x.cell y c e;rw [WV ndP hp hu (by show scope.names.lookup y≠_;rw [k];decide)] at q;exact q
 ·exact e0.hok.fresh (bn (x.above y c (bD h)))
 ·unfold start;show _=N.length
  rw [aM,af,a8];omega
theorem zfk {f:Addr} {name qual:Str} {params:Arguments} {body:List Stmt} {scope:Scope} {dV kV doc pm cdv ct oc:Am} {an od:Aa}
  {osl:Ae} {N ps:A8} {sp:Sp} (lk:K.lookup f=some ⟨oc,od,.func (fnOf name qual params body scope dV kV doc pm an cdv ct),osl⟩) (hcd:codeIn K cdv qual=true) (S:FnScope N ps scope)
  (len:∀ vs H Q E,sp vs H Q E->vs.length=ps.length)
  (hbody:∀ (A:Ao) (outer:List Env) (s:An) (H:Hp) (vs:Ap) (Q:VK) (E:XK),Room k (A.deeper (envOfC qual scope s.heap.objs.size f cdv))->sp vs H Q E ->
   ∃ t,PSs (Jo CX P w K mg base N qual scope f cdv A outer s H E) body t/\t { nx:=λ _ H'=>Q .non H',rt:=Q } (start N vs) H) :
  FnOk P w K mg base CX (k + 1) f (fnOf name qual params body scope dV kV doc pm an cdv ct) ps sp:=by
 refine ⟨len,λ A outer s H args us vs Q E hr e0 hb r hsp=>?_⟩;have hl:=len _ _ _ _ hsp;have KX:K.In s.heap:=e0.mod.kin.keeps λ b o e=>(e0.bs b o e).1;have lim:s.heap.NoLimit:=e0.mod.nolimit.keeps λ b o e=>(e0.bs b o e).1;have hkind:∀ y∈ps.zip us,scope.names.lookup y.1=some .local\/(scope.names.lookup y.1=some .cell/\((cellsFrom (s.heap.objs.size + 1) scope.names []).lookup y.1).isSome=true):=λ ⟨n,v⟩ hy=>by
  rcases S.par n (of_mem_zip hy).1 with q|q
  ·exact .inl q
  ·exact .inr ⟨q,fq _ _ _ (.inl q)⟩
 refine codeAny_call_function hr.depth (KX _ _ lk) rfl S.co S.gen rfl (PySem.W.codeRec_of KX hcd) (hb _ _ _ _ ?_);refine wpAny_newFunctionEnv_cells S.kind hkind λ env he s1 x=>?_;subst he;refine ⟨lim.keeps x.toInCall.keep,codeAny_func ?_⟩;obtain ⟨t,ht,hq⟩:=hbody A outer s H vs Q E (hr.deeper _) hsp;have I:Inv (Jo CX P w K mg base N qual scope f cdv A outer s H E) [] (start N vs) H s1:=zdQ S hr.hd e0 hl r x;refine aU (ht [] s1 (start N vs) H _ I hq) (λ fl s' hs=>?_) λ e s' hs=>hs;have fin:∀ {σ':St} {H':Hp} {v:V} {u:Am},Inv (Jo CX P w K mg base N qual scope f cdv A outer s H E) [] σ' H' s'->RelV v u->Q v H'->CE outer P w H s Q u s' :=
  λ {σ' H' v u} J rv q=>⟨v,H',J.os,J.bare,J.base,J.hok,rv,q⟩
 cases fl with
 | ret u =>
  obtain ⟨v,σ',H',J,rv,q⟩:=hs;exact fin J rv q
 | next =>
  obtain ⟨σ',H',J,q⟩:=hs;exact fin (v:=V.non) (u:=Value.none) J rfl q
 | brk =>
  obtain ⟨_,_,_,q⟩:=hs;exact False.elim q
 | cont =>
  obtain ⟨_,_,_,q⟩:=hs;exact False.elim q
section
variable {X:Cx} {x:Str} {p pos:Pos} {e:Expr} {es:List Expr} {t:TA} {id T:String} {r:List V->Hp->VK->Prop}
def tCB (r:List V->Hp->VK->Prop) (t:TA):TE:=λ σ H Q=>t σ H λ vs H1=>r vs H1 Q
def zeN (hc:CallR X (.builtin id) r) (hg:Gl X x) (hm:X.mg x=none) (hv:bootBuiltins x=some (.builtin id)) (ha:PA X (e :: es) t) (hn:x≠"__name__":=by decide) (hdb:(x == ("__debug__":Str))=false:=by decide)
  (he:starEach (e :: es) X.env=(false,eval e X.env) :: starEach es X.env:=by rfl) (hpl:(backTo pos (starEach es X.env)).any (·.1)=false:=by rfl):PE X (.Call (.Name x p) (e :: es) [] pos) (tCB r t):=by
 intro m5 s σ H Q I h;refine bu (wY I hg hm hv ?_ hn hdb);exact PyProof.Rows.callWith_builtin1 (vt (ha pos m5 s σ H _ I h) λ us s1 vs H1 I1 r1 q1=>hc m5 s1 σ H1 vs us Q I1 r1 q1) he hpl
def zdE (hc:CallR X (.type T) r) (hg:Gl X x) (hm:X.mg x=none) (hv:bootBuiltins x=some (.type T)) (ha:PA X (e :: es) t) (hn:x≠"__name__":=by decide) (hdb:(x == ("__debug__":Str))=false:=by decide)
  (he:starEach (e :: es) X.env=(false,eval e X.env) :: starEach es X.env:=by rfl) (hpl:(backTo pos (starEach es X.env)).any (·.1)=false:=by rfl):PE X (.Call (.Name x p) (e :: es) [] pos) (tCB r t):=by
 intro m5 s σ H Q I h;refine bu (wY I hg hm hv ?_ hn hdb);exact aZ (vt (ha pos m5 s σ H _ I h) λ us s1 vs H1 I1 r1 q1=>hc m5 s1 σ H1 vs us Q I1 r1 q1) he hpl
end
end L2
namespace HT
open PySem PyProof.Rows
section
open PySem.SeqAt
open PySem.AutoSeq1 (wpAny_loadPart')
open PySem.MeetsSeq PySem.MeetsSeq2 PySem.MeetsSeq3
end
section
variable {prog:Af} {w:World} {A:Ao} {E:A3} {s:An}
noncomputable def sIx (n d:Nat):Option Int->Nat
 | none=>d
 | some v=>if v < 0 then (v + (n:Int)).toNat else min v.toNat n
def sIx_none (n d:Nat):sIx n d none=d:=rfl
def sIx_nat (n d k:Nat):sIx n d (some (k:Int))=min k n:=by
 show (if (k:Int) < 0 then ((k:Int) + (n:Int)).toNat else min (k:Int).toNat n)=min k n
 rw [am (by omega),aE]
end
end HT
namespace L2
open PySem PySem.Spec PyProof.Rows
abbrev TO:=St->Hp->(Option Int->Hp->Prop)->Prop
def PO (X:Cx) (e:Option Expr) (t:TO):Prop :=
 ∀ (m5:A2) (s:An) (σ:St) (H:Hp) (Q:Option Int->Hp->Prop),Inv X m5 σ H s->t σ H Q ->
  wpAny (model X.prog X.w) X.A (evalPart e X.env) (λ u s'=>∃ o H',Inv X m5 σ H' s'/\IsPart u o/\Q o H') X.xe s
def tNoPart:TO:=λ _ H Q=>Q none H
def tPart (t:TE):TO:=λ σ H Q=>t σ H λ x H1=>iq x λ i=>Q (some i) H1
def zca {ns:A6}:∀ {us:A7},Vals (ns.map V.int) us->IntsAre us ns:=by
 induction ns with
 | nil=>intro us r;rw [map_nil] at r;cases r;exact .nil
 | cons n ns ih =>
  intro us r;rw [bM] at r;cases r with
  | cons r1 r2 =>
   obtain ⟨t,e⟩:=r1;subst e;exact .cons n t (ih r2)
section
variable {X:Cx} {e:Expr} {te:TE} {lo hi:Option Expr} {tl th:TO} {pos p2:Pos}
def Zd:PO X none tNoPart:=by
 intro m5 s σ H Q I h;rw [evalPart_none];exact aC ⟨none,H,I,.none,h⟩
def xX (h:PE X e te):PO X (some e) (tPart te):=by
 intro m5 s σ H Q I hw;rw [evalPart_some];refine qM (h m5 s σ H _ I hw) λ u s1 x H1 I1 r1 q1=>?_;obtain ⟨i,rfl,q⟩:=Qk q1;obtain ⟨t,rfl⟩:=r1;exact ⟨some i,H1,I1,.int i t,q⟩
def SlR (X:Cx) (r:V->Option Int->Option Int->Hp->VK->Prop):Prop :=
 ∀ (m5:A2) (s:An) (σ:St) (H:Hp) (x:V) (v vl vu:Am) (lo hi:A9) (sl:Addr) (Q:VK),Inv X m5 σ H s->RelV x v->s.heap.IsSliceOf sl vl vu .none->IsPart vl lo->IsPart vu hi->r x lo hi H Q ->
  ∃ T id,typeLookup (.type T) "__getitem__"=pure (some (.builtin id))/\s.TypeIs v T/\wpAny (model X.prog X.w) X.A (getItem v (.ref sl)) (EP X m5 σ Q) X.xe s
def SlR.or {r r':V->Option Int->Option Int->Hp->VK->Prop} (h:SlR X r) (h':SlR X r'):SlR X (λ x lo hi H Q=>r x lo hi H Q\/r' x lo hi H Q):=by
 intro m5 s σ H x v vl vu lo hi sl Q I rx hs pl pu q;rcases q with q|q
 ·exact h m5 s σ H x v vl vu lo hi sl Q I rx hs pl pu q
 ·exact h' m5 s σ H x v vl vu lo hi sl Q I rx hs pl pu q
def tSl (r:V->Option Int->Option Int->Hp->VK->Prop) (te:TE) (tl th:TO):TE:=λ σ H Q=>te σ H λ x H1=>tl σ H1 λ l H2=>th σ H2 λ u H3=>r x l u H3 Q
def xM {r:V->Option Int->Option Int->Hp->VK->Prop} (hr:SlR X r) (he:PE X e te) (hl:PO X lo tl) (hu:PO X hi th):PE X (.Subscript e (.Slice lo hi none p2) pos) (tSl r te tl th):=by
 intro m5 s σ H Q I h;refine Subscript_ (qM (he m5 s σ H _ I h) λ v s1 x H1 I1 r1 q1=>?_);refine wpAny_Slice (thn (hl m5 s1 σ H1 _ I1 q1) λ vl s2 ⟨l,H2,I2,pl,q2⟩=>thn (hu m5 s2 σ H2 _ I2 q2) λ vu s3 ⟨u,H3,I3,pu,q3⟩=>?_);rw [evalPart_none];refine aC ?_;have I4:Inv X m5 σ H3 { s3 with heap:=s3.heap.push { cls:=.type "slice",data:=.fields #[vl,vu,.none] } }:=I3.kept (t':=s3.toks) λ b ob q=>ai _ q;obtain ⟨T,id,hT,ht,hg⟩:=hr m5 { s3 with heap:=s3.heap.push { cls:=.type "slice",data:=.fields #[vl,vu,.none] } } σ H3 x v vl vu l u s3.heap.objs.size Q I4 r1 (Heap.IsSliceOf.new ..) pl pu q3;show wpAny (model X.prog X.w) X.A (subscriptTail e (.Slice lo hi none p2) v (.ref s3.heap.objs.size)) (EP X m5 σ Q) X.xe { s3 with heap:=s3.heap.push { cls:=.type "slice",data:=.fields #[vl,vu,.none] } }
 exact tail_any (ops:=[.ref s3.heap.objs.size,v]) ht hT hg (by with_unfolding_all rfl)
noncomputable def Zq (xs:Ap) (lo hi:A9):List V:=(xs.drop (HT.sIx xs.length 0 lo)).take (HT.sIx xs.length xs.length hi - HT.sIx xs.length 0 lo)
def za5 (xs:Ap) (lo hi:A9):(Zq xs lo hi).length<=xs.length:=by
 unfold Zq;rw [aR,dn];omega
end
noncomputable def ixN (n:Nat) (i:Int):Option Nat:=if 0<=i then (if i < n then some i.toNat else none) else if -(n:Int)<=i then some (i + n).toNat else none
noncomputable def atI {α:Type} (xs:List α) (i:Int):Option α:=(ixN xs.length i).bind λ j=>xs[j]?
def zcM {n:Nat} {i:Int} {j:Nat} (h:ixN n i=some j):seqIndex? i n=some j/\j < n/\-(n:Int)<=i/\i < n:=by
 unfold ixN at h;by_cases h0:0<=i
 ·rw [ap h0] at h;by_cases h1:i < n
  ·rw [ap h1] at h;have e:i.toNat=j:=aN h;exact ⟨by rw [fo h0 h1,e],by omega,by omega,h1⟩
  ·rw [am h1] at h;cases h
 ·rw [am h0] at h;by_cases h1:-(n:Int)<=i
  ·rw [ap h1] at h;have e:(i + n).toNat=j:=aN h;exact ⟨by rw [seqIndex_neg (by omega) h1,e],by omega,h1,by omega⟩
  ·rw [am h1] at h;cases h
def JE {α:Type} {xs:List α} {i:Int} {v:α} (h:atI xs i=some v):∃ j,seqIndex? i xs.length=some j/\xs[j]?=some v/\j < xs.length/\-(xs.length:Int)<=i/\i < xs.length:=by
 unfold atI at h;cases e:ixN xs.length i with
 | none=>rw [e] at h;cases h
 | some j =>
  rw [e] at h;obtain ⟨h1,h2,h3,h4⟩:=zcM e;exact ⟨j,h1,h,h2,h3,h4⟩
def zz {α:Type} {xs:List α} {j:Nat} {v:α} (h:xs[j]?=some v):atI xs (j:Int)=some v:=by
 have hj:j < xs.length:=(aa.mp h).1;have e:ixN xs.length (j:Int)=some j:=by
  unfold ixN;rw [ap (by omega),ap (by omega)];simp
 unfold atI;rw [e];exact h
def zda (b:Expr):Prop:=∀ o i,subscripted b false o i=operate [o,i] (getItem o i)
def IxR (X:Cx) (r:R2):Prop :=
 ∀ (value slice:Expr) (m5:A2) (s:An) (σ:St) (H:Hp) (x y:V) (v u:Am) (Q:VK),Inv X m5 σ H s->RelV x v->RelV y u->r x y H Q ->
  subscripted slice false v u=operate [v,u] (getItem v u)->wpAny (model X.prog X.w) X.A (subscriptTail value slice v u) (EP X m5 σ Q) X.xe s
def MtR (X:Cx) (id:String) (r:V->List V->Hp->VK->Prop):Prop :=
 ∀ (m5:A2) (s:An) (σ:St) (H:Hp) (x:V) (xs:Ap) (v:Am) (us:A7) (Q:VK),Inv X m5 σ H s->RelV x v->Vals xs us->r x xs H Q ->
  wpAny (model X.prog X.w) X.A (call (.builtin id) (v :: us)) (EP X m5 σ Q) X.xe s
section
variable {X:Cx} {a b:Expr} {ta tb:TE} {pos:Pos}
def IxR.or {r r':R2} (h:IxR X r) (h':IxR X r'):IxR X (λ x y H Q=>r x y H Q\/r' x y H Q):=by
 intro value slice m5 s σ H x y v u Q I rx ry q hs;rcases q with q|q
 ·exact h value slice m5 s σ H x y v u Q I rx ry q hs
 ·exact h' value slice m5 s σ H x y v u Q I rx ry q hs
def MtR.or {id:String} {r r':V->List V->Hp->VK->Prop} (h:MtR X id r) (h':MtR X id r'):MtR X id (λ x xs H Q=>r x xs H Q\/r' x xs H Q):=by
 intro m5 s σ H x xs v us Q I rx rs q;rcases q with q|q
 ·exact h m5 s σ H x xs v us Q I rx rs q
 ·exact h' m5 s σ H x xs v us Q I rx rs q
def zin {r:R2} (hr:IxR X r) (ha:PE X a ta) (hb:PE X b tb) (hs:zda b):PE X (.Subscript a b pos) (tOp r ta tb):=by
 intro m5 s σ H Q I h;exact Subscript_ (zhX ha hb I h λ v u s2 x y H2 I2 rx ry q=>hr a b m5 s2 σ H2 x y v u Q I2 rx ry q (hs _ _))
def zil (K:A0):R2:=λ x y H Q=>∃ p xs i v,x=.ref p/\y=.int i/\SqL K H p xs/\atI xs i=some v/\Q v H
def zij (K:A0):R2:=λ x y H Q=>∃ p xs i v,x=.ref p/\y=.int i/\SqT K H p xs/\atI xs i=some v/\Q v H
def zik:R2:=λ x y H Q=>∃ z i c,x=.str z/\y=.int i/\z.length<=sizeLine/\atI z.cps.toList i=some c/\Q (.str ⟨#[c]⟩) H
def ix_list:IxR X (zil X.K):=by
 intro value slice m5 s σ H x y v u Q I rx ry h hs;obtain ⟨p,xs,i,z,rfl,rfl,hq,he,q⟩:=h;cases rx;obtain ⟨t,rfl⟩:=ry;obtain ⟨mX,r,pl,hz⟩:=I.list hq;obtain ⟨j,h1,h2,h3,h4,h5⟩:=JE he;obtain ⟨w,ew,rw'⟩:=r.get h2;have hl:=r.length;have hn:=ZR;have fin:EP X m5 σ Q w s:=⟨z,H,I,rw',q⟩;by_cases h0:0<=i
 ·have hj:i.toNat=j:=by
   rw [fo h0 h5] at h1;exact aN h1
  exact item_listR pl.isList h0 (by omega) (by rw [hj];simpa using ew) fin hs
 ·have hj:(i + (mX.toArray.size:Int)).toNat=j:=by
   rw [seqIndex_neg (by omega) h4] at h1;rw [av,<- hl];exact aN h1
  exact subscriptTail_builtinR (x:=w) pl.isList.typeIs slot_list_getitem.lookup
   (wpAny_getItem_list_neg (Q:=λ r s'=>r=w/\EP X m5 σ Q r s') pl.isList (by omega) (by rw [av] <;> omega) (by omega) (by rw [hj];simpa using ew) ⟨rfl,fin⟩) hs
def ix_tup:IxR X (zij X.K):=by
 intro value slice m5 s σ H x y v u Q I rx ry h hs;obtain ⟨p,xs,i,z,rfl,rfl,hq,he,q⟩:=h;cases rx;obtain ⟨t,rfl⟩:=ry;obtain ⟨mX,r,pl,hz⟩:=I.tuple hq;obtain ⟨j,h1,h2,h3,h4,h5⟩:=JE he;obtain ⟨w,ew,rw'⟩:=r.get h2;have hl:=r.length;have hn:=ZR;have fin:EP X m5 σ Q w s:=⟨z,H,I,rw',q⟩;exact subscriptTail_builtinR (x:=w) pl.typeIs slot_tuple_getitem.lookup
  (getItem_tuple (j:=j) (Q:=λ r s'=>r=w/\EP X m5 σ Q r s') pl (by omega) (by omega) (by rw [av,<- hl];exact h1) (by simpa using ew) ⟨rfl,fin⟩) hs
def zhG:IxR X zik:=by
 intro value slice m5 s σ H x y v u Q I rx ry h hs;obtain ⟨z,i,c,rfl,rfl,hz,he,q⟩:=h;obtain ⟨t,rfl⟩:=rx;obtain ⟨t',rfl⟩:=ry;obtain ⟨j,h1,h2,h3,h4,h5⟩:=JE he;have hl:z.cps.toList.length=z.length:=by simp [Str.length]
 rw [hl] at h1 h4 h5;have hn:=ZR;exact tail_any (typeIs_str s z t) slot_str_getitem.lookup (getItem_str (c:=c) (by
  have e1:decide (i < -(2 ^ 63:Int))=false:=aV (by omega);have e2:decide (i ≥ 2 ^ 63)=false:=aV (by omega);rw [e1,e2,Bool.or_false]) (by rw [h1];simpa using h2) ⟨.str ⟨#[c]⟩,H,I.tok _,⟨_,rfl⟩,q⟩) hs
def rIx (K:A0):R2:=λ x y H Q=>zil K x y H Q\/zij K x y H Q\/zik x y H Q
def zhH:IxR X (rIx X.K):=ix_list.or (ix_tup.or zhG)
def zbY (mX:A7) (n j:Nat) (u:Am):Obj.mapSeq (·.setIfInBounds j u) { cls:=.type "list",data:=.seq mX.toArray n }={ cls:=.type "list",data:=.seq (mX.set j u).toArray n }:=by
 simp [Obj.mapSeq]
def Inv.lst {m5:A2} {σ:St} {H:Hp} {s:An} {p:Addr} {xs:Ap} (I:Inv X m5 σ H s) (h:H p=some (.lst xs)) :
  ∃ (mX:A7) (n:Nat),Vals xs mX/\s.heap.get? p=some { cls:=.type "list",data:=.seq mX.toArray n }/\xs.length<=sizeLine:=by
 obtain ⟨z,mX,n,r,e⟩:=I.hok p _ h;exact ⟨mX,n,r,e,z⟩
def Inv.lstUpd {m5:A2} {σ:St} {H:Hp} {s:An} {p:Addr} {xs ys:Ap} {mX its':A7} {n n':Nat} {f:Obj->Obj} (I:Inv X m5 σ H s) (h:H p=some (.lst xs))
  (ho:s.heap.get? p=some { cls:=.type "list",data:=.seq mX.toArray n }) (hf:f { cls:=.type "list",data:=.seq mX.toArray n }={ cls:=.type "list",data:=.seq its'.toArray n' }) (r:Vals ys its') (hz:ys.length<=sizeLine) (t:Nat) :
  Inv X m5 σ (upd H p (.lst ys)) { s with heap:=s.heap.update p f,toks:=t }:=by
 have e:(s.heap.update p f).get? p=some { cls:=.type "list",data:=.seq its'.toArray n' }:=by
  rw [br f ho (by rw [hf] <;> rfl),hf]
 refine I.write (x:=p) (e:=p) (by rw [h];trivial) (.inl rfl) (λ b u hb q=>(a9 _ _ (aW hb)).trans q) ⟨_,e⟩ ?_;exact ⟨hz,its',n',r,e⟩
def zgS:V->V->V->Hp->(Hp->Prop)->Prop:=λ o i v H Q=>∃ p xs k j,o=.ref p/\i=.int k/\H p=some (.lst xs)/\ixN xs.length k=some j/\Q (upd H p (.lst (xs.set j v)))
def wp:zh2 X zgS:=by
 intro m5 s σ H o i v ov iv u Q I ro ri rv h;obtain ⟨p,xs,k,j,rfl,rfl,hp,hj,q⟩:=h;cases ro;obtain ⟨t,rfl⟩:=ri;obtain ⟨mX,n,r,ho,hz⟩:=I.lst hp;obtain ⟨h1,h2,h3,h4⟩:=zcM hj;have hl:=r.length;have hn:=ZR;have I':Inv X m5 σ (upd H p (.lst (xs.set j v))) { s with heap:=s.heap.update p (Obj.mapSeq (·.setIfInBounds j u)) } :=
  I.lstUpd hp ho (zbY mX n j u) (r.set rv j) (by rw [bN];exact hz) s.toks
 by_cases h0:0<=k
 ·have hk:k.toNat=j:=by
   rw [fo h0 h4] at h1;exact aN h1
  exact PySem.W.ki_setAt ho h0 (by omega) (by rw [av,<- hl];exact h4) (by rw [hk];exact ⟨_,I',q⟩)
 ·have hk:(k + (mX.toArray.size:Int)).toNat=j:=by
   rw [seqIndex_neg (by omega) h3] at h1;rw [av,<- hl];exact aN h1
  exact PySem.W.ki_setBack ho (by omega) (by rw [av,<- hl];exact h3) (by omega) (by rw [hk];exact ⟨_,I',q⟩)
def Vf (lo hi:A9) (n:Nat):(sliceBounds lo hi none n).1=((HT.sIx n 0 lo:Nat):Int)/\(sliceBounds lo hi none n).2.1=((HT.sIx n n hi:Nat):Int)/\(sliceBounds lo hi none n).2.2=1:=by
 refine ⟨?_,?_,rfl⟩
 ·cases lo with
  | none=>simp [sliceBounds,HT.sIx]
  | some i =>
   simp only [sliceBounds,HT.sIx,eC,show (1:Int) > 0 by decide,d7];by_cases h:i < 0
   ·simp only [h,d7] <;> omega
   ·simp only [h,dL] <;> omega
 ·cases hi with
  | none=>simp [sliceBounds,HT.sIx]
  | some i =>
   simp only [sliceBounds,HT.sIx,eC,show (1:Int) > 0 by decide,d7];by_cases h:i < 0
   ·simp only [h,d7] <;> omega
   ·simp only [h,dL] <;> omega
def XT (mX:A7) (lo hi:A9):slicePick mX.toArray lo hi none=((mX.drop (HT.sIx mX.length 0 lo)).take (HT.sIx mX.length mX.length hi - HT.sIx mX.length 0 lo)).toArray:=by
 obtain ⟨h1,h2,h3⟩:=Vf lo hi mX.toArray.size;unfold slicePick;rw [h1,h2,h3];simp only [sliceRange_one,pick_run,av] <;> rfl
def zhf (K:A0):V->Option Int->Option Int->Hp->VK->Prop:=λ x lo hi H Q=>∃ a xs,x=.ref a/\SqL K H a xs/\∀ p,H p=none->Q (.ref p) (upd H p (.lst (Zq xs lo hi)))
def zfS:SlR X (zhf X.K):=by
 intro m5 s σ H x v vl vu lo hi sl Q I rx hs pl pu h;obtain ⟨a,xs,rfl,hx,q⟩:=h;cases rx;obtain ⟨mX,r,ht,hz⟩:=I.list hx;have hlen:=r.length;refine ⟨"list",_,slot_list_getitem.lookup,ht.isList.typeIs,?_⟩;refine wpAny_getItem_list_slice ht.isList hs pl pu .none (by simp) ?_ (by rw [av] <;> omega);rw [XT,<- hlen];refine ⟨.ref s.heap.objs.size,_,I.laid (t':=s.toks) (o:=.lst (Zq xs lo hi)) (λ b ob q=>ai _ q) (aq _) ?_,rfl,q _ (I.hok.fresh (aq _))⟩;exact ⟨ba (za5 xs lo hi) hz,_,0,(r.drop (HT.sIx xs.length 0 lo)).take (HT.sIx xs.length xs.length hi - HT.sIx xs.length 0 lo),aD _ rfl⟩
noncomputable def vo:V->Bool
 | .non=>true
 | .bl _=>true
 | .int _=>true
 | .str _=>true
 | _=>false
noncomputable def eqV:V->V->Bool
 | .non,.non=>true
 | .bl a,.bl b=>a == b
 | .bl a,.int b=>(if a then 1 else 0) == b
 | .int a,.bl b=>a == (if b then 1 else 0)
 | .int a,.int b=>a == b
 | .str a,.str b=>a == b
 | _,_=>false
def QU {A:Ao} {s:An} {y x:V} {u v:Am} (ry:RelV y u) (rx:RelV x v) (fy:vo y=true) (fx:vo x=true):SeqAt.EqAt A s u v (eqV y x):=by
 cases y with
 | non =>
  cases ry;cases x with
  | non=>cases rx;exact dS _
  | bl b=>cases rx;exact SeqAt.EqAt.none_bool b
  | int b=>obtain ⟨t,rfl⟩:=rx;exact SeqAt.EqAt.none_int b t
  | str b=>obtain ⟨t,rfl⟩:=rx;exact SeqAt.EqAt.none_str b t
  | _=>exact absurd (show false=true from fx) aA
 | bl a =>
  cases ry;cases x with
  | non=>cases rx;exact SeqAt.EqAt.bool_none a
  | bl b=>cases rx;exact SeqAt.EqAt.bool_bool a b
  | int b=>obtain ⟨t,rfl⟩:=rx;exact SeqAt.EqAt.bool_int a b t
  | str b=>obtain ⟨t,rfl⟩:=rx;exact SeqAt.EqAt.bool_str a b t
  | _=>exact absurd (show false=true from fx) aA
 | int a =>
  obtain ⟨t',rfl⟩:=ry;cases x with
  | non=>cases rx;exact SeqAt.EqAt.int_none a t'
  | bl b=>cases rx;exact SeqAt.EqAt.int_bool a t' b
  | int b=>obtain ⟨t,rfl⟩:=rx;exact SeqAt.EqAt.int_int a t' b t
  | str b=>obtain ⟨t,rfl⟩:=rx;exact SeqAt.EqAt.int_str a t' b t
  | _=>exact absurd (show false=true from fx) aA
 | str a =>
  obtain ⟨t',rfl⟩:=ry;cases x with
  | non=>cases rx;exact SeqAt.EqAt.str_none a t'
  | bl b=>cases rx;exact SeqAt.EqAt.str_bool a t' b
  | int b=>obtain ⟨t,rfl⟩:=rx;exact SeqAt.EqAt.str_int a t' b t
  | str b=>obtain ⟨t,rfl⟩:=rx;exact SeqAt.EqAt.str_str a t' b t
  | _=>exact absurd (show false=true from fx) aA
 | _=>exact absurd (show false=true from fy) aA
def CallR.or {f:Am} {r r':List V->Hp->VK->Prop} (h:CallR X f r) (h':CallR X f r'):CallR X f (λ xs H Q=>r xs H Q\/r' xs H Q):=by
 intro m5 s σ H xs us Q I rs q;rcases q with q|q
 ·exact h m5 s σ H xs us Q I rs q
 ·exact h' m5 s σ H xs us Q I rs q
def VR:CallR X (.type "list") (λ xs H Q=>∃ p ys,xs=[.ref p]/\(SqL X.K H p ys\/SqT X.K H p ys)/\∀ l,H l=none->Q (.ref l) (upd H l (.lst ys))):=by
 intro m5 s σ H xs us Q I r h;obtain ⟨p,ys,rfl,hq,q⟩:=h;obtain ⟨u,rfl,rx⟩:=QZ r;cases rx;have fin:∀ (mX:A7),Vals ys mX->ys.length<=sizeLine->∀ (h':Heap) (c':Nat),(∀ b o',s.heap.get? b=some o'->h'.get? b=some o') ->
   h'.get? s.heap.objs.size=some { cls:=.type "list",dict:=none,data:=.seq mX.toArray c',slots:=#[] }->EP X m5 σ Q (.ref s.heap.objs.size) { s with heap:=h' }:=λ mX r' hz h' c' kp e =>
  ⟨.ref s.heap.objs.size,_,I.laid (t':=s.toks) kp (aq _) (show ObjOk X.prog X.w _ h' _ (.lst ys) from ⟨hz,mX,c',r',e⟩),rfl,q _ (I.hok.fresh (aq _))⟩
 rcases hq with hq|hq
 ·obtain ⟨mX,r',pl,hz⟩:=I.list hq;have hlen:=r'.length;obtain ⟨o,ho,hc,n,hd⟩:=pl.isList;exact call_list_seq p (.inl rfl) ho hc hd (λ h' c' kp e=>fin mX r' hz h' c' kp e) (by simp only [av] <;> omega)
 ·obtain ⟨mX,r',pl,hz⟩:=I.tuple hq;have hlen:=r'.length;obtain ⟨o,ho,hc,n,hd⟩:=pl;exact call_list_seq p (.inr rfl) ho hc hd (λ h' c' kp e=>fin mX r' hz h' c' kp e) (by simp only [av] <;> omega)
def We:CallR X (.type "tuple") (λ xs H Q=>∃ p ys,xs=[.ref p]/\((SqL X.K H p ys/\∀ l,H l=none->Q (.ref l) (upd H l (.tup ys)))\/(SqT X.K H p ys/\Q (.ref p) H))):=by
 intro m5 s σ H xs us Q I r h;obtain ⟨p,ys,rfl,h⟩:=h;obtain ⟨u,rfl,rx⟩:=QZ r;cases rx;rcases h with ⟨hq,q⟩|⟨hq,q⟩
 ·obtain ⟨mX,r',pl,hz⟩:=I.list hq;have hlen:=r'.length;refine call_tuple_list pl.isList (λ h' kp=>?_) (by simp only [av] <;> omega);have I1:Inv X m5 σ H { s with heap:=h' }:=I.kept (t':=s.toks) kp;have I2:Inv X m5 σ (upd H h'.objs.size (.tup ys)) { s with heap:=h'.push { cls:=.type "tuple",data:=.seq mX.toArray } } :=
   I1.laid (t':=s.toks) (λ b o e=>ai _ e) (aq _) (show ObjOk X.prog X.w _ _ _ (.tup ys) from ⟨hz,mX,r',IsTup.new _ _⟩)
  exact ⟨.ref h'.objs.size,_,I2,rfl,q _ (I1.hok.fresh (aq _))⟩
 ·obtain ⟨mX,r',pl,hz⟩:=I.tuple hq;exact call_tuple_same pl ⟨.ref p,H,I,rfl,q⟩
def tyV (K:A0) (T:String) (x:V) (H:Hp):Prop:=match x with
 | .str _=>T="str"
 | .int _=>T="int"
 | .ref p=>(T="list"/\∃ xs,SqL K H p xs)\/(T="tuple"/\∃ o,K.lookup p=some o/\o.cls=.type "tuple"/\o.dict=none) \/
   (T="dict"/\((∃ mW,H p=some (.dK mW))\/∃ mW,H p=some (.dT mW)))\/(T="set"/\∃ S n,H p=some (.set S n))
 | _=>False
theorem zg2 {m5:A2} {σ:St} {H:Hp} {s:An} {T:String} {x:V} {v:Am} (I:Inv X m5 σ H s) (r:RelV x v) (ty:tyV X.K T x H) :
  s.TypeIs v T/\∀ a,v=.ref a->∃ ob,s.heap.get? a=some ob/\ob.dict=none:=by
 cases x with
 | str z =>
  obtain ⟨t,rfl⟩:=r;cases (show T="str" from ty);exact ⟨typeIs_str s z t,λ _ e=>nomatch e⟩
 | int i =>
  obtain ⟨t,rfl⟩:=r;cases (show T="int" from ty);exact ⟨typeIs_int s i t,λ _ e=>nomatch e⟩
 | ref p =>
  cases r;rcases ty with ⟨rfl,xs,hq⟩|⟨rfl,o,hk,hc,hd⟩|⟨rfl,hk⟩|⟨rfl,S,n,hk⟩
  ·obtain ⟨mX,_,pl,_⟩:=I.list hq;refine ⟨pl.isList.typeIs,λ a e=>?_⟩;cases e;obtain ⟨o,n,e,c,hd,_⟩:=pl;exact ⟨o,e,hd⟩
  ·refine ⟨⟨o,I.kIn p o hk,hc⟩,λ a e=>?_⟩;cases e;exact ⟨o,I.kIn _ o hk,hd⟩
  ·have z:∃ o,s.heap.get? p=some o/\o.ExactDict:=by
    rcases hk with ⟨mW,hk⟩|⟨mW,hk⟩
    ·obtain ⟨_,_,_,_,o,_,_,e,ex,_⟩:=I.hok p _ hk;exact ⟨o,e,ex⟩
    ·obtain ⟨_,_,_,_,o,_,_,e,ex,_⟩:=I.hok p _ hk;exact ⟨o,e,ex⟩
   obtain ⟨o,e,ex⟩:=z;refine ⟨⟨o,e,ex.1⟩,λ a e2=>?_⟩;cases e2;exact ⟨o,e,ex.2.1⟩
  ·obtain ⟨o,_,_,_,e,ex,_⟩:=I.hok p _ hk;refine ⟨⟨o,e,ex.1⟩,λ a e2=>?_⟩;cases e2;exact ⟨o,e,ex.2.1⟩
 | _=>exact False.elim ty
def tBM (K:A0) (T:String) (r:V->List V->Hp->VK->Prop) (to:TE) (t:TA):TE:=λ σ H Q=>to σ H λ x H1=>tyV K T x H1/\t σ H1 λ xs H2=>r x xs H2 Q
variable {o e:Expr} {es:List Expr} {to:TE} {t:TA} {name:Str} {apos cpos:Pos} {T id:String} {r:V->List V->Hp->VK->Prop}
def qB (pa:PlainAttrs T) (slot:Slot T name id) (hty:typeOf (.builtin id)=pure (.type "method_descriptor")) (hm:MtR X id r) (ho:PE X o to) (ha:PA X (e :: es) t)
  (hbase:attributeBase o name X.env (eval o X.env)=eval o X.env:=by rfl)
  (hfew:((backTo cpos (starEach (e :: es) X.env)).all (λ x=>!x.1) && (backToKw cpos (keywordEach [] X.env)).all (λ x=>x.1.isSome)
   && decide ((e :: es).length + ([]:List Keyword).length + (if ([]:List Keyword).isEmpty then 0 else 1) < 30))=true:=by rfl)
  (hline:(apos.endLine == cpos.line)=true:=by rfl) (hs:starEach (e :: es) X.env=(false,eval e X.env) :: starEach es X.env:=by rfl) (hplain:(backTo cpos (starEach es X.env)).any (·.1)=false:=by rfl) :
  PE X (.Call (.Attribute o name apos) (e :: es) [] cpos) (tBM X.K T r to t):=by
 intro m5 s σ H Q I h;refine wpAny_Call_method_late hbase hfew hline rfl (qM (ho m5 s σ H _ I h) λ v s1 x H1 I1 r1 qq_=>?_);obtain ⟨ty,q1⟩:=qq_;obtain ⟨h1,h2⟩:=zg2 I1 r1 ty;refine ⟨T,id,pa,slot,hty,h1,h2,?_⟩;have hA:=ha cpos m5 s1 σ H1 _ I1 q1;rw [hs] at hA ⊢;refine Calls.callWith_builtin (by show (false || (backTo cpos (starEach es X.env)).any (·.1))=false;rw [hplain] <;> rfl) (Calls.evalArgs_plain ?_);exact thn hA λ us s2 ⟨vs,H2,I2,r2,q2⟩=>hm m5 s2 σ H2 x vs v us Q I2 r1 r2 q2
end
def MtM (X:Cx) (id:String) (r:V->List V->Hp->VK->Prop):Prop :=
 ∀ (m5:A2) (s:An) (σ:St) (H:Hp) (x:V) (xs:Ap) (v:Am) (us:A7) (Q:VK),Inv X m5 σ H s->RelV x v->Vals xs us->r x xs H Q ->
  wpAny (model X.prog X.w) X.A (call (.builtin id) (v :: us)) (EP X m5 σ Q) X.xe s
def Vals.one {x:V} {us:A7} (h:Vals [x] us):∃ u,us=[u]/\RelV x u:=by
 cases h with
 | cons r t=>cases t;exact ⟨_,rfl,r⟩
def Vals.two {x y:V} {us:A7} (h:Vals [x,y] us):∃ u v,us=[u,v]/\RelV x u/\RelV y v:=by
 cases h with
 | cons r t =>
  obtain ⟨v,rfl,q⟩:=Vals.one t;exact ⟨_,_,rfl,r,q⟩
theorem Vals.zero:∀ {us:A7},Vals [] us->us=[]
 | _,.nil=>rfl
theorem Vals.eraseIdx:∀ {xs:Ap} {us:A7} (i:Nat),Vals xs us->Vals (xs.eraseIdx i) (us.eraseIdx i)
 | _,_,_,.nil=>.nil
 | _,_,0,.cons _ t=>t
 | _,_,i + 1,.cons r t=>.cons r (Vals.eraseIdx i t)
def Vals.reverse {xs:Ap} {us:A7} (h:Vals xs us):Vals xs.reverse us.reverse:=by
 induction h with
 | nil=>exact .nil
 | cons r t ih=>rw [List.reverse_cons,List.reverse_cons];exact Vals.append ih (.cons r .nil)
theorem Vals.rep {xs:Ap} {us:A7} (h:Vals xs us):∀ k:Nat,Vals (List.replicate k xs).flatten (List.replicate k us).flatten
 | 0=>.nil
 | k + 1=>by
  rw [cH,cH,dO,dO];exact Vals.append h (Vals.rep h k)
theorem Wy {α:Type}:∀ (l:List α) (i:Nat),(l.eraseIdx i).length<=l.length
 | [],_=>aq _
 | _ :: _,0=>b8 _
 | _ :: r,i + 1=>Nat.succ_le_succ (Wy r i)
theorem WJ (mX:A7):∀ (k:Nat) (mY:A7),
  List.foldl (λ x1 x2=>x1 ++ x2) mY.toArray (List.replicate k mX.toArray)=(mY ++ (List.replicate k mX).flatten).toArray
 | 0,mY=>by simp
 | k + 1,mY=>by
  have e:mY.toArray ++ mX.toArray=(mY ++ mX).toArray:=by simp
  have e2:(mY ++ mX) ++ (List.replicate k mX).flatten=mY ++ (List.replicate (k + 1) mX).flatten:=by
   rw [cH,dO,bK]
  rw [<- e2,<- WJ mX k (mY ++ mX),<- e,cH,List.foldl_cons]
section
variable {X:Cx} {m5:A2} {σ:St} {H:Hp} {s:An} {l b:Addr} {xs ys zs:Ap}
def Inv.lset {mX its':A7} {n:Nat} {f:Array Value->Array Value} {t':Nat} (I:Inv X m5 σ H s) (hH:H l=some (.lst xs))
  (e:s.heap.get? l=some { cls:=.type "list",data:=.seq mX.toArray n }) (hf:f mX.toArray=its'.toArray) (hv:Vals ys its') (hz:ys.length<=sizeLine) :
  Inv X m5 σ (upd H l (.lst ys)) { s with heap:=s.heap.update l (Obj.mapSeq f),toks:=t' }:=by
 have q:=PySem.IsL.update e f;rw [hf] at q;refine I.write (x:=l) (e:=l) (by rw [hH];exact trivial) (.inl rfl) (λ b' u hb hu=>(a9 s.heap (Obj.mapSeq f) (aW hb)).trans hu) ⟨_,q⟩ ?_;exact ⟨hz,its',_,hv,q⟩
def Inv.lnew {mX:A7} {t':Nat} (I:Inv X m5 σ H s) (hv:Vals ys mX) (hz:ys.length<=sizeLine) :
  Inv X m5 σ (upd H s.heap.objs.size (.lst ys)) { s with heap:=s.heap.push { cls:=.type "list",data:=.seq mX.toArray },toks:=t' } :=
 I.laid (λ _ _ q=>ai _ q) (aq _) ⟨hz,mX,0,hv,aD _ rfl⟩
def Inv.fresh (I:Inv X m5 σ H s):H s.heap.objs.size=none:=I.hok.fresh (aq _)
def Inv.lstM (I:Inv X m5 σ H s) (hH:H l=some (.lst xs)):xs.length<=sizeLine/\∃ (mX:A7) (n:Nat),Vals xs mX/\xs.length=mX.length/\s.heap.get? l=some { cls:=.type "list",data:=.seq mX.toArray n }:=by
 obtain ⟨z,mX,n,r,e⟩:=I.hok l _ hH;exact ⟨z,mX,n,r,r.length,e⟩
def zaJ {n:Nat} (h:n<=sizeLine):Builtin.List.listTooLong n=false:=by
 unfold Builtin.List.listTooLong;exact aV (by omega)
end
section
variable {X:Cx}
def zf6:V->List V->Hp->VK->Prop:=λ x vs H Q=>∃ l xs y,x=.ref l/\vs=[y]/\H l=some (.lst xs)/\xs.length < sizeLine/\Q .non (upd H l (.lst (xs ++ [y])))
def zL:MtM X "list.append" zf6:=by
 intro m5 s σ H x vs v us Q I rx rv h;obtain ⟨l,xs,y,rfl,rfl,hH,hz,q⟩:=h;cases rx;obtain ⟨u,rfl,ru⟩:=rv.one;obtain ⟨z,mX,n,r,hl,e⟩:=I.lstM hH;refine eJ F.slot_list_append ⟨_,e,rfl⟩ F.entry_list_append (F.args_list_append_2 _ _) (PySem.list_append l mX.toArray n u (by rw [av];omega)) ⟨e,?_⟩;refine ⟨.non,_,I.lset (its':=mX ++ [u]) hH e (by simp) (r.append (.cons ru .nil)) ?_,rfl,q⟩;rw [aM,cQ];omega
def zf3:V->List V->Hp->VK->Prop:=λ x vs H Q=>∃ l b xs zs,x=.ref l/\vs=[.ref b]/\H l=some (.lst xs)/\H b=some (.lst zs)/\xs.length + zs.length<=sizeLine/\Q .non (upd H l (.lst (xs ++ zs)))
def Zg:MtM X "list.extend" zf3:=by
 intro m5 s σ H x vs v us Q I rx rv h;obtain ⟨l,b,xs,zs,rfl,rfl,hH,hB,hz,q⟩:=h;cases rx;obtain ⟨u,rfl,ru⟩:=rv.one;cases ru;obtain ⟨z,mX,n,r,hl,e⟩:=I.lstM hH;obtain ⟨z2,its2,n2,r2,hl2,e2⟩:=I.lstM hB;have hsz:mX.toArray.size + its2.toArray.size<=sizeLine:=by rw [av,av];omega
 have hlong:¬ (!mX.toArray.isEmpty && Builtin.List.listTooLong (mX.toArray.size + its2.toArray.size))=true:=by
  rw [zaJ hsz,cz];exact aA
 refine eJ F.slot_list_extend ⟨_,e,rfl⟩ F.entry_list_extend (F.args_list_extend_2 _ _)
  (AutoSeq1.list_extend_list_list_0 l mX.toArray n b its2.toArray n2 hlong (by rw [av];omega) (by omega)) ⟨e,e2,?_⟩
 refine ⟨.non,_,I.lset (its':=mX ++ its2) hH e (by simp) (r.append r2) ?_,rfl,q⟩;rw [aM];omega
def zhh:V->List V->Hp->VK->Prop:=λ x vs H Q=>∃ l xs i k y,x=.ref l/\vs=[.int i]/\H l=some (.lst xs)/\-(2 ^ 63)<=i/\i < 2 ^ 63/\seqIndex? i xs.length=some k/\xs[k]?=some y/\Q y (upd H l (.lst (xs.eraseIdx k)))
def Xl:MtM X "list.pop" zhh:=by
 intro m5 s σ H x vs v us Q I rx rv h;obtain ⟨l,xs,i,k,y,rfl,rfl,hH,h1,h2,hk,hy,q⟩:=h;cases rx;obtain ⟨u,rfl,ru⟩:=rv.one;obtain ⟨t,rfl⟩:=ru;obtain ⟨z,mX,n,r,hl,e⟩:=I.lstM hH;obtain ⟨w,hw,rw'⟩:=r.get hy;refine eJ F.slot_list_pop ⟨_,e,rfl⟩ F.entry_list_pop (F.args_list_pop_2 _ _)
  (MeetsSeq.list_pop_at l mX.toArray n i t k w (fitsIndex_both h1 h2) (by rw [av,<- hl];exact hk) (by rw [<- cF];exact hw) (by rw [av];omega)) ⟨e,?_⟩
 refine ⟨y,_,I.lset (its':=mX.eraseIdx k) hH e ?_ (r.eraseIdx k) ?_,rw',q⟩
 ·show mX.toArray.eraseIdxIfInBounds k=(mX.eraseIdx k).toArray
  rw [List.eraseIdxIfInBounds_toArray]
 ·have:=Wy xs k;omega
def ziV:R2:=λ x y H Q=>∃ l k xs,x=.ref l/\y=.int k/\H l=some (.lst xs)/\-(2 ^ 63)<=k/\k < 2 ^ 63/\xs.length * k.toNat<=sizeLine /\
 ∀ p,H p=none->Q (.ref p) (upd H p (.lst (List.replicate k.toNat xs).flatten))
def zgn {α:Type} (xs:List α) (k:Nat):(List.replicate k xs).flatten.length=k * xs.length:=by
 induction k with
 | zero=>simp
 | succ k ih=>rw [cH,dO,aM,ih,fu,Nat.add_comm]
def zbT:OpR X (binaryOp .Mult) ziV:=by
 intro m5 s σ H x y v u Q I rx ry h;obtain ⟨l,k,xs,rfl,rfl,hH,h1,h2,hz,q⟩:=h;cases rx;obtain ⟨t,rfl⟩:=ry;obtain ⟨z,mX,n,r,hl,e⟩:=I.lstM hH;have hlen:mX.toArray.size * k.toNat<=sizeLine:=by rw [av,<- hl];exact hz
 have hcap:¬ mX.toArray.size * k.toNat > (2 ^ 63 - 1) / 8:=by
  have:(sizeLine:Nat)<=(2 ^ 63 - 1) / 8:=by decide
  omega
 have hfit:¬ (!Builtin.List.listFitsIndex k)=true:=by
  rw [fitsIndex_both h1 h2];exact aA
 have hlong:¬ Builtin.List.listTooLong (mX.toArray.size * k.toNat)=true:=by
  rw [zaJ hlen];exact aA
 have hnew:List.foldl (λ x1 x2=>x1 ++ x2) #[] (List.replicate (if mX.toArray.isEmpty=true then 0 else k.toNat) mX.toArray)=(List.replicate k.toNat mX).flatten.toArray:=by
  have f0:∀ m:Nat,List.foldl (λ x1 x2=>x1 ++ x2) #[] (List.replicate m mX.toArray)=(List.replicate m mX).flatten.toArray:=λ m=>by
   have:=WJ mX m [];rw [List.nil_append] at this;exact this
  rw [f0];cases mX with
  | nil=>simp
  | cons a r'=>rw [am (by simp)]
 refine wpAny_binaryOp_repeat_ref (T:="list") (U:="int") (by decide) ⟨_,e,rfl⟩ (λ s'=>typeIs_int s' k t) noFill_list_mul F.fills_int_mul F.slot_int_rmul repeat_list F.slot_int_index.lookup
  (eJ F.slot_int_rmul (typeIs_int s k t) F.entry_int_rmul (F.args_int_rmul_2 _ _) (int___rmul___int_list k t l mX.toArray n)
   ⟨e,rfl,⟨_,e,rfl⟩,eJ F.slot_list_mul ⟨_,e,rfl⟩ F.entry_list_mul (F.args_list_mul_2 _ _) (AutoListH.list___mul___list_int_3 l mX.toArray n k t hfit hcap hlong) ⟨e,?_⟩⟩)
 rw [hnew];exact ⟨.ref _,_,I.lnew (t':=s.toks) (r.rep k.toNat) (by rw [zgn,Nat.mul_comm];exact hz),rfl,q _ I.fresh⟩
end
section
variable {prog:Af} {w:World} {A:Ao} {E:A3} {s:An}
end
section
variable {X:Cx}
end
end L2
namespace Att
open PySem PySem.W PySem.Calls PyProof.Rows
def Jn {P:Params} {h:Heap}:∀ (ns:A6) (vs:A7),WellAll P h vs (ns.map WData.int)->IntsAre vs ns:=by
 intro ns
 induction ns with
 | nil =>
  intro vs w;rw [map_nil] at w;cases w;exact .nil
 | cons n ns ih =>
  intro vs w;rw [bM] at w;cases w with
  | cons a b =>
   cases a;exact .cons _ _ (ih _ b)
theorem zdm {l:OpenLaw} {n:Nat} (hn:l.most=some n) {P:Params} {h:Heap} {args:List WData} {vals:A7}
  (hpre:l.row.toRowW.claim.pre args=true) (hwl:WellAll P h vals args) :
  ∃ a vs ns,vals=[Value.ref a]/\args=[WData.list (ns.map WData.int)]/\h.get? a=some { cls:=.type "list",data:=.seq vs.toArray }/\IntsAre vs ns/\ns.length<=n:=by
 have hsh:WShape.hasAll [] args [.list .int]=true:=(pre_splitW hpre).1;have hc:l.pre.holds [] { args:=args }=true:=(pre_splitW hpre).2;obtain ⟨d,r,rfl,h1,h2⟩:=hasAllW_cons hsh;obtain rfl:=hasAllW_nil h2;obtain ⟨xs,rfl,h3⟩:=hasW_list h1;obtain ⟨ns,rfl⟩:=items_int h3;have hlen:ns.length<=n:=by
  unfold OpenLaw.pre at hc;have h4:(WTm.not (.lt (.lit (.int (n:Int))) (.len (.arg 0)))).holds [] { args:=[.list (ns.map .int)] }=true:=by
   have h4:=(holds_andW hc).1;rw [hn] at h4;exact h4
  have h5:=condW_of h4 (w_not (w_lt w_lit (w_len_list (w_arg rfl))));rw [af] at h5;refine Nat.le_of_not_lt λ q=>?_;have q':(n:Int) < ((ns.length:Nat):Int):=by omega
  first
   | (rw [bp q'] at h5;exact absurd h5 (by decide))
   | (simp at h5;omega)
 cases hwl with
 | cons w1 w2 =>
  cases w2;cases w1 with
  | list ho hall=>exact ⟨_,_,ns,rfl,rfl,ho,Jn ns _ hall,hlen⟩
def zdC (l:OpenLaw) (args:List WData):l.row.toRowW.claim.post args (.bool true) args=true :=
 postW_of (r:=l.row.toRowW) (X:=(true == true))
  (show WShape.has [] (.bool true) .bool=true by first|rfl|decide|simp [WShape.has,WShape.arms,WShape.armsAll])
  (show (WTm.eq .res (.lit (.bool true))).value [] { args:=args,res:=some (.bool true),after:=args }=some (.bool (true == true)) from w_eq_bool (w_res rfl) w_lit) rfl
def attach_call {l:OpenLaw} {n:Nat} {q:Af} {loose:A8} {XP:(Str->Option Value)->Heap->Prop} {YP:World->Heap->Prop} {d:DefRec}
  (hn:l.most=some n) (hdf:d.params.defaults=[])
  (call:∀ (w:World) (s₀ s₁:An) (mg mb:A4) (fa:Addr) (o:Obj) (pm cd doc:Am) (a:Addr) (vs:A7) (ns:A6),
   Ground q loose [] XP w s₀ mg mb s₁.heap->YP w s₁.heap ->
   s₁.heap.get? fa=some o->o.data=.func (docDef d.name d.params d.body d.scope pm cd doc)->s₁.heap.CodeRec cd d.name->mg d.name=some (.ref fa) ->
   s₁.heap.get? a=some { cls:=.type "list",data:=.seq vs.toArray }->IntsAre vs ns->ns.length<=n->s₁.gens=#[] ->
   codeAny (model l.prog w) callerA (.call (.ref fa) ⟨[.ref a],[]⟩) (λ r s'=>r=.ok (.ret (.bool true))/\OldK s₁.heap s'.heap/\s'.os=s₁.os/\AllBare s'.gens) s₁) :
  WalkO q loose XP YP l.row.toRowW d [] (λ f vs=>PySem.call f vs):=by
 intro w s₀ s₁ mg mb G Y fa o pm cd doc dV kV ho hd hcd hD hmg hg args vals as hpre hlay hrd hwl hlo;obtain rfl:dV=.none:=Dflts.none hD hdf;obtain rfl:kV=.none:=Dflts.noKw hD;obtain ⟨a,vs,ns,rfl,rfl,hobj,hints,hlen⟩:=zdm hn hpre hwl;refine enter_call (de (call w s₀ s₁ mg mb fa o pm cd doc a vs ns G Y ho (fd_plain hd) hcd hmg hobj hints hlen hg) λ r s' hq=>?_);obtain ⟨rfl,h2,h3,h4⟩:=hq;exact ⟨.inl ⟨.bool true,.bool true,[],rfl,λ _=>rfl,.bool true,zdC l _,λ _=>⟨List.Pairwise.nil,λ _ hm=>(nomatch hm)⟩⟩,h2,h3,h4⟩
section
variable {prog:Af} {w:World} {A:Ao} {E:A3} {s:An} {K:Frag}
noncomputable def ledger (h:Heap) (L d:Addr):List (Addr × Obj):=(List.range h.objs.size).filterMap λ a=>if a=L\/a=d then none else (h.get? a).map λ o=>(a,o)
end
end Att
namespace L2
open PySem PySem.Spec PyProof.Rows
variable {fd:FuncData}
theorem Wg:∀ {vs:A7} {ns:A6},IntsAre vs ns->Vals (ns.map V.int) vs
 | _,_,.nil=>.nil
 | _,_,.cons n t h=>.cons ⟨t,rfl⟩ (Wg h)
def zh3 (H:Hp):Prop:=∀ b,H b=none\/∃ o xs,H b=some (.frz o (.lst xs))
theorem ze4 {P:Af} {w:World} {K:A0} {mg mb:A4} {CX:CXT} {k:Nat} {fa a:Addr} {x:Str} {sp:Sp} {s₁:An} {vs:A7} {ns:A6}
  (KX:K.In s₁.heap) (hns:s₁.heap.Ns mainGlobals mg) (hb:s₁.heap.Ns builtinsNs mb) (hbb:∀ x:Str,x≠"__name__"->mb x=bootBuiltins x) (hlim:s₁.heap.NoLimit) (hg:s₁.gens=#[])
  (ha:s₁.heap.get? a=some { cls:=.type "list",data:=.seq vs.toArray }) (hi:IntsAre vs ns) (hl:ns.length<=sizeLine) (hr:Room k callerA)
  (F:∀ base:Heap,K.In base->base.Ns mainGlobals mg->FnOk P w K mg base CX k fa fd [x] sp) (hbind:∀ (s:An) (u:Am),BindsTo s fd ⟨[u],[]⟩ [(x,u)])
  (hsp:∀ H:Hp,zh3 H->SqL K H a (ns.map V.int)->sp [.ref a] H (λ v _=>v=.bl true) λ _ _ _=>False)
  (hCX:∀ H e s',CX [] H s₁ (λ _ _ _=>False) e s'->False) :
  codeAny (model P w) callerA (.call (.ref fa) ⟨[.ref a],[]⟩) (λ r s'=>r=.ok (.ret (.bool true))/\OldK s₁.heap s'.heap/\s'.os=s₁.os/\AllBare s'.gens) s₁:=by
 have rv:=Wg hi;have lenV:=hi.length;have core:∀ H:Hp,zh3 H->SqL K H a (ns.map V.int)->HOk P w H s₁.heap->(∀ b,H b≠none->b=a)->(H a≠none->K.lookup a=none) ->
   codeAny (model P w) callerA (.call (.ref fa) ⟨[.ref a],[]⟩) (λ r s'=>r=.ok (.ret (.bool true))/\OldK s₁.heap s'.heap/\s'.os=s₁.os/\AllBare s'.gens) s₁:=by
  intro H hO hS hok hA hK;have base_of:∀ {b:Addr} {o:Obj},s₁.heap.get? b=some o->H b=none->(VI s₁.heap H).get? b=some o:=λ e n=>zff e n;have noA:∀ {b:Addr} {o:Obj} {es:Array DictEntry} {ep:Nat},s₁.heap.get? b=some o->o.data=.dict es ep->H b=none:=λ {b o es ep} e d=>by
   cases q:H b with
   | none=>rfl
   | some u =>
    have e':b=a:=hA b (by rw [q];simp);subst e';rw [ha] at e;cases e;have d':Data.seq vs.toArray _=Data.dict es ep:=d;cases d'
  have nsK:∀ {b:Addr} {m:A4},s₁.heap.Ns b m->(VI s₁.heap H).Ns b m:=λ {b m} ⟨o,es,ep,e,d,r⟩=>⟨o,es,ep,base_of e (noA e d),d,r⟩;have hKb:K.In (VI s₁.heap H):=λ b o e=>base_of (KX b o e) (by
   cases q:H b with
   | none=>rfl
   | some u =>
    have e':b=a:=hA b (by rw [q];simp);subst e';rw [hK (by rw [q];simp)] at e;cases e)
  have hM:Mod K mg (VI s₁.heap H):=⟨hKb,nsK hns,⟨mb,nsK hb,hbb⟩,let ⟨mc,h1,h2⟩:=hlim;⟨mc,nsK h1,h2⟩⟩;have e0:Env0 P w K mg (VI s₁.heap H) callerA [] s₁ H:=⟨rfl,hM,λ b o e=>zgi e,Nat.le_of_eq (zdR _ _),trivial,λ b hb=>absurd (show b∈([]:Ab) from hb) (by simp),hok,.of_eq hg⟩;refine de ((F _ hKb (nsK hns)).run callerA [] s₁ H ⟨[.ref a],[]⟩ [.ref a] [.ref a] _ _ hr e0 (hbind s₁ (.ref a)) (.cons rfl .nil) (hsp H hO hS)) λ r s' h=>?_;cases r with
  | error e=>exact (hCX H e s' h).elim
  | ok fl =>
   cases fl with
   | next=>exact False.elim h
   | brk=>exact False.elim h
   | cont=>exact False.elim h
   | ret u =>
    obtain ⟨v,H',os,bare,un,hok',r',q⟩:=h;have q':v=.bl true:=q;subst q';obtain rfl:u=Value.bool true:=r';refine ⟨rfl,OldK.of_keep λ b o e=>?_,os,bare⟩;cases q:H b with
    | none=>exact un.keep b o e q (by intro z;exact absurd (show b∈([]:Ab) from z) (by simp)) (by simp)
    | some u =>
     rcases hO b with z|⟨ob,xs,z⟩
     ·rw [q] at z;cases z
     ·have z2:=un.frzs b ob _ z;obtain ⟨e1,_⟩:=hok b _ z;obtain ⟨e2,_⟩:=hok' b _ z2;rw [e] at e1;cases e1;exact e2
 cases hk:K.lookup a with
 | some o =>
  have e:=KX a o hk;rw [ha] at e;cases e;refine core (λ _=>none) (λ _=>.inl rfl) (.inr ⟨_,vs.toArray,_,hk,rfl,rfl,rfl,by rw [av,lenV];exact hl,by simpa using rv⟩) (λ b u z=>by have z':(none:Option HO)=some u:=z;cases z') (λ b z=>absurd rfl z) λ z=>absurd rfl z
 | none =>
  refine core (λ b=>if b=a then some (.frz { cls:=.type "list",data:=.seq vs.toArray } (.lst (ns.map V.int))) else none) (λ b=>?_) (.inl (.inr ⟨{ cls:=.type "list",data:=.seq vs.toArray },ap rfl⟩)) (λ b u z=>?_) (λ b z=>?_) λ _=>hk
  ·by_cases hb:b=a
   ·exact .inr ⟨_,_,ap hb⟩
   ·exact .inl (am hb)
  ·by_cases hb:b=a
   ·have z':=(ap hb).symm.trans z;cases z';subst hb;exact ⟨ha,by rw [af];exact hl,vs,_,rv,ha⟩
   ·have z':=(am hb).symm.trans z;cases z'
  ·by_cases hb:b=a
   ·exact hb
   ·exact absurd (am hb) z
def walk_of {l:PySem.W.OpenLaw} {n k:Nat} {q:Af} {loose:A8} {XP:(Str->Option Value)->Heap->Prop} {YP:World->Heap->Prop} {d:DefRec} {K:Params->PySem.W.Frag} {CX:World->CXT} {sp:World->Sp} {x:Str}
  (hn:l.most=some n) (hn2:n<=sizeLine) (hdf:d.params.defaults=[]) (hr:Room k callerA)
  (hY:∀ (w:World) (h:Heap),YP w h->(K w.params).In h)
  (F:∀ (w:World) (mg:A4) (fa:Addr) (h:Heap),(K w.params).In h->h.Ns mainGlobals mg->mg d.name=some (.ref fa) ->
   ∃ fd:FuncData,(∀ (s:An) (u:Am),BindsTo s fd ⟨[u],[]⟩ [(x,u)]) /\
    ∀ base:Heap,(K w.params).In base->base.Ns mainGlobals mg->FnOk l.prog w (K w.params) mg base (CX w) k fa fd [x] (sp w))
  (hsp:∀ (w:World) (H:Hp) (a:Addr) (ns:A6),ns.length<=n->zh3 H->SqL (K w.params) H a (ns.map V.int)->sp w [.ref a] H (λ v _=>v=.bl true) λ _ _ _=>False)
  (hCX:∀ (w:World) (H:Hp) (s:An) (e:Am) (s':An),CX w [] H s (λ _ _ _=>False) e s'->False) :
  PySem.W.WalkO q loose XP YP l.row.toRowW d [] (λ f vs=>PySem.call f vs):=by
 refine Att.attach_call hn hdf λ w s₀ s₁ mg mb fa o pm cd doc a vs ns G Y ho hd hcd hmg hobj hints hlen hg=>?_;have KX:=hY w _ Y;obtain ⟨fd,hb,hF⟩:=F w mg fa _ KX G.T.g hmg;exact ze4 KX G.T.g G.T.b G.T.builtins G.T.nolimit hg hobj hints (ba hlen hn2) hr hF hb (λ H hO hS=>hsp w H a ns hlen hO hS) λ H e s'=>hCX w H s₁ e s'
noncomputable def zM (s:Stmt) (j:Nat):Stmt:=match s with
 | .ClassDef _ _ _ body _ _ _ _ _ _ _=>body.getD j (.Pass ⟨0,0,0,0⟩)
 | _=>.Pass ⟨0,0,0,0⟩
noncomputable def zZ (s:Stmt):Arguments:=match s with
 | .FunctionDef _ a _ _ _ _ _ _ _ _=>a
 | _=>{ posonlyargs:=[],args:=[],vararg:=none,kwonlyargs:=[],kw_defaults:=[],kwarg:=none,defaults:=[] }
noncomputable def zR (s:Stmt):List Stmt:=match s with
 | .FunctionDef _ _ b _ _ _ _ _ _ _=>b
 | _=>[]
noncomputable def ze (s:Stmt):Scope:=match s with
 | .FunctionDef _ _ _ _ _ _ sc _ _ _=>sc
 | _=>{ kind:=.function,names:=[],isGenerator:=false,isCoroutine:=false }
abbrev CX0:CXT:=λ _ _ _ _ _ _=>False
structure Fun (K:A0) (x qual:Str) (st:Stmt) (f:Addr) (fd:FuncData):Prop where
 ex:∃ (oc:Am) (od:Aa) (kV doc pm:Am) (an:Aa) (cdv ct:Am) (osl:Ae),
  fd=fnOf x qual (zZ st) (zR st) (ze st) .none kV doc pm an cdv ct/\K.lookup f=some ⟨oc,od,.func fd,osl⟩/\codeIn K cdv qual=true
 kp:keepIn K (.ref f)=true
section
variable {P:Af} {w:World} {K:A0} {mg:A4} {base:Heap}
def Fun.ok {x qual:Str} {st:Stmt} {f:Addr} {N ps:A8} {k:Nat} {sp:Sp} (F:Fun K x qual st f fd) (S:FnScope N ps (ze st)) (len:∀ vs H Q E,sp vs H Q E->vs.length=ps.length)
  (hbody:∀ (cdv:Am) (A:Ao) (outer:List Env) (s:An) (H:Hp) (vs:Ap) (Q:VK) (E:XK),Room k (A.deeper (envOfC qual (ze st) s.heap.objs.size f cdv))->sp vs H Q E ->
   ∃ t,PSs (Jo CX0 P w K mg base N qual (ze st) f cdv A outer s H E).nox (zR st) t/\t { nx:=λ _ H'=>Q .non H',rt:=Q } (start N vs) H):FnOk P w K mg base CX0 (k + 1) f fd ps sp:=by
 obtain ⟨oc,od,kV,doc,pm,an,cdv,ct,osl,rfl,lk,hcd⟩:=F.ex;refine zfk lk hcd S len λ A outer s H vs Q E hr hsp=>?_;obtain ⟨t,h,q⟩:=hbody cdv A outer s H vs Q E hr hsp;exact ⟨t,h.nox,q⟩
def Fun.binds {x qual:Str} {st:Stmt} {f:Addr} {ps:A8} (F:Fun K x qual st f fd)
  (h:∀ (kV doc pm:Am) (an:Aa) (cdv ct:Am) (us:A7),us.length=ps.length->bindArgs (fnOf x qual (zZ st) (zR st) (ze st) .none kV doc pm an cdv ct) ⟨us,[]⟩=pure (ps.zip us)):Binds K fd ps []:=by
 obtain ⟨oc,od,kV,doc,pm,an,cdv,ct,osl,rfl,lk,hcd⟩:=F.ex;exact .all (h kV doc pm an cdv ct)
def w6 {x qual:Str} {st:Stmt} {f:Addr} {oc:Am} {od an:Aa} {osl:Ae} {kV doc pm cdv ct:Am} (l:K.lookup f=some ⟨oc,od,.func (fnOf x qual (zZ st) (zR st) (ze st) .none kV doc pm an cdv ct),osl⟩)
  (c:codeIn K cdv qual=true) (k:keepIn K (.ref f)=true):Fun K x qual st f (fnOf x qual (zZ st) (zR st) (ze st) .none kV doc pm an cdv ct):=⟨⟨oc,od,kV,doc,pm,an,cdv,ct,osl,rfl,l,c⟩,k⟩
end
def zcO {A:Ao} {k:Nat} (hr:Room k A):A.units + 1 < cLine:=bW (fT (by decide:1<=64) _) hr.units
def zk {n:Nat} (h:n<=1000):n < sizeLine:=bW h (by decide)
section
variable {X:Cx}
end
def zJ {c A B:Prop} [Decidable c] (h1:c->A) (h2:¬ c->B):if c then A else B:=by
 by_cases h:c
 ·rw [ap h];exact h1 h
 ·rw [am h];exact h2 h
def Same (H H':Hp):Prop:=∀ b o,H b=some o->H' b=some o
def Same.refl (H:Hp):Same H H:=λ _ _ h=>h
def Same.trans {H H1 H2:Hp} (a:Same H H1) (b:Same H1 H2):Same H H2:=λ c o h=>b c o (a c o h)
def Same.free {H H':Hp} (e:Same H H') {l:Addr} (h:H' l=Option.none):H l=Option.none:=by
 cases q:H l with
 | none=>rfl
 | some o =>
  rw [e l o q] at h;cases h
def Same.seq {K:A0} {H H':Hp} {a:Addr} {xs:Ap} (e:Same H H') (h:SqL K H a xs):SqL K H' a xs:=by
 rcases h with (h|⟨o,h⟩)|h
 ·exact .inl (.inl (e _ _ h))
 ·exact .inl (.inr ⟨o,e _ _ h⟩)
 ·exact .inr h
end L2
set_option maxHeartbeats 4000000
namespace L2
open PySem PySem.Spec PyProof.Rows
variable {K:A0} {H:Hp} {P:Af} {w:World} {base:Heap} {s:An} {sp:Sp} {mg:A4} {ps:A8} {oe:Obj} {m5:A2} {cls:Am} {x:Str}
abbrev GK:=Value->St->Hp->Prop
structure Exc (g h:Heap) (H:Hp) (pn:A2) (a:Addr) (cls:Am):Prop where
 ex:∃ (oe:Obj) (vs:Ac) (T:Addr) (oT:Obj) (ts:Ac),h.get? a=some oe/\oe.cls=cls/\oe.dict=none/\oe.data=.fields vs/\vs[1]?=some (.ref T)/\T≠a /\
  h.get? T=some oT/\oT.data=.fields ts/\ts[3]?=some .none/\g.get? T=none/\H T=none/\∀ p∈pn,p.1≠T
 ga:g.get? a=none
 Ha:H a=none
 pa:∀ p∈pn,p.1≠a
def ObjOk.there {h:Heap} {a:Addr} {o:HO} (x:ObjOk P w H h a o):∃ ob,h.get? a=some ob:=by
 cases o with
 | lst xs=>obtain ⟨_,_,_,_,e⟩:=x;exact ⟨_,e⟩
 | tup xs=>obtain ⟨_,_,_,ob,e,_⟩:=x;exact ⟨_,e⟩
 | dK mW=>obtain ⟨_,_,_,_,o,_,_,e,_⟩:=x;exact ⟨_,e⟩
 | dT mW=>obtain ⟨_,_,_,_,o,_,_,e,_⟩:=x;exact ⟨_,e⟩
 | set S n=>obtain ⟨o,_,_,_,e,_⟩:=x;exact ⟨_,e⟩
 | ins C dx fs=>obtain ⟨_,_,_,e,_⟩:=x;exact ⟨_,e⟩
 | own y=>obtain ⟨_,e⟩:=x;exact ⟨_,e⟩
 | xd fs=>obtain ⟨_,⟨_,_,_,e,_⟩,_⟩:=x;exact ⟨_,e⟩
 | rng lo hi=>obtain ⟨_,_,_,e⟩:=x;exact ⟨_,e⟩
 | frz ob u=>obtain ⟨e,_⟩:=x;exact ⟨_,e⟩
 | tbl ps=>exact ⟨_,(show h.get? a=some _ from x)⟩
 | met f y=>exact ⟨_,(show h.get? a=some _ from x)⟩
 | ext φ=>obtain ⟨_,⟨_,e⟩,_⟩:=x;exact ⟨_,e⟩
section
variable {M:Model} {A:Ao} {E:A3} {s:An}
def WK {env:Env} {outer:List Env} {L e:Addr} {vs:Ac} {head:Am} {hadNext:Bool} {Q:Ag}
  (hfr:A.frames=some (env :: outer)) (hl:s.heap.FunFrames base (env :: outer)) (hf:env.frame=some L) (he:s.heap.get? e=some oe) (hd:oe.data=.fields vs) (hsz:1 < vs.size)
  (h:∀ h' T,(∀ b o,b ∉ (env :: outer).filterMap (·.frame)->b≠e->s.heap.get? b=some o->h'.get? b=some o)->(∀ b o,b≠e->s.heap.get? b=some o->∃ sl,h'.get? b=some { o with slots:=sl }) ->
   s.heap.get? T=none->T≠e->h'.get? e=some (oe.mapFields (·.setIfInBounds 1 (.ref T)))->(∃ oT ts,h'.get? T=some oT/\oT.data=.fields ts/\ts[3]?=some .none)->Q () { s with heap:=h' }) :
  wpAny M A (do let a <- frameOf env;let pl <- entryPlaceOf L hadNext;let b <- EntryCells.newEntry head a .none (rawInt L) .none pl;setField (.ref e) 1 b) (λ _ s'=>wpAny M A (setFlight (.ref e) none) Q E s') E s:=by
 have hene:e ∉ (env :: outer).filterMap (·.frame):=λ hm=>by
  obtain ⟨_,o,ho,hnf⟩:=hl.mem hm;rw [he] at ho;injection ho with ho;subst ho;exact hnf vs hd
 refine ad (wpAny_frameOf_fun hfr hl hf λ h₁ hs₁=>?_);refine ad (wpAny_entryPlaceOf λ pl hpl=>?_);unfold EntryCells.newEntry newFields;refine ad (du ?_ (hpl.sizeOk5 _ _ _ _ _));have he₁:h₁.get? e=some oe:=(hs₁.2.1 e hene).trans he;have he₂:=ai (h:=h₁) { cls:=.type "traceback",dict:=none,data:=.fields ([head,.ref L,.none,rawInt L,.none] ++ (if pl.isEmpty then List.replicate 6 Value.none else pl)).toArray } he₁;refine dh he₂ hd hsz ?_;have hTe:h₁.objs.size≠e:=cx (az he₁);have hd₃:=bh hd (·.setIfInBounds 1 (Value.ref h₁.objs.size));have he₃:=br (Obj.mapFields (·.setIfInBounds 1 (Value.ref h₁.objs.size))) he₂ (b9 hd₃);have hT₃:=(a9 (h₁.push { cls:=.type "traceback",dict:=none,data:=.fields ([head,.ref L,.none,rawInt L,.none] ++ (if pl.isEmpty then List.replicate 6 Value.none else pl)).toArray })
  (Obj.mapFields (·.setIfInBounds 1 (Value.ref h₁.objs.size))) (aW hTe)).trans (aD h₁ rfl)
 unfold setFlight;refine ad (bg he₃ hd₃ (x:=.ref h₁.objs.size) (by simp [hsz]) ?_);rw [ap (show (Value.ref h₁.objs.size != Value.none)=true from by simp)];refine dh hT₃ rfl (by simp only [av,aM,bz,cR] <;> omega) ?_;have keep:∀ b o,b≠e->h₁.get? b=some o ->
   (((h₁.push { cls:=.type "traceback",dict:=none,data:=.fields ([head,.ref L,.none,rawInt L,.none] ++ (if pl.isEmpty then List.replicate 6 Value.none else pl)).toArray }).update e (Obj.mapFields (·.setIfInBounds 1 (Value.ref h₁.objs.size)))).update h₁.objs.size
    (Obj.mapFields (·.setIfInBounds 3 ((none:Aa).elim Value.none λ f=>rawInt f)))).get? b=some o:=λ b o hbe hb=>by
  have hbT:h₁.objs.size≠b:=cx (az hb);rw [a9 _ _ hbT,a9 _ _ (aW hbe)];exact ai _ hb
 refine h _ h₁.objs.size (λ b o hb hbe q=>keep b o hbe ((hs₁.2.1 b hb).trans q)) (λ b o hbe q=>?_) (Heap.get?_none_of_le (by rw [hs₁.1];exact aq _)) hTe ?_ ?_
 ·obtain ⟨sl,hs⟩:=hs₁.2.2 b o q;exact ⟨sl,keep b _ hbe hs⟩
 ·rw [a9 _ _ hTe];exact he₃
 ·exact ⟨_,_,br _ hT₃ (b9 (bh rfl _)),bh rfl _,by first|(simp;done)|(rcases hpl with rfl|⟨_,_,_,_,_,_,_,rfl⟩ <;> simp)⟩
def Wz {env:Env} {outer:List Env} {L e:Addr} {vs:Ac} {ch:Ab} {Q:Ag}
  (hfr:A.frames=some (env :: outer)) (hl:s.heap.FunFrames base (env :: outer)) (hf:env.frame=some L) (he:s.heap.get? e=some oe) (hd:oe.data=.fields vs)
  (h1:(vs[1]?=some .none/\ch=[e])\/∃ T oT ts,vs[1]?=some (.ref T)/\T≠e/\s.heap.get? T=some oT/\oT.data=.fields ts/\ts[3]?=some .none/\ch=[e,T])
  (h:∀ h' T,(∀ b o,b ∉ (env :: outer).filterMap (·.frame)->b ∉ ch->s.heap.get? b=some o->h'.get? b=some o)->(∀ b o,b ∉ ch->s.heap.get? b=some o->∃ sl,h'.get? b=some { o with slots:=sl }) ->
   (∀ b∈ch,∃ o,h'.get? b=some o)->s.heap.get? T=none->T≠e->h'.get? e=some (oe.mapFields (·.setIfInBounds 1 (.ref T)))->(∃ oT ts,h'.get? T=some oT/\oT.data=.fields ts/\ts[3]?=some .none)->Q () { s with heap:=h' }) :
  wpAny M A (noteFrame (.ref e) env) (λ _ s'=>wpAny M A (setFlight (.ref e) none) Q E s') E s:=by
 rcases h1 with ⟨h1,rfl⟩|⟨T,oT,ts,h1,hTe,hT,hdT,h3,rfl⟩
 ·unfold noteFrame;simp only [hf];refine ad (bg he hd h1 ?_);rw [am (by decide)];refine WK hfr hl hf he hd (bJ.mp h1).1 λ h' T k1 k2 k3 k4 k5 k6=>?_;refine h h' T (λ b o hb hc q=>k1 b o hb (λ z=>hc (by simp [z])) q) (λ b o hc q=>k2 b o (λ z=>hc (by simp [z])) q) (λ b hb=>?_) k3 k4 k5 k6;obtain rfl:b=e:=by simpa using hb
  exact ⟨_,k5⟩
 ·unfold noteFrame;simp only [hf];refine ad (bg he hd h1 ?_);rw [ap (show (Value.ref T != Value.none)=true from by simp)];refine ad (bg hT hdT h3 ?_);rw [am (show ¬ ((Value.none == rawInt L)=true) from by simp [rawInt])];refine ad (dh hT hdT (bJ.mp h3).1 ?_);have other:∀ b,b≠T->(s.heap.update T (Obj.mapFields (·.setIfInBounds 3 Value.none))).get? b=s.heap.get? b:=λ b hb=>a9 _ _ (aW hb);have noRecord:∀ b o,s.heap.get? b=some o->(∀ vs,o.data≠.fields vs)->b≠T:=λ b o hb hnf q=>by
   rw [q,hT] at hb;injection hb with hb;subst hb;exact hnf ts hdT
  have hT':=br (Obj.mapFields (·.setIfInBounds 3 Value.none)) hT (b9 (bh hdT _));refine WK hfr (hl.of_keeps λ b o hb hnf=>⟨o,(other b (noRecord b o hb hnf)).trans hb,rfl⟩) hf ((other e (aW hTe)).trans he) hd (bJ.mp h1).1 λ h' T' k1 k2 k3 k4 k5 k6=>?_;have hTT:T'≠T:=λ z=>by rw [z,hT'] at k3;cases k3
  refine h h' T' (λ b o hb hc q=>k1 b o hb (λ z=>hc (by simp [z])) ((other b (λ z=>hc (by simp [z]))).trans q)) (λ b o hc q=>k2 b o (λ z=>hc (by simp [z])) ((other b (λ z=>hc (by simp [z]))).trans q)) (λ b hb=>?_) ((other T' hTT).symm.trans k3) k4 k5 k6;rcases aw.mp hb with rfl|hb
  ·exact ⟨_,k5⟩
  ·obtain rfl:b=T:=by simpa using hb
   obtain ⟨sl,q⟩:=k2 b _ hTe hT';exact ⟨_,q⟩
end
section
variable {X:Cx} {m5:A2} {σ:List Aq} {H:Hp} {s:An} {h':Heap}
def Inv.stepx {ch:Ab} (I:Inv X m5 σ H s)
  (hch:∀ b∈ch,X.s₀.heap.get? b=none/\H b=none/\∀ p∈X.pn ++ m5,p.1≠b) (hrec:∀ b∈ch,∃ o vs,s.heap.get? b=some o/\o.data=.fields vs)
  (keep:∀ b o,b ∉ frs X.stack->b ∉ ch->s.heap.get? b=some o->h'.get? b=some o)
  (slot:∀ b o,b ∉ ch->s.heap.get? b=some o->∃ sl,h'.get? b=some { o with slots:=sl }) (there:∀ b∈ch,∃ o,h'.get? b=some o):Inv X m5 σ H { s with heap:=h' }:=by
 have neL:∀ b∈ch,b≠X.env.locals:=λ b hb z=>by
  obtain ⟨o,vs,ho,hd⟩:=hrec b hb;obtain ⟨m,⟨o',es,ep,ho',hd',_⟩,_⟩:=I.loc;rw [z,ho'] at ho;cases ho;rw [hd'] at hd;cases hd
 have neC:∀ b∈ch,∀ x c,X.env.cells.lookup x=some c->c≠b:=λ b hb x c e z=>by
  obtain ⟨o,vs,ho,hd⟩:=hrec b hb;obtain ⟨v,o',ho',hd'⟩:=I.cell x c e;rw [z,ho] at ho';cases ho';rw [hd] at hd';cases hd'
 have nch:∀ b o,X.s₀.heap.get? b=some o->b ∉ ch:=λ b o e hb=>by rw [(hch b hb).1] at e;cases e
 have trk:∀ b u,H b=some u->b ∉ ch/\b ∉ frs X.stack:=λ b u e=>⟨(λ hb=>by rw [(hch b hb).2.1] at e;cases e),(λ hb=>by rw [I.stkFree b hb] at e;cases e)⟩;have nfs:∀ b,b ∉ X.fs->b≠X.env.locals->b ∉ frs X.stack:=λ b h1 h2 z=>(aw.mp (I.stkSub b z)).elim h2 h1;have ltL:∀ b o,X.s₀.heap.get? b=some o->b≠X.env.locals:=λ b o e=>aK (aI (az e) I.ok.above);have cellK:∀ x c,X.env.cells.lookup x=some c->∀ v,s.heap.IsCell c v->h'.IsCell c v:=λ x c e v ⟨o,ho,hd⟩=>by
  obtain ⟨sl,q⟩:=slot c o (λ z=>neC c z x c e rfl) ho;exact ⟨_,q,hd⟩
 have hok:HOk X.prog X.w H h':=λ b u e=>(I.hok b u e).stay (λ c v hc q=>by
  have hcH:∃ u',H c=some u':=by
   rcases hc with rfl|z
   ·exact ⟨_,e⟩
   ·exact ⟨_,z⟩
  obtain ⟨u',hu⟩:=hcH;exact keep c v (trk c u' hu).2 (trk c u' hu).1 q) (λ _ q=>q) λ _ _ q=>q
 refine ⟨I.ok,I.os,I.bare,⟨λ b o e n hb hx=>?_,λ b o e n hb hx=>?_,I.base.free,λ b o e hx=>?_,I.base.tups,I.base.frzs,I.base.tbls⟩,?_,λ x c e=>?_,I.free,I.freeC,λ p hp=>?_,hok,I.len⟩
 ·exact keep b o (nfs b hb (ltL b o e)) (nch b o e) (I.base.keep b o e n hb hx)
 ·obtain ⟨sl,e1⟩:=I.base.slot b o e n hb hx;obtain ⟨sl',e2⟩:=slot b _ (nch b o e) e1;exact ⟨sl',e2⟩
 ·obtain ⟨o',e1⟩:=I.base.there b o e hx;obtain ⟨sl',e2⟩:=slot b _ (nch b o e) e1;exact ⟨_,e2⟩
 ·obtain ⟨m,⟨o,es,ep,ho,r⟩,hl⟩:=I.loc;obtain ⟨sl,q⟩:=slot _ o (λ z=>neL _ z rfl) ho;refine ⟨m,⟨_,es,ep,q,r⟩,λ i x v e1 e2 e3=>?_⟩;obtain ⟨u,r',l⟩:=hl i x v e1 e2 e3;refine ⟨u,r',?_⟩;rcases l with l|⟨k,c,e,z⟩
  ·exact .inl l
  ·exact .inr ⟨k,c,e,cellK x c e _ z⟩
 ·obtain ⟨v,z⟩:=I.cell x c e;exact ⟨v,cellK x c e v z⟩
 ·obtain ⟨e,n,ne,nf,d⟩:=I.pin p hp;exact ⟨keep p.1 p.2 (nfs _ nf ne) (λ z=>(hch p.1 z).2.2 p hp rfl) e,n,ne,nf,d⟩
theorem WA {a:Addr} {vs:Ac} {E:A3} {Q:Ag} (I:Inv X m5 σ H s) (hst:X.stack=X.env :: X.outer) (hfr:X.env.frame=some X.env.locals) (hex:X.ex=[])
  (he:s.heap.get? a=some oe) (hdict:oe.dict=none) (hd:oe.data=.fields vs) (ga:X.s₀.heap.get? a=none) (Ha:H a=none) (hpa:∀ p∈X.pn ++ m5,p.1≠a)
  (h1:vs[1]?=some .none\/∃ T oT ts,vs[1]?=some (.ref T)/\T≠a/\s.heap.get? T=some oT/\oT.data=.fields ts/\ts[3]?=some .none/\X.s₀.heap.get? T=none/\H T=none/\∀ p∈X.pn ++ m5,p.1≠T)
  (hQ:∀ s',Inv X m5 σ H s'->Exc X.s₀.heap s'.heap H (X.pn ++ m5) a oe.cls->Q () s') :
  wpAny (model X.prog X.w) X.A (noteFrame (.ref a) X.env) (λ _ s'=>wpAny (model X.prog X.w) X.A (setFlight (.ref a) none) Q E s') E s:=by
 have hfs:=I.ok.frames;have hFF:=I.stack;rw [hst] at hfs hFF;have hS:frs X.stack=(X.env :: X.outer).filterMap (·.frame):=by rw [hst];rfl
 have fin:∀ (ch:Ab),(∀ b∈ch,X.s₀.heap.get? b=none/\H b=none/\∀ p∈X.pn ++ m5,p.1≠b)->(∀ b∈ch,∃ o vs,s.heap.get? b=some o/\o.data=.fields vs)->a∈ch ->
   ∀ h' T,(∀ b o,b ∉ (X.env :: X.outer).filterMap (·.frame)->b ∉ ch->s.heap.get? b=some o->h'.get? b=some o)->(∀ b o,b ∉ ch->s.heap.get? b=some o->∃ sl,h'.get? b=some { o with slots:=sl }) ->
   (∀ b∈ch,∃ o,h'.get? b=some o)->s.heap.get? T=none->T≠a->h'.get? a=some (oe.mapFields (·.setIfInBounds 1 (.ref T)))->(∃ oT ts,h'.get? T=some oT/\oT.data=.fields ts/\ts[3]?=some .none)->Q () { s with heap:=h' }:=by
  intro ch hch hrec ha h' T k1 k2 k3 k4 k5 k6 k7;have I':=I.stepx (h':=h') hch hrec (λ b o hb hc q=>k1 b o (by rw [<- hS];exact hb) hc q) k2 k3;refine hQ _ I' ⟨?_,ga,Ha,hpa⟩;obtain ⟨oT,ts,q1,q2,q3⟩:=k7;have hsz:1 < vs.size:=by
   rcases h1 with z|⟨_,_,_,z,_⟩ <;> exact (bJ.mp z).1
  refine ⟨_,_,T,oT,ts,k6,Obj.cls_mapFields _ _,by obtain ⟨c,d,dt,sl⟩:=oe;cases dt <;> exact hdict,bh hd _,by simp [hsz],k5,q1,q2,q3,?_,?_,λ p hp z=>?_⟩
  ·cases e:X.s₀.heap.get? T with
   | none=>rfl
   | some o =>
    obtain ⟨o',e'⟩:=I.base.there T o e (by rw [hex];simp);rw [k4] at e';cases e'
  ·cases e:H T with
   | none=>rfl
   | some u =>
    obtain ⟨o',e'⟩:=(I.hok T u e).there;rw [k4] at e';cases e'
  ·have:=(I.pin p hp).1;rw [z,k4] at this;cases this
 rcases h1 with h1|⟨T,oT,ts,h1,hTa,hT,hdT,h3,gT,HT,pT⟩
 ·refine Wz (ch:=[a]) hfs hFF hfr he hd (.inl ⟨h1,rfl⟩) (fin [a] (λ b hb=>?_) (λ b hb=>?_) (by simp))
  ·obtain rfl:b=a:=by simpa using hb
   exact ⟨ga,Ha,hpa⟩
  ·obtain rfl:b=a:=by simpa using hb
   exact ⟨oe,vs,he,hd⟩
 ·refine Wz (ch:=[a,T]) hfs hFF hfr he hd (.inr ⟨T,oT,ts,h1,hTa,hT,hdT,h3,rfl⟩) (fin [a,T] (λ b hb=>?_) (λ b hb=>?_) (by simp))
  ·rcases aw.mp hb with rfl|hb
   ·exact ⟨ga,Ha,hpa⟩
   ·obtain rfl:b=T:=by simpa using hb
    exact ⟨gT,HT,pT⟩
  ·rcases aw.mp hb with rfl|hb
   ·exact ⟨oe,vs,he,hd⟩
   ·obtain rfl:b=T:=by simpa using hb
    exact ⟨oT,ts,hT,hdT⟩
end
def JG (X:Cx) (G:GK) (e:Am) (s:An):Prop:=∃ a cls σ H,e=Value.ref a/\Inv X [] σ H s/\Exc X.s₀.heap s.heap H X.pn a cls/\G cls σ H
def xeG (X:Cx) (G:GK) (e:Am) (s:An):Prop:=wpAny (model X.prog X.w) X.A (noteFrame e X.env) (λ _ s'=>wpAny (model X.prog X.w) X.A (setFlight e none) (λ _ s''=>JG X G e s'') (λ _ _=>False) s') (λ _ _=>False) s
noncomputable abbrev Cx.exg (X:Cx) (G:GK):Cx:=X.wish (xeG X G)
structure Bod (X:Cx):Prop where
 st:X.stack=X.env :: X.outer
 fr:X.env.frame=some X.env.locals
 ex:X.ex=[]
def qC {X:Cx} {G:GK}:PassesOwn (model X.prog X.w) X.A X.env (xeG X G):=PassesOwn.looking
def Inv.nopins {X:Cx} {σ:St} (I:Inv X m5 σ H s):Inv X [] σ H s:=I.pins_of λ p hp=>absurd hp (by simp)
def Exc.less {g h:Heap} {pn pn':A2} {a:Addr} (x:Exc g h H pn a cls) (hp:∀ p∈pn',p∈pn):Exc g h H pn' a cls:=by
 obtain ⟨⟨oe,vs,T,oT,ts,h1,h2,h3,h4,h5,h6,h7,h8,h9,h10,h11,h12⟩,ga,Ha,pa⟩:=x;exact ⟨⟨oe,vs,T,oT,ts,h1,h2,h3,h4,h5,h6,h7,h8,h9,h10,h11,λ p q=>h12 p (hp p q)⟩,ga,Ha,λ p q=>pa p (hp p q)⟩
def CXr (P:Af) (w:World):CXT:=λ outer H s E e s'=>∃ a cls H',e=Value.ref a/\s'.os=s.os/\AllBare s'.gens/\Un (frs outer) [] H H' s.heap s'.heap/\HOk P w H' s'.heap /\
 Exc s.heap s'.heap H' [] a cls/\E cls none H'
section
variable {X:Cx} {m5:A2} {σ:St} {H:Hp} {s:An} {G:GK}
def QY {e:Am} {s':An} (B:Bod X) (I:Inv X m5 σ H s) (h:CXr X.prog X.w X.stack H s (λ cls _ H'=>G cls σ H') e s'):xeG X G e s':=by
 obtain ⟨a,cls,H',rfl,os,bare,un,hok,⟨⟨oe,vs,T,oT,ts,h1,h2,h3,h4,h5,h6,h7,h8,h9,h10,h11,_⟩,ga,Ha,_⟩,hG⟩:=h;have I':Inv X m5 σ H' s':=I.call' os un hok bare (λ b z=>absurd z (by simp));have old:∀ b,s.heap.get? b=none->X.s₀.heap.get? b=none:=λ b hb=>by
  cases e:X.s₀.heap.get? b with
  | none=>rfl
  | some o =>
   obtain ⟨o',e'⟩:=I.base.there b o e (by rw [B.ex];simp);rw [hb] at e';cases e'
 have pin:∀ b,s.heap.get? b=none->∀ p∈X.pn ++ m5,p.1≠b:=λ b hb p hp z=>by
  have:=(I.pin p hp).1;rw [z,hb] at this;cases this
 refine WA I' B.st B.fr B.ex h1 h3 h4 (old a ga) Ha (pin a ga) (.inr ⟨T,oT,ts,h5,h6,h7,h8,h9,old T h10,h11,pin T h10⟩) λ s'' I2 x=>?_;exact ⟨a,oe.cls,σ,H',rfl,I2.nopins,x.less λ p hp=>bF _ hp,h2 ▸ hG⟩
def zbo {a:Addr} {args:A7} {h':Heap} (B:Bod X) (I:Inv X m5 σ H s) (hm:Heap.MadeExcOf s.heap h' a cls args) (hG:G cls σ H):xeG X G (.ref a) { s with heap:=h' }:=by
 obtain ⟨t,h1,h2,h3⟩:=hm.there;have I':Inv X m5 σ H { s with heap:=h' }:=I.kept (t':=s.toks) hm.keeps;have ga:X.s₀.heap.get? a=none:=by
  cases e:X.s₀.heap.get? a with
  | none=>rfl
  | some o =>
   obtain ⟨o',e'⟩:=I.base.there a o e (by rw [B.ex];simp);rw [hm.new] at e';cases e'
 have Ha:H a=none:=by
  cases e:H a with
  | none=>rfl
  | some u =>
   obtain ⟨o',e'⟩:=(I.hok a u e).there;rw [hm.new] at e';cases e'
 refine WA (s:={ s with heap:=h' }) I' B.st B.fr B.ex h1 rfl rfl ga Ha (λ p hp z=>?_) (.inl rfl) λ s'' I2 x=>?_
 ·have:=(I.pin p hp).1;rw [z,hm.new] at this;cases this
 ·exact ⟨a,cls,σ,H,rfl,I2.nopins,x.less λ p hp=>bF _ hp,hG⟩
end
section
variable {P:Af} {w:World} {K:A0} {mg:A4} {base:Heap}
noncomputable abbrev cxR (P:Af) (w:World) (K:A0) (mg:A4) (base:Heap) (N:A8) (qual:Str) (scope:Scope) (f:Addr) (cd:Am) (A:Ao) (outer:List Env) (s:An) (H:Hp) (E:XK):Cx :=
 Jo (CXr P w) P w K mg base N qual scope f cd A outer s H E
def Fun.okx {x qual:Str} {st:Stmt} {f:Addr} {fd:FuncData} {N ps:A8} {k:Nat} (F:Fun K x qual st f fd) (S:FnScope N ps (ze st)) (len:∀ vs H Q E,sp vs H Q E->vs.length=ps.length)
  (hbody:∀ (cdv:Am) (A:Ao) (outer:List Env) (s:An) (H:Hp) (vs:Ap) (Q:VK) (E:XK),Room k (A.deeper (envOfC qual (ze st) s.heap.objs.size f cdv))->sp vs H Q E ->
   ∃ t,PSs ((cxR P w K mg base N qual (ze st) f cdv A outer s H E).exg λ cls _ H'=>E cls none H') (zR st) t/\t { nx:=λ _ H'=>Q .non H',rt:=Q } (start N vs) H):FnOk P w K mg base (CXr P w) (k + 1) f fd ps sp:=by
 obtain ⟨oc,od,kV,doc,pm,an,cdv,ct,osl,rfl,lk,hcd⟩:=F.ex;refine zfk lk hcd S len λ A outer s H vs Q E hr hsp=>?_;obtain ⟨t,h,q⟩:=hbody cdv A outer s H vs Q E hr hsp;refine ⟨t,λ m5 s σ H' D I hw=>?_,q⟩;refine aU (h m5 s σ H' D (I.wish _) hw) (λ _ _ z=>z.unwish) λ e s' z=>?_;refine ad (aU (show wpAny _ _ _ _ _ _ from z) (λ _ s1 y1=>aU y1 (λ _ s'' y=>?_) λ _ _ y=>y.elim) λ _ _ y=>y.elim);obtain ⟨a,cls,σ2,H2,rfl,J,xx,g⟩:=y;exact ⟨a,cls,H2,rfl,J.os,J.bare,J.base,J.hok,xx.less (λ p hp=>absurd hp (by simp)),g⟩
end
structure Cal (P:Af) (w:World) (K:A0) (mg:A4) (base:Heap) (x:Str) (k:Nat) (ps:A8) (dvs:Ap) (sp:Sp):Prop where
 ex:∃ f fd ds,FnOk P w K mg base (CXr P w) k f fd ps sp/\mg x=some (.ref f)/\keepIn K (.ref f)=true/\Binds K fd ps ds/\Vals dvs ds
structure MCal (P:Af) (w:World) (K:A0) (mg:A4) (base:Heap) (C:Addr) (m:Str) (k:Nat) (ps:A8) (dvs:Ap) (sp:Sp):Prop where
 cl:Cls K C
 ex:∃ f fd ds,FnOk P w K mg base (CXr P w) k f fd ps sp/\Meth K C m f/\Binds K fd ps ds/\Vals dvs ds
structure KCal (P:Af) (w:World) (K:A0) (mg:A4) (base:Heap) (x:Str) (C:Addr) (k:Nat) (ps:A8) (dvs:Ap) (sp:Sp):Prop where
 gl:mg x=some (.ref C)
 ex:∃ f fd ds,FnOk P w K mg base (CXr P w) k f fd ps sp/\Mk K C f/\Binds K fd ps ds/\Vals dvs ds
def Cal.mono {j k:Nat} {dvs:Ap} (c:Cal P w K mg base x j ps dvs sp) (h:j<=k:=by decide):Cal P w K mg base x k ps dvs sp:=by
 obtain ⟨f,fd,ds,a,b⟩:=c.ex;exact ⟨f,fd,ds,a.mono h,b⟩
def MCal.mono {C:Addr} {m:Str} {j k:Nat} {dvs:Ap} (c:MCal P w K mg base C m j ps dvs sp) (h:j<=k:=by decide):MCal P w K mg base C m k ps dvs sp:=by
 obtain ⟨f,fd,ds,a,b⟩:=c.ex;exact ⟨c.cl,f,fd,ds,a.mono h,b⟩
def KCal.mono {C:Addr} {j k:Nat} {dvs:Ap} (c:KCal P w K mg base x C j ps dvs sp) (h:j<=k:=by decide):KCal P w K mg base x C k ps dvs sp:=by
 obtain ⟨f,fd,ds,a,b⟩:=c.ex;exact ⟨c.gl,f,fd,ds,a.mono h,b⟩
section
variable {X:Cx} {G:GK} {k:Nat} {f C:Addr} {fd:FuncData} {ps:A8} {sp:Sp} {dvs:Ap} {ds:A7} {x m:Str} {p pos apos:Pos} {e o:Expr} {es:List Expr} {ta:TE} {t:TA}
theorem Ju {σ:St} {Q:VK} {us:A7} {vs:Ap} (B:Bod X) (F:FnOk X.prog X.w X.K X.mg X.base (CXr X.prog X.w) k f fd ps sp) (hr:Room k X.A) (hb:Binds X.K fd ps ds) (hd:Vals dvs ds)
  (I:Inv (X.exg G) m5 σ H s) (r:Vals vs us) (h:sp (vs ++ dvs) H Q (λ cls _ H'=>G cls σ H')):wpAny (model X.prog X.w) X.A (call (.ref f) us) (EP (X.exg G) m5 σ Q) (xeG X G) s:=by
 have r2:Vals (vs ++ dvs) (us ++ ds):=r.append hd;have hl:(us ++ ds).length=ps.length:=by rw [<- r2.length];exact F.len _ _ _ _ h
 refine fI (de (F.run X.A X.stack s H ⟨us,[]⟩ (us ++ ds) (vs ++ dvs) Q _ hr I.unwish.env0 (hb s us I.kIn hl) r2 h) λ r s' hq=>?_);cases r with
 | error e=>exact QY B I.unwish hq
 | ok fl =>
  cases fl with
  | ret u=>exact I.after hq
  | next=>exact False.elim hq
  | brk=>exact False.elim hq
  | cont=>exact False.elim hq
theorem zdu {σ:St} {Q:VK} {us:A7} {vs:Ap} (B:Bod X) (M:Mk X.K C f) (F:FnOk X.prog X.w X.K X.mg X.base (CXr X.prog X.w) k f fd ps sp) (hr:Room (k + 1) X.A) (hb:Binds X.K fd ps ds) (hd:Vals dvs ds)
  (I:Inv (X.exg G) m5 σ H s) (r:Vals vs us)
  (h:∀ x dx,H x=none->H dx=none->dx≠x->sp (.ref x :: (vs ++ dvs)) (upd (upd H dx (.own x)) x (.ins C dx [])) (λ v H2=>v=.non/\Q (.ref x) H2) (λ cls _ H'=>G cls σ H')) :
  wpAny (model X.prog X.w) X.A (call (.ref C) us) (EP (X.exg G) m5 σ Q) (xeG X G) s:=by
 have hq:=h (s.heap.objs.size + 1) s.heap.objs.size (I.hok.fresh (b8 _)) (I.hok.fresh (aq _)) (aK (eD _));have I2:=Inv.made (C:=C) I;have r2:Vals (V.ref (s.heap.objs.size + 1) :: (vs ++ dvs)) (Value.ref (s.heap.objs.size + 1) :: (us ++ ds)):=.cons rfl (r.append hd);have hl:(Value.ref (s.heap.objs.size + 1) :: us ++ ds).length=ps.length:=by
  have e:=r2.length;rw [F.len _ _ _ _ hq] at e;exact e.symm
 refine fI (zaQ (f:=f) I.kIn M.makes M.init (bx.mp M.fn) (de (F.run _ X.stack _ _ ⟨Value.ref (s.heap.objs.size + 1) :: us,[]⟩ (Value.ref (s.heap.objs.size + 1) :: (us ++ ds)) _ _ _ (hr.make C us [])
  (I2.unwish.env0.make C us []) (hb _ (Value.ref (s.heap.objs.size + 1) :: us) I2.kIn hl) r2 hq) λ r s' hq'=>?_))
 cases r with
 | error e=>exact QY B I2.unwish hq'
 | ok fl =>
  cases fl with
  | ret u =>
   obtain ⟨v,H',I3,rv,ev,q3⟩:=I2.after hq';subst ev;exact ⟨rv,⟨V.ref (s.heap.objs.size + 1),H',I3,rfl,q3⟩⟩
  | next=>exact False.elim hq'
  | brk=>exact False.elim hq'
  | cont=>exact False.elim hq'
def tCl (X:Cx) (k:Nat) (x:Str) (G:GK) (t:TA):TE:=λ σ H Q=>∃ ps dvs sp,Cal X.prog X.w X.K X.mg X.base x k ps dvs sp/\t σ H λ vs H1=>sp (vs ++ dvs) H1 Q (λ cls _ H'=>G cls σ H')
def zx (B:Bod X) (hr:Room k X.A) (ha:PA (X.exg G) (e :: es) t) (hg:Gl X x:=by rfl) (hdb:(x == ("__debug__":Str))=false:=by decide)
  (he:starEach (e :: es) X.env=(false,eval e X.env) :: starEach es X.env:=by rfl) (hpl:(backTo pos (starEach es X.env)).any (·.1)=false:=by rfl) :
  PE (X.exg G) (.Call (.Name x p) (e :: es) [] pos) (tCl X k x G t):=by
 intro m5 s σ H Q I h;obtain ⟨ps,dvs,sp,⟨f,fd,ds,F,hm,hk,hb,hd⟩,h⟩:=h;refine bu (x8 I hg hm ?_ hdb);refine dq (h₀:=X.base) I.ok.mod.kin hk (vt (ha pos m5 s σ H _ I h) λ us s1 vs H1 I1 r q=>⟨I1.kIn,?_⟩) he hpl;exact Ju B F hr hb hd I1 r q
def tMk (X:Cx) (k:Nat) (x:Str) (G:GK) (t:TA):TE:=λ σ H Q=>∃ C ps dvs sp,KCal X.prog X.w X.K X.mg X.base x C k ps dvs sp/\t σ H λ vs H1=>∀ y dx,H1 y=none->H1 dx=none->dx≠y ->
 sp (.ref y :: (vs ++ dvs)) (upd (upd H1 dx (.own y)) y (.ins C dx [])) (λ v H2=>v=.non/\Q (.ref y) H2) (λ cls _ H'=>G cls σ H')
def qw (B:Bod X) (hr:Room (k + 1) X.A) (ha:PA (X.exg G) (e :: es) t) (hg:Gl X x:=by rfl) (hdb:(x == ("__debug__":Str))=false:=by decide)
  (he:starEach (e :: es) X.env=(false,eval e X.env) :: starEach es X.env:=by rfl) (hpl:(backTo pos (starEach es X.env)).any (·.1)=false:=by rfl) :
  PE (X.exg G) (.Call (.Name x p) (e :: es) [] pos) (tMk X k x G t):=by
 intro m5 s σ H Q I h;obtain ⟨C,ps,dvs,sp,⟨hm,f,fd,ds,F,M,hb,hd⟩,h⟩:=h;refine bu (x8 I hg hm ?_ hdb);refine dq (h₀:=X.base) I.ok.mod.kin M.kp (vt (ha pos m5 s σ H _ I h) λ us s1 vs H1 I1 r q=>⟨I1.kIn,?_⟩) he hpl;exact zdu B M F hr hb hd I1 r q
def tMth (X:Cx) (k:Nat) (m:Str) (G:GK) (ta:TE) (t:TA):TE:=λ σ H Q=>ta σ H λ y H1=>∃ a C dx fs ps dvs sp,y=.ref a/\H1 a=some (.ins C dx fs)/\fs.lookup m=none /\
 MCal X.prog X.w X.K X.mg X.base C m k ps dvs sp/\t σ H1 λ vs H2=>sp (.ref a :: (vs ++ dvs)) H2 Q (λ cls _ H'=>G cls σ H')
def QK {pl:Sem Bool} (B:Bod X) (hr:Room k X.A) (he:PE (X.exg G) o ta) (ha:PA (X.exg G) (e :: es) t)
  (hst:starEach (e :: es) X.env=(false,eval e X.env) :: starEach es X.env:=by rfl) (hpl:(backTo pos (starEach es X.env)).any (·.1)=false:=by rfl)
  (ht:eval (.Call (.Attribute o m apos) (e :: es) [] pos) X.env=(do
   let ov <- eval o X.env
   standAt apos.atName
   let (f,first) <- holding [ov] (getMethod ov m pl)
   callWith pos f first (backTo pos (starEach (e :: es) X.env)) (backToKw pos (keywordEach [] X.env))):=by rfl) :
  PE (X.exg G) (.Call (.Attribute o m apos) (e :: es) [] pos) (tMth X k m G ta t):=by
 intro m5 s σ H Q I h;refine dJ (pl:=pl) (thn (he m5 s σ H _ I h) λ u s1 hz=>?_) ht;obtain ⟨x,H1,I1,rx,a,C,dx,fs,ps,dvs,sp,ex,ea,l,⟨c,f,fd,ds,F,hm,hb,hd⟩,q⟩:=hz;subst ex;obtain rfl:u=Value.ref a:=rx;refine wZ I1 ea c hm l ?_;refine dq (first:=[.ref a]) (h₀:=X.base) I.ok.mod.kin hm.kp (vt (ha pos m5 s1 σ H1 _ I1 q) λ us s2 vs H2 I2 r q2=>⟨I2.kIn,?_⟩) hst hpl;exact Ju (us:=.ref a :: us) (vs:=.ref a :: vs) B F hr hb hd I2 (.cons rfl r) q2
def Jx {pl:Sem Bool} (B:Bod X) (hr:Room k X.A) (he:PE (X.exg G) o ta)
  (ht:eval (.Call (.Attribute o m apos) [] [] pos) X.env=(do
   let ov <- eval o X.env
   standAt apos.atName
   let (f,first) <- holding [ov] (getMethod ov m pl)
   callWith pos f first (backTo pos (starEach [] X.env)) (backToKw pos (keywordEach [] X.env))):=by rfl) :
  PE (X.exg G) (.Call (.Attribute o m apos) [] [] pos) (tMth X k m G ta tNil):=by
 intro m5 s σ H Q I h;refine dJ (pl:=pl) (thn (he m5 s σ H _ I h) λ u s1 hz=>?_) ht;obtain ⟨x,H1,I1,rx,a,C,dx,fs,ps,dvs,sp,ex,ea,l,⟨c,f,fd,ds,F,hm,hb,hd⟩,q⟩:=hz;subst ex;obtain rfl:u=Value.ref a:=rx;refine wZ I1 ea c hm l ?_;exact fS (first:=[.ref a]) I1.kIn hm.kp (Ju (us:=[.ref a]) (vs:=[.ref a]) B F hr hb hd I1 (.cons rfl .nil) q)
def tGl (X:Cx) (x:Str):TE:=λ _ H Q=>∃ v u,X.mg x=some u/\RelV v u/\Q v H
def vn (hg:Gl X x:=by rfl) (hd:(x == ("__debug__":Str))=false:=by decide):PE X (.Name x pos) (tGl X x):=λ _ _ _ H _ I h=>by
 obtain ⟨v,u,hm,r,h⟩:=h;exact x8 I hg hm ⟨v,H,I,r,h⟩ hd
def tBi (X:Cx) (x:Str) (r:List V->Hp->VK->Prop) (t:TA):TE:=λ σ H Q=>X.mg x=none/\t σ H λ vs H1=>r vs H1 Q
def z6 {id:String} {r:List V->Hp->VK->Prop} (hc:CallR X (.builtin id) r) (hv:bootBuiltins x=some (.builtin id)) (ha:PA X (e :: es) t) (hg:Gl X x:=by rfl) (hn:x≠"__name__":=by decide) (hdb:(x == ("__debug__":Str))=false:=by decide)
  (he:starEach (e :: es) X.env=(false,eval e X.env) :: starEach es X.env:=by rfl) (hpl:(backTo pos (starEach es X.env)).any (·.1)=false:=by rfl):PE X (.Call (.Name x p) (e :: es) [] pos) (tBi X x r t):=λ m5 s σ H Q I h =>
 zeN hc hg h.1 hv ha hn hdb he hpl m5 s σ H Q I h.2
def vL {T:String} {r:List V->Hp->VK->Prop} (hc:CallR X (.type T) r) (hv:bootBuiltins x=some (.type T)) (ha:PA X (e :: es) t) (hg:Gl X x:=by rfl) (hn:x≠"__name__":=by decide) (hdb:(x == ("__debug__":Str))=false:=by decide)
  (he:starEach (e :: es) X.env=(false,eval e X.env) :: starEach es X.env:=by rfl) (hpl:(backTo pos (starEach es X.env)).any (·.1)=false:=by rfl):PE X (.Call (.Name x p) (e :: es) [] pos) (tBi X x r t):=λ m5 s σ H Q I h =>
 zdE hc hg h.1 hv ha hn hdb he hpl m5 s σ H Q I h.2
end
section
variable {X:Cx} {tg:Expr} {a b c e o:Expr} {ta tb tc:TE} {pos:Pos}
def iSeq (K:A0) (tl:TE):TI:=λ σ H R=>tl σ H λ x H1=>∃ a,x=.ref a/\(((∃ xs,SqL K H1 a xs)/\R (Itl K a) H1)\/((∃ xs,SqT K H1 a xs)/\R (Itt K a) H1))
def qp {l:Expr} {tl:TE} (hl:PE X l tl):PI X tg l (iSeq X.K tl):=by
 intro m5 s σ H R I h;refine qM (hl m5 s σ H _ I h) λ v s1 x H1 I1 r1 q1=>?_;obtain ⟨a,e,q⟩:=q1;subst e;cases r1;rcases q with ⟨⟨xs,hq⟩,q⟩|⟨⟨xs,hq⟩,q⟩
 ·obtain ⟨mX,rv,p,hz⟩:=I1.list hq;refine wpAny_pyIter_list p.isList ?_;refine ⟨s1.heap.objs.size,[s1.heap.objs.size],_,_,H1,rfl,I1.kept (t':=s1.toks) λ b o e=>ai _ e,zdc a _,⟨_,aD _ rfl,rfl,rfl⟩,λ b hb=>?_,q⟩;have e:b=s1.heap.objs.size:=by simpa using hb
  subst e;exact I1.fpOk (aq _) (I1.hok.fresh (aq _))
 ·obtain ⟨mX,rv,p,hz⟩:=I1.tuple hq;refine wpAny_pyIter_tuple (show s1.heap.IsTuple a mX.toArray from p) ?_;refine ⟨s1.heap.objs.size,[s1.heap.objs.size],_,_,H1,rfl,I1.kept (t':=s1.toks) λ b o e=>ai _ e,zbr a _,⟨_,aD _ rfl,rfl,rfl⟩,λ b hb=>?_,q⟩;have e:b=s1.heap.objs.size:=by simpa using hb
  subst e;exact I1.fpOk (aq _) (I1.hok.fresh (aq _))
def jP {ta:TA} {p pos:Pos} (ha:PA X [a] ta) (hg:Gl X "range":=by rfl) (hs:starEach [a] X.env=[(false,eval a X.env)]:=by rfl):PI X tg (.Call (.Name "range" p) [a] [] pos) (λ σ H R=>X.mg "range"=none/\iRng1 ta σ H R) :=
 λ m5 s σ H R I h=>zdD hg h.1 ha hs m5 s σ H R I h.2
def zeG (K:A0):R2:=λ x y H Q=>∃ l b xs zs,x=.ref l/\y=.ref b/\SqL K H l xs/\SqL K H b zs/\xs.length + zs.length<=sizeLine/\∀ p,H p=none->Q (.ref p) (upd H p (.lst (xs ++ zs)))
def zgg:OpR X (binaryOp .Add) (zeG X.K):=by
 intro m5 s σ H x y v u Q I rx ry h;obtain ⟨l,b,xs,zs,rfl,rfl,hH,hB,hz,q⟩:=h;cases rx;cases ry;obtain ⟨mX,r,p,z⟩:=I.list hH;obtain ⟨its2,r2,p2,z2⟩:=I.list hB;have e1:=r.length;have e2:=r2.length;obtain ⟨⟨cls,dd,data,sl⟩,n,ho,hc,hdd,hd⟩:=p;obtain ⟨⟨cls2,dd2,data2,sl2⟩,n2,ho2,hc2,hdd2,hd2⟩:=p2;simp only at hc hd hc2 hd2;subst hc hd hc2 hd2;have ea:mX.toArray ++ its2.toArray=(mX ++ its2).toArray:=by simp
 refine concat_meets ⟨_,ho,rfl⟩ ⟨_,ho2,rfl⟩ noFill_list_add seq_list_add PySem.F.slot_list_add PySem.F.entry_list_add (PySem.F.args_list_add_2 _ _) (list_addW l b mX.toArray its2.toArray n n2 dd dd2 sl sl2 (by simp only [av];omega)) ⟨ho,ho2,?_⟩;rw [ea];exact ⟨.ref _,_,I.lnew (t':=s.toks) (r.append r2) (by rw [aM];omega),rfl,q _ I.fresh⟩
def OpR.wk {f:Al} {r r':R2} (h:OpR X f r) (k:∀ x y H Q,r' x y H Q->r x y H Q):OpR X f r':=λ m5 s σ H x y v u Q I rx ry q=>h m5 s σ H x y v u Q I rx ry (k x y H Q q)
def zaA (K:A0):R2:=λ x y H Q=>match x,y with
 | .int i,.int j=>Q (.int (i + j)) H
 | .str i,.str j=>i.length + j.length<=sizeLine/\Q (.str (i ++ j)) H
 | x,y=>zeG K x y H Q
def zN:OpR X (binaryOp .Add) (zaA X.K):=(op_add.or (op_add_str.or zgg)).wk λ x y H Q h=>by
 unfold zaA at h
 split at h
 ·exact .inl h
 ·exact .inr (.inl ⟨_,_,rfl,rfl,h⟩)
 ·exact .inr (.inr h)
def rT (c:Int->Int->Prop) [∀ i j,Decidable (c i j)]:R2:=λ x y H Q=>iq x λ i=>iq y λ j=>if c i j then Q (.bl true) H else Q (.bl false) H
def zb7 {c:Prop} [Decidable c] {Q:VK} (h:if c then Q (.bl true) H else Q (.bl false) H):Q (.bl (decide c)) H:=by
 by_cases e:c
 ·rw [ap e] at h;rw [bp e];exact h
 ·rw [am e] at h;rw [aV e];exact h
def zcN {c:Prop} [Decidable c] {Q:VK} (h:if ¬ c then Q (.bl true) H else Q (.bl false) H):Q (.bl (!decide c)) H:=by
 by_cases e:c
 ·rw [am (λ z=>z e)] at h;rw [bp e];exact h
 ·rw [ap e] at h;rw [aV e];exact h
def OpR.t {f:Al} {c:Int->Int->Prop} [∀ i j,Decidable (c i j)] (h:OpR X f (rI0 λ i j=>.bl (decide (c i j)))):OpR X f (rT c):=h.wk λ x y H Q q=>by
 obtain ⟨i,j,rfl,rfl,q⟩:=QS q;exact zb7 q
def Zr:OpR X (compareOp .Lt) (rT λ i j=>i < j):=op_lt.t
def xO:OpR X (compareOp .LtE) (rT λ i j=>i<=j):=op_le.t
def Wt:OpR X (compareOp .Gt) (rT λ i j=>j < i):=op_gt.t
def jo:OpR X (compareOp .Is) (λ x y H Q=>nq y (if x=.non then Q (.bl true) H else Q (.bl false) H)):=op_isN.wk λ x y H Q q=>by
 obtain ⟨rfl,q⟩:=zcF q;exact zb7 q
def Vw:OpR X (compareOp .IsNot) (λ x y H Q=>nq y (if ¬ x=.non then Q (.bl true) H else Q (.bl false) H)):=op_notN.wk λ x y H Q q=>by
 obtain ⟨rfl,q⟩:=zcF q;exact zcN q
def zbQ {op:Operator} {b:Expr} {y:V} {r:R2} (ho:OpR X (binaryOp op) r) (hb:PE X b (tC y)) {ta:TE} {r':V->Hp->VK->Prop} (k:∀ x H Q,r' x H Q->r x y H Q) {pos:Pos} (ha:PE X a ta):PE X (.BinOp a op b pos) (tUn r' ta):=by
 intro m5 s σ H Q I h;refine wpAny_BinOp (qM (ha m5 s σ H _ I h) λ v s1 x H1 I1 r1 q1=>thn (hb m5 s1 σ H1 (λ z H2=>z=y/\H2=H1) I1 ⟨rfl,rfl⟩) λ u s2 ⟨z,H2,I2,r2,e,e2⟩=>?_);subst e e2;exact ho m5 s2 σ H2 x z v u Q I2 r1 r2 (k x H2 Q q1)
def z8 {k:Int} {j:Nat} {p2 pos:Pos} {ta:TE} (ha:PE X a ta) (h:decide (0 < k)=true:=by rfl):PE X (.BinOp a .Mod (.Constant (.int k) j p2) pos) (tUn (rU λ i=>.int (i % k)) ta) :=
 zbQ qu zd (λ x H Q q=>by obtain ⟨i,rfl,q⟩:=Qk q;exact ⟨bO h,q⟩) ha
def qd {k:Int} {j:Nat} {p2 pos:Pos} {ta:TE} (ha:PE X a ta) (h:decide (0 < k/\k < 1073741824)=true:=by rfl):PE X (.BinOp a .FloorDiv (.Constant (.int k) j p2) pos) (tUn (rU λ i=>.int (i / k)) ta) :=
 zbQ zgf zd (λ x H Q q=>by obtain ⟨i,rfl,q⟩:=Qk q;have z:=bO h;exact ⟨z,q⟩) ha
def Vv {b k:Int} {j j2:Nat} {p1 p2 pos:Pos} (h:decide (0<=k/\k<=1000000/\b.natAbs < 2 ^ 64)=true:=by rfl):PE X (.BinOp (.Constant (.int b) j p1) .Pow (.Constant (.int k) j2 p2) pos) (tC (.int (b ^ k.toNat))):=by
 intro m5 s σ H Q I q;have z:=bO h;exact zr zhq zd zd m5 s σ H Q I ⟨z,q⟩
def zbR {b k:Int} {j j2:Nat} {p1 p2 p3 pos:Pos} {ta:TE} (ha:PE X a ta) (h:decide (0<=k/\k<=1000000/\b.natAbs < 2 ^ 64)=true:=by rfl) (h0:decide (0 < b)=true:=by rfl) :
  PE X (.BinOp a .Mod (.BinOp (.Constant (.int b) j p1) .Pow (.Constant (.int k) j2 p2) p3) pos) (tUn (rU λ i=>.int (i % b ^ k.toNat)) ta) :=
 zbQ qu (Vv h) (λ x H Q q=>by obtain ⟨i,rfl,q⟩:=Qk q;exact ⟨Int.pow_pos (bO h0),q⟩) ha
structure MulOk (i j:Int):Prop where
 h:IntMulOk i j
def jG:OpR X (binaryOp .Mult) (rI MulOk λ i j=>.int (i * j)):=opI λ _ _ _ _ _ _ _ hc q=>mul_int q hc.h
structure CFd (_ j:Int):Prop where
 a:j≠0
 b:j.natAbs.log2 < 9000
def Z7:OpR X (binaryOp .FloorDiv) (rI CFd λ i j=>.int (i.fdiv j)):=opI λ _ _ _ _ _ _ _ hc q=>floordiv_int hc.1 q (.inl (PyProof.noPylong_of_log2 hc.2))
def mul_okL {i j:Int} (h1:-(2 ^ 64) < i) (h2:i < 2 ^ 64):MulOk i j:=⟨PySem.IntMulOk.of_left (fP h1 h2)⟩
def mul_okR {i j:Int} (h1:-(2 ^ 64) < j) (h2:j < 2 ^ 64):MulOk i j:=⟨PySem.IntMulOk.of_right (fP h1 h2)⟩
def fd_ok {i j:Int} (h1:0 < j) (h2:j.natAbs < 2 ^ 8999):CFd i j:=⟨by omega,by
 have:=(Nat.log2_lt (n:=j.natAbs) (k:=8999) (by omega)).mpr h2;omega⟩
def zhN {i j:Int} (h1:j≠0) (h2:j.natAbs < 2 ^ 8999):CFd i j:=⟨h1,by
 have:=(Nat.log2_lt (n:=j.natAbs) (k:=8999) (by omega)).mpr h2;omega⟩
def fdiv_pos {i j:Int} (h:0 < j):i.fdiv j=i / j:=cY i (cV h)
noncomputable def wv:List V->List V->Bool
 | [],[]=>true
 | x :: xs,y :: ys=>eqV x y && wv xs ys
 | _,_=>false
theorem wq:∀ {xs ys:Ap},xs.length≠ys.length->wv xs ys=false
 | [],[],h=>absurd rfl h
 | [],_ :: _,_=>rfl
 | _ :: _,[],_=>rfl
 | x :: xs,y :: ys,h=>by
  have:=wq (xs:=xs) (ys:=ys) (λ e=>h (by simp [e]));unfold wv;rw [this,cz]
theorem wu:∀ {xs ys:Ap},xs.length=ys.length->(List.range xs.length).all (λ j=>eqV (xs.getD j .non) (ys.getD j .non))=wv xs ys
 | [],[],_=>rfl
 | [],_ :: _,h=>by simp at h
 | _ :: _,[],h=>by simp at h
 | x :: xs,y :: ys,h=>by
  have ih:=wu (xs:=xs) (ys:=ys) (by simpa using h);unfold wv;rw [<- ih,bz,List.range_succ_eq_map,List.all_cons,List.all_map]
  rfl
theorem Vals.getD:∀ {xs:Ap} {us:A7} {j:Nat} (h:j < us.length),Vals xs us->RelV (xs.getD j .non) us[j]
 | _,_,0,_,.cons r _=>r
 | _,_,j + 1,h,.cons _ t=>Vals.getD (j:=j) (by simpa using h) t
def j5 {xs:Ap} (f:xs.all vo=true) (j:Nat):vo (xs.getD j .non)=true:=by
 rw [ae];cases e:xs[j]? with
 | none=>rfl
 | some x=>exact dj.mp f x (ah e)
def zf4 (K:A0) (neg:Bool):R2:=λ x y H Q=>∃ a b xs ys,x=.ref a/\y=.ref b/\((SqL K H a xs/\SqL K H b ys)\/(SqT K H a xs/\SqT K H b ys))/\xs.all vo=true/\ys.all vo=true/\Q (.bl (if neg then !wv xs ys else wv xs ys)) H
def Wu (hu:X.A.units < cLine):OpR X (compareOp .Eq) (zf4 X.K false):=by
 intro m5 s σ H x y v u Q I rx ry h;obtain ⟨a,b,xs,ys,rfl,rfl,hq,fx,fy,q⟩:=h;cases rx;cases ry;have fin:EP X m5 σ Q (.bool (wv xs ys)) s:=⟨.bl (wv xs ys),H,I,rfl,q⟩;rcases hq with ⟨h1,h2⟩|⟨h1,h2⟩
 ·obtain ⟨mX,r,p,_⟩:=I.list h1;obtain ⟨its2,r2,p2,_⟩:=I.list h2;have e1:=r.length;have e2:=r2.length;by_cases hl:xs.length=ys.length
  ·refine e6 (e:=λ j=>eqV (xs.getD j .non) (ys.getD j .non)) p.isList p2.isList (by simp only [av];omega) hu (λ j h1 h2=>?_) _ _ _ _ ?_
   ·exact QU (Vals.getD (by simpa using h1) r) (Vals.getD (by simpa using h2) r2) (j5 fx j) (j5 fy j)
   ·rw [av,<- e1,wu hl];exact fin
  ·rw [wq hl] at fin;exact dE p.isList p2.isList (by simp only [av];simp;omega) hu _ _ _ _ fin
 ·obtain ⟨mX,r,p,_⟩:=I.tuple h1;obtain ⟨its2,r2,p2,_⟩:=I.tuple h2;have e1:=r.length;have e2:=r2.length;refine cM (e:=λ j=>eqV (xs.getD j .non) (ys.getD j .non)) p p2 hu (λ j h1 h2=>?_) _ _ _ _ ?_
  ·exact QU (Vals.getD (by simpa using h1) r) (Vals.getD (by simpa using h2) r2) (j5 fx j) (j5 fy j)
  ·by_cases hl:xs.length=ys.length
   ·have em:min mX.toArray.size its2.toArray.size=xs.length:=by simp only [av];omega
    have es:(mX.toArray.size == its2.toArray.size)=true:=by simp only [av];rw [bx];omega
    rw [em,es,wu hl,fh];exact fin
   ·have es:(mX.toArray.size == its2.toArray.size)=false:=by simp only [av];rw [a7];omega
    rw [es,cz];rw [wq hl] at fin;exact fin
def zdF (hu:X.A.units < cLine):OpR X (compareOp .NotEq) (zf4 X.K true):=by
 intro m5 s σ H x y v u Q I rx ry h;obtain ⟨a,b,xs,ys,rfl,rfl,hq,fx,fy,q⟩:=h;cases rx;cases ry;have fin:EP X m5 σ Q (.bool (!wv xs ys)) s:=⟨.bl (!wv xs ys),H,I,rfl,q⟩;rcases hq with ⟨h1,h2⟩|⟨h1,h2⟩
 ·obtain ⟨mX,r,p,_⟩:=I.list h1;obtain ⟨its2,r2,p2,_⟩:=I.list h2;have e1:=r.length;have e2:=r2.length;by_cases hl:xs.length=ys.length
  ·refine SeqAt.RcNeAt.lists (e:=λ j=>eqV (xs.getD j .non) (ys.getD j .non)) p.isList p2.isList (by simp only [av];omega) hu (λ j h1 h2=>?_) _ _ _ _ ?_
   ·exact QU (Vals.getD (by simpa using h1) r) (Vals.getD (by simpa using h2) r2) (j5 fx j) (j5 fy j)
   ·rw [av,<- e1,wu hl];exact fin
  ·rw [wq hl] at fin;exact SeqAt.RcNeAt.lists_lengths p.isList p2.isList (by simp only [av];simp;omega) hu _ _ _ _ fin
 ·obtain ⟨mX,r,p,_⟩:=I.tuple h1;obtain ⟨its2,r2,p2,_⟩:=I.tuple h2;have e1:=r.length;have e2:=r2.length;refine SeqAt.RcNeAt.tuples (e:=λ j=>eqV (xs.getD j .non) (ys.getD j .non)) p p2 hu (λ j h1 h2=>?_) _ _ _ _ ?_
  ·exact QU (Vals.getD (by simpa using h1) r) (Vals.getD (by simpa using h2) r2) (j5 fx j) (j5 fy j)
  ·by_cases hl:xs.length=ys.length
   ·have em:min mX.toArray.size its2.toArray.size=xs.length:=by simp only [av];omega
    have es:(mX.toArray.size == its2.toArray.size)=true:=by simp only [av];rw [bx];omega
    rw [em,es,wu hl,fh];exact fin
   ·have es:(mX.toArray.size == its2.toArray.size)=false:=by simp only [av];rw [a7];omega
    rw [es,cz];rw [wq hl] at fin;exact fin
inductive DE (K:A0) (H:Hp):Nat->V->V->Bool->Prop
 | flat {n:Nat} {x y:V}:vo x=true->vo y=true->DE K H n x y (eqV x y)
 | same {n:Nat} {p:Addr}:DE K H n (.ref p) (.ref p) true
 | lists {n:Nat} {p q:Addr} {xs ys:Ap} {e:Nat->Bool}:p≠q->SqL K H p xs->SqL K H q ys->xs.length=ys.length->(∀ j x y,xs[j]?=some x->ys[j]?=some y->DE K H n x y (e j))->DE K H (n + 1) (.ref p) (.ref q) ((List.range xs.length).all e)
 | listsL {n:Nat} {p q:Addr} {xs ys:Ap}:p≠q->SqL K H p xs->SqL K H q ys->xs.length≠ys.length->DE K H (n + 1) (.ref p) (.ref q) false
 | tuples {n:Nat} {p q:Addr} {xs ys:Ap} {e:Nat->Bool}:p≠q->SqT K H p xs->SqT K H q ys->(∀ j x y,xs[j]?=some x->ys[j]?=some y->DE K H n x y (e j))->DE K H (n + 1) (.ref p) (.ref q) ((List.range (min xs.length ys.length)).all e && xs.length == ys.length)
 | nt {n:Nat} {p:Addr} {xs:Ap}:SqT K H p xs->DE K H n .non (.ref p) false
 | tn {n:Nat} {p:Addr} {xs:Ap}:SqT K H p xs->DE K H n (.ref p) .non false
def Vals.at_ {xs:Ap} {us:A7} (r:Vals xs us) {j:Nat} (h:j < us.toArray.size):∃ x,xs[j]?=some x/\RelV x us.toArray[j]:=by
 have h':j < us.length:=by simpa using h
 have hl:j < xs.length:=by rw [r.length];exact h'
 obtain ⟨u,hu,ru⟩:=r.get (ac hl);have e:us.toArray[j]=u:=by
  have:=aa.mp hu;obtain ⟨_,e⟩:=this;simpa using e
 exact ⟨xs[j],ac hl,e ▸ ru⟩
def zc1 {σ:St} {n:Nat} {x y:V} {b:Bool} (I:Inv X m5 σ H s) (h:DE X.K H n x y b):∀ {u v:Am} {A:Ao},RelV x u->RelV y v->A.units + n < cLine->SeqAt.EqAt A s u v b:=by
 induction h with
 | flat fx fy=>intro u v A rx ry _;exact QU rx ry fx fy
 | same=>intro u v A rx ry _;cases rx;cases ry;exact dS _
 | lists hne h1 h2 hl _ ih =>
  intro u v A rx ry hu;cases rx;cases ry;obtain ⟨mX,r,p,_⟩:=I.list h1;obtain ⟨its2,r2,p2,_⟩:=I.list h2;have e1:=r.length;have e2:=r2.length;refine cB hne ?_;have:=e6 (A:=A) (s:=s) p.isList p2.isList (by simp only [av];omega) (by omega) (λ j h1 h2=>by
   obtain ⟨x,hx,rx⟩:=r.at_ h1;obtain ⟨y,hy,ry⟩:=r2.at_ h2;exact ih j x y hx hy rx ry (by show A.units + 1 + _ < _;omega))
  rw [av,<- e1] at this;exact this
 | listsL hne h1 h2 hl =>
  intro u v A rx ry hu;cases rx;cases ry;obtain ⟨mX,r,p,_⟩:=I.list h1;obtain ⟨its2,r2,p2,_⟩:=I.list h2;have e1:=r.length;have e2:=r2.length;exact cB hne (dE p.isList p2.isList (by simp only [av];simp;omega) (by omega))
 | tuples hne h1 h2 _ ih =>
  intro u v A rx ry hu;cases rx;cases ry;obtain ⟨mX,r,p,_⟩:=I.tuple h1;obtain ⟨its2,r2,p2,_⟩:=I.tuple h2;have e1:=r.length;have e2:=r2.length;refine cB hne ?_;have:=cM (A:=A) (s:=s) p p2 (by omega) (λ j h1 h2=>by
   obtain ⟨x,hx,rx⟩:=r.at_ h1;obtain ⟨y,hy,ry⟩:=r2.at_ h2;exact ih j x y hx hy rx ry (by show A.units + 1 + _ < _;omega))
  simp only [av,<- e1,<- e2] at this;exact this
 | nt h1 =>
  intro u v A rx ry hu;cases rx;cases ry;obtain ⟨mX,r,p,_⟩:=I.tuple h1;exact SeqAt.EqAt.none_tuple p (by omega)
 | tn h1 =>
  intro u v A rx ry hu;cases rx;cases ry;obtain ⟨mX,r,p,_⟩:=I.tuple h1;exact SeqAt.EqAt.tuple_none p (by omega)
def zf5 (K:A0) (neg:Bool):R2:=λ x y H Q=>∃ p q xs ys n e,x=.ref p/\y=.ref q/\n<=8/\(∀ j x y,xs[j]?=some x->ys[j]?=some y->DE K H n x y (e j)) /\
 ((SqL K H p xs/\SqL K H q ys/\xs.length=ys.length/\Q (.bl (if neg then !((List.range xs.length).all e) else (List.range xs.length).all e)) H) \/
   (SqT K H p xs/\SqT K H q ys/\Q (.bl (if neg then !((List.range (min xs.length ys.length)).all e && xs.length == ys.length) else ((List.range (min xs.length ys.length)).all e && xs.length == ys.length))) H))
def zbV (hu:X.A.units + 100 < cLine):OpR X (compareOp .Eq) (zf5 X.K false):=by
 intro m5 s σ H x y v u Q I rx ry h;obtain ⟨p,q,xs,ys,n,e,rfl,rfl,hn,hde,h⟩:=h;cases rx;cases ry;rcases h with ⟨h1,h2,hl,q⟩|⟨h1,h2,q⟩
 ·obtain ⟨mX,r,p,_⟩:=I.list h1;obtain ⟨its2,r2,p2,_⟩:=I.list h2;have e1:=r.length;have e2:=r2.length;refine e6 (e:=e) p.isList p2.isList (by simp only [av];omega) (by omega) (λ j h1 h2=>?_) _ _ _ _ ?_
  ·obtain ⟨x,hx,rx⟩:=r.at_ h1;obtain ⟨y,hy,ry⟩:=r2.at_ h2;exact zc1 I (hde j x y hx hy) rx ry (by show X.A.units + 1 + _ < _;omega)
  ·rw [av,<- e1];exact ⟨.bl _,H,I,rfl,q⟩
 ·obtain ⟨mX,r,p,_⟩:=I.tuple h1;obtain ⟨its2,r2,p2,_⟩:=I.tuple h2;have e1:=r.length;have e2:=r2.length;refine cM (e:=e) p p2 (by omega) (λ j h1 h2=>?_) _ _ _ _ ?_
  ·obtain ⟨x,hx,rx⟩:=r.at_ h1;obtain ⟨y,hy,ry⟩:=r2.at_ h2;exact zc1 I (hde j x y hx hy) rx ry (by show X.A.units + 1 + _ < _;omega)
  ·simp only [av,<- e1,<- e2];exact ⟨.bl _,H,I,rfl,q⟩
def zbU (hu:X.A.units + 100 < cLine):OpR X (compareOp .NotEq) (zf5 X.K true):=by
 intro m5 s σ H x y v u Q I rx ry h;obtain ⟨p,q,xs,ys,n,e,rfl,rfl,hn,hde,h⟩:=h;cases rx;cases ry;rcases h with ⟨h1,h2,hl,q⟩|⟨h1,h2,q⟩
 ·obtain ⟨mX,r,p,_⟩:=I.list h1;obtain ⟨its2,r2,p2,_⟩:=I.list h2;have e1:=r.length;have e2:=r2.length;refine SeqAt.RcNeAt.lists (e:=e) p.isList p2.isList (by simp only [av];omega) (by omega) (λ j h1 h2=>?_) _ _ _ _ ?_
  ·obtain ⟨x,hx,rx⟩:=r.at_ h1;obtain ⟨y,hy,ry⟩:=r2.at_ h2;exact zc1 I (hde j x y hx hy) rx ry (by show X.A.units + 1 + _ < _;omega)
  ·rw [av,<- e1];exact ⟨.bl _,H,I,rfl,q⟩
 ·obtain ⟨mX,r,p,_⟩:=I.tuple h1;obtain ⟨its2,r2,p2,_⟩:=I.tuple h2;have e1:=r.length;have e2:=r2.length;refine SeqAt.RcNeAt.tuples (e:=e) p p2 (by omega) (λ j h1 h2=>?_) _ _ _ _ ?_
  ·obtain ⟨x,hx,rx⟩:=r.at_ h1;obtain ⟨y,hy,ry⟩:=r2.at_ h2;exact zc1 I (hde j x y hx hy) rx ry (by show X.A.units + 1 + _ < _;omega)
  ·simp only [av,<- e1,<- e2];exact ⟨.bl _,H,I,rfl,q⟩
def zaz (K:A0):R2:=λ x y H Q=>match x,y with
 | .int i,.int j=>Q (.bl (decide (i=j))) H
 | .str i,.str j=>Q (.bl (decide (i=j))) H
 | .bl i,.bl j=>Q (.bl (decide (i=j))) H
 | x,y=>rEq x y H Q\/zf4 K false x y H Q\/zf5 K false x y H Q
def zbP (K:A0):R2:=λ x y H Q=>match x,y with
 | .int i,.int j=>Q (.bl (!decide (i=j))) H
 | .str i,.str j=>Q (.bl (!decide (i=j))) H
 | .bl i,.bl j=>Q (.bl (!decide (i=j))) H
 | x,y=>rNe x y H Q\/zf4 K true x y H Q\/zf5 K true x y H Q
def zdz (K:A0):R2:=λ x y H Q=>match x,y with
 | .int i,.int j=>if i=j then Q (.bl true) H else Q (.bl false) H
 | .str i,.str j=>if i=j then Q (.bl true) H else Q (.bl false) H
 | .bl i,.bl j=>if i=j then Q (.bl true) H else Q (.bl false) H
 | x,y=>zaz K x y H Q
def zdy (K:A0):R2:=λ x y H Q=>match x,y with
 | .int i,.int j=>if ¬ i=j then Q (.bl true) H else Q (.bl false) H
 | .str i,.str j=>if ¬ i=j then Q (.bl true) H else Q (.bl false) H
 | .bl i,.bl j=>if ¬ i=j then Q (.bl true) H else Q (.bl false) H
 | x,y=>zbP K x y H Q
def zis (hu:X.A.units + 100 < cLine):OpR X (compareOp .Eq) (zaz X.K):=(op_eq.or ((Wu (by omega)).or (zbV hu))).wk λ x y H Q h=>by
 unfold zaz at h
 split at h <;> first|exact h|exact .inl ⟨rfl,by simpa using h⟩
def zir (hu:X.A.units + 100 < cLine):OpR X (compareOp .NotEq) (zbP X.K):=(op_ne.or ((zdF (by omega)).or (zbU hu))).wk λ x y H Q h=>by
 unfold zbP at h
 split at h <;> first|exact h|exact .inl ⟨rfl,by simpa using h⟩
def qG (hu:X.A.units + 100 < cLine):OpR X (compareOp .Eq) (zdz X.K):=(zis hu).wk λ x y H Q h=>by
 unfold zdz at h
 split at h <;> first|exact h|exact zb7 (Q:=Q) h
def Xe (hu:X.A.units + 100 < cLine):OpR X (compareOp .NotEq) (zdy X.K):=(zir hu).wk λ x y H Q h=>by
 unfold zdy at h
 split at h <;> first|exact h|exact zcN (Q:=Q) h
def Room.units1 {k:Nat} {A:Ao} (r:Room k A):A.units + 100 < cLine:=by have:=r.un;omega
noncomputable def zhU:V->Option Value
 | .ty n=>some (.type n)
 | .ref a=>some (.ref a)
 | _=>none
def zX:bootBuiltins "len"=some (.builtin "len"):=by decide +kernel
def zfC:bootBuiltins "abs"=some (.builtin "abs"):=by decide +kernel
def jW:bootBuiltins "isinstance"=some (.builtin "isinstance"):=by decide +kernel
def zfB:bootBuiltins "max"=some (.builtin "max"):=by decide +kernel
def zhW:bootBuiltins "min"=some (.builtin "min"):=by decide +kernel
def zd8:bootBuiltins "sorted"=some (.builtin "sorted"):=by decide +kernel
def we:bootBuiltins "list"=some (.type "list"):=by decide +kernel
def Qq:bootBuiltins "tuple"=some (.type "tuple"):=by decide +kernel
def Q3:kitOne K (.type "int") (.type "int")=some true:=by rfl
def Qg:kitOne K (.type "int") (.type "bool")=some false:=by rfl
def Zs:kitOne K (.type "bool") (.type "bool")=some true:=by rfl
def Q2:kitOne K (.type "str") (.type "str")=some true:=by rfl
def zhI:IxR X (rIx X.K):=zhH
def zY:CallR X (.builtin "len") (λ xs H Q=>lq xs λ x=>∃ n,ziM X.K x H n/\Q (.int n) H):=λ m5 s σ H xs us Q I r h=>let ⟨x,e,n,h⟩:=ze3 h;zfv m5 s σ H xs us Q I r ⟨x,n,e,h⟩
def ze2 {xs:Ap} {P:Int->Prop} (h:lq xs λ v=>iq v P):∃ i,xs=[.int i]/\P i:=by
 obtain ⟨v,rfl,h⟩:=ze3 h;obtain ⟨i,rfl,h⟩:=Qk h;exact ⟨i,rfl,h⟩
def zfE:CallR X (.builtin "abs") (λ xs H Q=>lq xs λ v=>iq v λ i=>Q (.int (if i < 0 then -i else i)) H):=λ m5 s σ H xs us Q I r h=>zfw m5 s σ H xs us Q I r (ze2 h)
end
abbrev bmV:List Value:=[.type "ValueError",.type "Exception",.type "BaseException",.type "object"]
structure XC (K:A0) (C:Addr):Prop where
 q:excIn K C bmV "ValueError.__new__"=true
def zg0 {C:Addr} {h₀:Heap} (X:K.In h₀) (x:XC K C):∃ bm N nm q bs hdct sn sub ab col dd k0 k1 k2 k3 k5 mN,h₀.get? C=some (excClassObj nm q C N bs bm hdct sn sub ab col dd k0 k1 k2 k3 k5 "ValueError.__new__")/\h₀.Ns N mN/\mN "__init__"=none/\OwnTail h₀ bmV bm:=by
 have q:=x.q;unfold excIn at q
 split at q
 ·rename_i dd cd sl ho
  split at q
  ·rename_i C' bm k0 k1 k2 k3 n k5 hm hs;simp only [dm,bx,Bool.not_eq_true'] at q;obtain ⟨⟨⟨⟨⟨rfl,rfl⟩,hdel⟩,ht⟩,hok⟩,hni⟩:=q;obtain ⟨nm,bs,mro,ns,qn,hd,sn,sub,ab,col,del⟩:=cd;dsimp only at hm hdel hok hni;subst hm hdel;have hsl:sl=#[k0,k1,k2,k3,some (.builtin "ValueError.__new__"),k5]:=by
    obtain ⟨l⟩:=sl;simp only at hs;rw [hs]
   subst hsl;exact ⟨bm,ns,nm,qn,bs,hd,sn,sub,ab,col,dd,k0,k1,k2,k3,k5,_,X _ _ ho,.of_isNs (PySem.W.isNs_of_in X hok),PySem.W.nsMap_none_of_in X hok hni,PySem.W.tail_of_in X ht⟩
  ·cases q
 ·cases q
section
variable {X:Cx} {G:GK} {x n:Str} {np cpos pos hpos:Pos} {e₀:Expr} {es:List Expr} {t:TA}
def tRaise (X:Cx) (x:Str) (G:GK) (t:TA):TS:=λ _ σ H=>∃ C,X.mg x=some (.ref C)/\XC X.K C/\t σ H λ vs H1=>szl vs (G (.ref C) σ H1)
def qR (B:Bod X) (hc:X.calm=true) (ha:PA (X.exg G) (e₀ :: es) t) (hg:Gl X x:=by rfl) (hdb:(x == ("__debug__":Str))=false:=by decide)
  (he:starEach (e₀ :: es) X.env=(false,eval e₀ X.env) :: starEach es X.env:=by rfl) (hpl:(backTo cpos (starEach es X.env)).any (·.1)=false:=by rfl) :
  PS (X.exg G) (.Raise (some (.Call (.Name x np) (e₀ :: es) [] cpos)) none pos) (tRaise X x G t):=by
 intro m5 s σ H D I h;obtain ⟨C,hm,xc,h⟩:=h;obtain ⟨tl,N,nm,q,bs,hdct,sn,sub,ab,col,dd,k0,k1,k2,k3,k5,mN,hC,hN,hni,T⟩:=zg0 I.ok.mod.kin xc;refine wpAny_Raise_call_subT (C:=C) (nm:=nm) (q:=q) (N:=N) (bs:=bs) (bm:=tl) (hdct:=hdct) (sn:=sn) (sub:=sub) (ab:=ab) (col:=col) (dd:=dd) (k0:=k0) (k1:=k1) (k2:=k2) (k3:=k3) (k5:=k5)
  F.excBase_ValueError (mN:=mN) (T.hasType F.excBase_ValueError.hasBase) (I.ok.hd hc) (by rw [he];show (false || (backTo cpos (starEach es X.env)).any (·.1))=false;rw [hpl];rfl) hni (x8 I hg hm ⟨rfl,?_⟩ hdb)
 have hA:=ha cpos m5 s σ H _ I h;rw [he] at hA ⊢;refine Calls.evalArgs_plain (thn hA λ us s2 ⟨vs,H2,I2,r,g⟩=>?_);obtain ⟨hl,g⟩:=zbt g;exact ⟨rfl,by rw [<- r.length];exact hl,I2.bk _ _ hC,hN.keeps I2.bk,T.keeps I2.bk,λ h' a hm=>zbo B I2.unwish hm g⟩
end
noncomputable def ziF (a:Addr) (cls:Am):HO:=.ext λ h=>∃ o vs,h.get? a=some o/\o.cls=cls/\o.dict=none/\o.data=.fields vs
def Exc.obj {g h:Heap} {pn:A2} {a:Addr} (x:Exc g h H pn a cls):∃ o vs,h.get? a=some o/\o.cls=cls/\o.dict=none/\o.data=.fields vs:=by
 obtain ⟨oe,vs,_,_,_,h1,h2,h3,h4,_⟩:=x.ex;exact ⟨oe,vs,h1,h2,h3,h4⟩
section
variable {X:Cx} {m5:A2} {σ:St} {H:Hp} {s:An}
def zce {M:Model} {A:Ao} {E:A3} {a:Addr} {Q:Ag} (I:Inv X m5 σ H s) (x:Exc X.s₀.heap s.heap H (X.pn ++ m5) a cls)
  (hQ:∀ s',Inv X m5 σ H s'->Exc X.s₀.heap s'.heap H (X.pn ++ m5) a cls->Q () s'):wpAny M A (setFlight (.ref a) none) Q E s:=by
 obtain ⟨⟨oe,vs,T,oT,ts,h1,h2,h3,h4,h5,h6,h7,h8,h9,h10,h11,h12⟩,ga,Ha,pa⟩:=x;have h3s:3 < ts.size:=(bJ.mp h9).1;refine wpAny_setFlight_none h1 h4 h5 h7 h8 h3s ?_;have hT:=br (Obj.mapFields (·.setIfInBounds 3 Value.none)) h7 (b9 (bh h8 _));have other:∀ b,b≠T->(s.heap.update T (Obj.mapFields (·.setIfInBounds 3 Value.none))).get? b=s.heap.get? b:=λ b hb=>a9 _ _ (aW hb);refine hQ _ (I.stepx (ch:=[T]) (λ b hb=>?_) (λ b hb=>?_) (λ b o _ hc q=>(other b (λ z=>hc (by simp [z]))).trans q) (λ b o hc q=>⟨o.slots,(other b (λ z=>hc (by simp [z]))).trans q⟩) λ b hb=>?_)
  ⟨⟨oe,vs,T,_,_,(other a (aW h6)).trans h1,h2,h3,h4,h5,h6,hT,bh h8 _,by simp [h3s],h10,h11,h12⟩,ga,Ha,pa⟩
 ·obtain rfl:b=T:=by simpa using hb
  exact ⟨h10,h11,h12⟩
 ·obtain rfl:b=T:=by simpa using hb
  exact ⟨oT,ts,h7,h8⟩
 ·obtain rfl:b=T:=by simpa using hb
  exact ⟨_,hT⟩
end
noncomputable abbrev Cx.suite (X:Cx) (pn:A2) (a:Addr):Cx:={ X with pn:=pn,A:=X.A.mark (some (.ref a)),calm:=false,xe:=λ _ _=>False }
noncomputable abbrev Cx.pinned (X:Cx) (pn:A2):Cx:={ X with pn:=pn }
section
variable {X:Cx} {m5:A2} {σ:St} {H:Hp} {s:An}
def Inv.topn (I:Inv X m5 σ H s):Inv (X.pinned (X.pn ++ m5)) [] σ H s :=
 ⟨⟨I.ok.mod,I.ok.kind,I.ok.glob,I.ok.blt,I.ok.above,I.ok.inj,I.ok.has,I.ok.cab,I.ok.hd,I.ok.frames,I.ok.stk,I.ok.exf,I.ok.bs,I.ok.bsz,I.ok.noex,I.ok.exfs,I.ok.funs,I.ok.frf⟩,
  I.os,I.bare,I.base,I.loc,I.cell,I.free,I.freeC,λ p hp=>I.pin p (by rwa [bU] at hp),I.hok,I.len⟩
def Inv.ofpn (I:Inv (X.pinned (X.pn ++ m5)) [] σ H s):Inv X m5 σ H s :=
 ⟨⟨I.ok.mod,I.ok.kind,I.ok.glob,I.ok.blt,I.ok.above,I.ok.inj,I.ok.has,I.ok.cab,I.ok.hd,I.ok.frames,I.ok.stk,I.ok.exf,I.ok.bs,I.ok.bsz,I.ok.noex,I.ok.exfs,I.ok.funs,I.ok.frf⟩,
  I.os,I.bare,I.base,I.loc,I.cell,I.free,I.freeC,λ p hp=>I.pin p (by rw [bU];exact hp),I.hok,I.len⟩
def Inv.tosuite {pn:A2} {a:Addr} (I:Inv (X.pinned pn) [] σ H s):Inv (X.suite pn a) [] σ H s :=
 ⟨⟨I.ok.mod,I.ok.kind,I.ok.glob,I.ok.blt,I.ok.above,I.ok.inj,I.ok.has,I.ok.cab,λ h=>Bool.noConfusion h,I.ok.frames,I.ok.stk,I.ok.exf,I.ok.bs,I.ok.bsz,I.ok.noex,I.ok.exfs,I.ok.funs,I.ok.frf⟩,
  I.os,I.bare,I.base,I.loc,I.cell,I.free,I.freeC,I.pin,I.hok,I.len⟩
def Inv.ofsuite {pn:A2} {a:Addr} (hd:X.calm=true->X.A.handled=none) (I:Inv (X.suite pn a) [] σ H s):Inv (X.pinned pn) [] σ H s :=
 ⟨⟨I.ok.mod,I.ok.kind,I.ok.glob,I.ok.blt,I.ok.above,I.ok.inj,I.ok.has,I.ok.cab,hd,I.ok.frames,I.ok.stk,I.ok.exf,I.ok.bs,I.ok.bsz,I.ok.noex,I.ok.exfs,I.ok.funs,I.ok.frf⟩,
  I.os,I.bare,I.base,I.loc,I.cell,I.free,I.freeC,I.pin,I.hok,I.len⟩
end
def za1 {M:Model} {A:Ao} {E:A3} {e C D:Addr} {b:Bool} {Q:Bool->Shared->Prop} (X:K.In s.heap) (he:s.heap.get? e=some oe) (hcls:oe.cls=.ref C)
  (k1:kitCls K (.ref C) (.ref D)=some b) (k2:subIn K (.ref D) (.type "BaseException")=some true) (hq:Q b s):wpAny M A (excMatches (.ref e) (.ref D)) Q E s:=by
 obtain ⟨L1,L2,L3⟩:=PySem.W.kit_cls (M:=M) X k1;have L4:=fR (M:=M) X k2;have f:=tc_notTuple;obtain ⟨hp,g,d,tk,os⟩:=s;unfold excMatches
 repeat (first|(with_reducible refine wpAny_loadPart_at he ?_;rw [hcls])|with_reducible refine L1.at ?_|with_reducible refine L2.at ?_|with_reducible refine L3.at ?_|with_reducible refine L4.at ?_|wp_step)
 cases b
 ·wp_walk
  exact hq
 ·wp_walk
  exact hq
section
variable {X:Cx} {G:GK} {x n:Str} {np pos hpos:Pos} {i:Nat} {body suite:List Stmt} {b₀:Stmt} {tb:List (Addr × Obj)->GK->TS} {th:List (Addr × Obj)->Addr->TS}
end
structure FA (K:A0) (mg:A4) (x:Str) (st:Stmt) (ps:A8):Prop where
 ex:∃ f fd,Fun K x x st f fd/\mg x=some (.ref f)/\Binds K fd ps []
def FA.cal {st:Stmt} {k:Nat} (h:FA K mg x st ps) (ok:∀ {f fd},Fun K x x st f fd->FnOk P w K mg base (CXr P w) k f fd ps sp) :
  Cal P w K mg base x k ps [] sp:=by
 obtain ⟨f,fd,F,m,b⟩:=h.ex;exact ⟨f,fd,[],ok F,m,F.kp,b,.nil⟩
def ziE {h:Heap} {st:Stmt} {f:Addr} {oc:Am} {od an:Aa} {osl:Ae} {kV doc pm cdv ct:Am} (X:K.In h) (G:h.Ns mainGlobals mg)
  (a:nsIn K mainGlobals x=some (some (.ref f))) (l:K.lookup f=some ⟨oc,od,.func (fnOf x x (zZ st) (zR st) (ze st) .none kV doc pm an cdv ct),osl⟩)
  (c:codeIn K cdv x=true) (k:keepIn K (.ref f)=true)
  (hb:∀ (kV doc pm:Am) (an:Aa) (cdv ct:Am) (us:A7),us.length=ps.length->bindArgs (fnOf x x (zZ st) (zR st) (ze st) .none kV doc pm an cdv ct) ⟨us,[]⟩=pure (ps.zip us)):FA K mg x st ps :=
 ⟨f,_,w6 l c k,cg X G a,(w6 l c k).binds hb⟩
def zdZ {e:Am} {s':An} (h:CXr P w [] H s (λ _ _ _=>False) e s'):False:=by
 obtain ⟨_,_,_,_,_,_,_,_,_,z⟩:=h;exact z
end L2
namespace L2
open PySem PySem.Spec PySem.Calls PyProof.Rows
variable {K:A0} {C:Addr} {st:Stmt} {ps:A8}
structure XI (K:A0) (C:Addr):Prop where
 ga:findIn K (.ref C) "__getattribute__"=some (some (.builtin "BaseException.__getattribute__"))
 gt:findIn K (.ref C) "__getattr__"=some none
 cl:findIn K (.ref C) "__class__"=some (some (.builtin "object.__class__"))
 hd:hasDictIn K C=true
 gn:specialIn K (.builtin "object.__class__") "__get__"=some (some (.builtin "getset_descriptor.__get__"))
 tk:takesIn K (.builtin "object.__class__")=some true
 mo:mroIn K C (.type "object")=some true
 mb:subIn K (.ref C) (.type "BaseException")=some true
section
variable {prog:Af} {w:World} {A:Ao} {E:A3} {s:An} {K:A0} {a C:Addr} {o:Obj} {vs:Ac}
def za2 {hp:Heap} (hx:hp.get? a=some o) (hc:o.cls=.ref C) (hd:o.dict=none) (hv:o.data=.fields vs):PySem.W.InstAt hp a o C none:=by
 refine ⟨hx,hc,?_,?_⟩
 ·obtain ⟨c,d,dt,sl⟩:=o;simp only at hv;subst hv
  rfl
 ·rw [hd]
  trivial
def zdW {Q:Option Value->Shared->Prop} (X:K.In s.heap) (f:XI K C) (hx:s.heap.get? a=some o) (hc:o.cls=.ref C) (hd:o.dict=none) (hv:o.data=.fields vs)
  (h:Q (some (.ref C)) { s with toks:=s.toks + 1 }):wpAny (model prog w) A (getAttr? (.ref a) "__class__") Q E s:=by
 have I:=za2 hx hc hd hv;have hf:PySem.W.findObj K C none "__class__"=some (.bind (.builtin "getset_descriptor.__get__") (.builtin "object.__class__")):=by
   obtain ⟨cd,hcd,_⟩:=f9 f.hd;simp [PySem.W.findObj,hcd,f.cl,f.gn,f.tk]
 obtain ⟨hh,g,d,t,os⟩:=s;have T0:=I.type (M:=model prog w);have T1:=looks_findIn (M:=model prog w) X f.ga;have T2:=PySem.W.looks_find (M:=model prog w) X I hf;have T3:=looks_findIn (M:=model prog w) X f.gt;have T4:=fR (M:=model prog w) X f.mb;have f3:=F.attr_ValueError.ga.bind (.ref a);unfold getAttr? getAttrBy? getAttrBy;refine ad (wpAny_mkText (ad (fY (dD (ad (T0.at (ad (T1.at ?_))))))));dsimp only;have nga:(onTheHeap (Value.ref C) && Value.builtin "BaseException.__getattribute__" == Value.builtin "object.__getattribute__")=false:=by
  have z:(Value.builtin "BaseException.__getattribute__" == Value.builtin "object.__getattribute__")=false:=by decide +kernel
  rw [z,cz]
 rw [nga,am aA];unfold getAttrByItsOwn
 repeat (any_goals (first|assumption|with_reducible refine T0.at ?_|with_reducible refine T3.at ?_|with_reducible refine T1.at ?_|wp_step))
 refine codeAny_call_builtin F.attr_ValueError.ga.plain F.entry_bexc_ga ?_;have hk:builtinKind "BaseException.__getattribute__"=some .slot:=by decide +kernel
 have hsp:splitId "BaseException.__getattribute__"=some ("BaseException","__getattribute__"):=by decide +kernel
 have hav:=F.args_bexc_ga (.ref a) (Value.str (Str.ofString "__class__") t);simp only [checkBuiltinCall,hk,hsp];refine ad ?_;unfold isInstance
 repeat (first|with_reducible refine T2.at ?_|with_reducible refine T0.at ?_|with_reducible refine T4.at ?_|wp_step)
 refine PySem.W.class_get (s:=⟨hh,g,d,t + 1,os⟩) (ox:=o) (od:=none) X I f.mo ?_;refine aC ?_;refine PySem.W.handed_on rfl ?_;exact aC h
def ze9 {vs:Ac} (f:XI K C):PySem.W.KitX K (.ref a) (.ref C) (λ h=>∃ o vs,h.get? a=some o/\o.cls=.ref C/\o.dict=none/\o.data=.fields vs) where
 ty:=λ M h _ ⟨o,vs,e,c,d,v⟩=>(za2 e c d v).type
 it:=λ _ _ X _=>by
  obtain ⟨cd,hcd,_⟩:=f9 f.hd;unfold PySem.W.clsIn at hcd
  split at hcd
  ·rename_i c' d' cd' sl' ho;intro A' Q' E' s' k q;unfold isType loadHead;exact ad (wpAny_loadPart (k _ _ (X _ _ ho)) (aC q))
  ·cases hcd
 ne:=λ h tp dd mX n sl X htp=>by
  obtain ⟨cd,hcd,_⟩:=f9 f.hd;refine Bool.eq_false_iff.mpr λ q=>?_;have e:C=tp:=Value.ref.inj (bx.mp q);subst e;unfold PySem.W.clsIn at hcd
  split at hcd
  ·rename_i ho;have z:=(X _ _ ho).symm.trans htp;cases z
  ·cases hcd
 ca:=λ X ⟨o,vs,e,c,d,v⟩ k=>zdW X f e c d v k
end
inductive TyX (K:A0) (H:Hp):V->Value->Prop where
 | old {x:V} {t:Am} (h:TyOf K H x t):TyX K H x t
 | exc {a C:Addr} (h:H a=some (ziF a (.ref C))) (f:XI K C):TyX K H (.ref a) (.ref C)
noncomputable def zc4:List V->Option A7
 | []=>some []
 | c :: r=>match zhU c,zc4 r with
  | some u,some us=>some (u :: us)
  | _,_=>none
def zc5 {c:V} {u v:Am} (h:zhU c=some u) (r:RelV c v):v=u:=by
 cases c with
 | ty n=>cases r;exact aN h
 | ref a=>cases r;exact aN h
 | _=>cases h
theorem za8:∀ {cs:Ap} {us vs:A7},zc4 cs=some us->Vals cs vs->vs=us
 | [],_,_,h,.nil=>aN h
 | c :: r,us,v :: vs,h,.cons rc rr=>by
  unfold zc4 at h
  split at h
  ·rename_i u us' h1 h2;cases h;rw [zc5 h1 rc,za8 h2 rr]
  ·cases h
theorem zhz {X:Cx} {m5:A2} {σ:St} {H:Hp} {s:An} {x:V} {u t:Am} (I:Inv X m5 σ H s) (rx:RelV x u) (ty:TyX X.K H x t) :
  ∃ Hx:Heap->Prop,PySem.W.KitX X.K u t Hx/\Hx s.heap/\u≠.builtin "__main__.__loader__#opaque":=by
 cases ty with
 | @exc a C ea f =>
  cases (show u=Value.ref a from rx);obtain ⟨p,_⟩:=(show ObjOk X.prog X.w H s.heap a (ziF a (.ref C)) from I.hok a _ ea);exact ⟨_,ze9 (vs:=#[]) f,p,λ z=>nomatch z⟩
 | old ty =>
  cases ty with
  | non=>cases (show u=Value.none from rx);exact ⟨_,PySem.W.kitx_none,True.intro,λ z=>nomatch z⟩
  | bl y=>cases (show u=Value.bool y from rx);exact ⟨_,PySem.W.kitx_bool,True.intro,λ z=>nomatch z⟩
  | int i=>obtain ⟨t,q⟩:=(show ∃ t,u=Value.int i t from rx);cases q;exact ⟨_,PySem.W.kitx_int,True.intro,λ z=>nomatch z⟩
  | str y=>obtain ⟨t,q⟩:=(show ∃ t,u=Value.str y t from rx);cases q;exact ⟨_,PySem.W.kitx_str,True.intro,λ z=>nomatch z⟩
  | flt y=>obtain ⟨t,q⟩:=(show ∃ t,u=Value.float y t from rx);cases q;exact ⟨_,PySem.W.kitx_float,True.intro,λ z=>nomatch z⟩
  | @lst a xs ea =>
   cases (show u=Value.ref a from rx);obtain ⟨_,_,n,_,h1⟩:=(show ObjOk X.prog X.w H s.heap a (.lst xs) from I.hok a _ ea);exact ⟨_,PySem.W.kitx_list,⟨_,h1,rfl⟩,λ z=>nomatch z⟩
  | @frz a ob xs ea =>
   cases (show u=Value.ref a from rx);obtain ⟨_,_,_,n,_,h1⟩:=(show ObjOk X.prog X.w H s.heap a (.frz ob (.lst xs)) from I.hok a _ ea);exact ⟨_,PySem.W.kitx_list,⟨_,h1,rfl⟩,λ z=>nomatch z⟩
  | @tup a xs ea =>
   cases (show u=Value.ref a from rx);obtain ⟨_,_,_,p⟩:=(show ObjOk X.prog X.w H s.heap a (.tup xs) from I.hok a _ ea);obtain ⟨o,h1,h2,_⟩:=p;exact ⟨_,PySem.W.kitx_tuple,⟨o,h1,h2⟩,λ z=>nomatch z⟩
  | @dK a mW ea =>
   cases (show u=Value.ref a from rx);obtain ⟨_,_,vs,_,p⟩:=(show ObjOk X.prog X.w H s.heap a (.dK mW) from I.hok a _ ea);obtain ⟨o,es,ep,h1,h2,_⟩:=p;exact ⟨_,PySem.W.kitx_dict,⟨o,h1,h2.1⟩,λ z=>nomatch z⟩
  | @dT a mW ea =>
   cases (show u=Value.ref a from rx);obtain ⟨_,_,xs,_,o,es,ep,h1,h2,_⟩:=(show ObjOk X.prog X.w H s.heap a (.dT mW) from I.hok a _ ea);exact ⟨_,PySem.W.kitx_dict,⟨o,h1,h2.1⟩,λ z=>nomatch z⟩
  | @ins a C dx fs ea cl ha hn htk hm =>
   cases (show u=Value.ref a from rx);obtain ⟨mA,O,_⟩:=JC I.hok ea;obtain ⟨od,J,_⟩:=O.look;exact ⟨_,PySem.W.kitx_own (cl.get _) cl.hd ha hn htk hm,J,λ z=>nomatch z⟩
def zeF (K:A0):List V->Hp->VK->Prop:=λ xs H Q=>∃ x c t b,xs=[x,c]/\TyX K H x t/\((∃ u,zhU c=some u/\kitOne K t u=some b)\/(∃ p cs us,c=.ref p/\H p=some (.tup cs)/\zc4 cs=some us/\PySem.W.kitAny K t us=some b))/\Q (.bl b) H
def VY {X:Cx}:CallR X (.builtin "isinstance") (zeF X.K):=by
 intro m5 s σ H xs us Q I r h;obtain ⟨x,c,t,b,rfl,ty,hc,q⟩:=h;obtain ⟨v,v2,rfl,rx,rc⟩:=r.two;obtain ⟨Hx,Z,p,nx⟩:=zhz I rx ty;rcases hc with ⟨u,hu,e⟩|⟨pt,cs,us,rfl,hp,hu,e⟩
 ·obtain rfl:=zc5 hu rc;exact PySem.W.kia_one Z I.kIn p e nx λ tk=>⟨.bl b,H,I.tok tk,rfl,q⟩
 ·cases rc;obtain ⟨_,mX,rv,o,h1,h2,n,h3⟩:=(show ObjOk X.prog X.w H s.heap pt (.tup cs) from I.hok pt _ hp);obtain rfl:=za8 hu rv;obtain ⟨cl,dd,dt,sl⟩:=o;simp only at h2 h3;subst h2 h3;exact PySem.W.kia_tup Z I.kIn p h1 e nx λ tk=>⟨.bl b,H,I.tok tk,rfl,q⟩
def zdM {t:Am} {D:Addr} {b:Bool} (h1:hasDictIn K D=true) (h2:typeIn K (.ref D)=some (.type "type")) (h3:subIn K t (.ref D)=some b):kitCls K t (.ref D)=some b:=by
 obtain ⟨cd,hcd,_⟩:=f9 h1;simp [kitCls,hcd,h2,h3]
structure FK (K:A0) (C:Addr) (qual:Str) (st:Stmt) (ps:A8):Prop where
 ex:∃ f fd,Fun K "__init__" qual st f fd/\Mk K C f/\Binds K fd ps []
structure FM (K:A0) (C:Addr) (m qual:Str) (st:Stmt) (ps:A8):Prop where
 ex:∃ f fd,Fun K m qual st f fd/\Meth K C m f/\Binds K fd ps []
def FK.cal {P:Af} {w:World} {mg:A4} {base:Heap} {x:Str} {qual:Str} {k:Nat} {sp:Sp} (h:FK K C qual st ps) (gl:mg x=some (.ref C))
  (ok:∀ {f fd},Fun K "__init__" qual st f fd->FnOk P w K mg base (CXr P w) k f fd ps sp):KCal P w K mg base x C k ps [] sp:=by
 obtain ⟨f,fd,F,m,b⟩:=h.ex;exact ⟨gl,f,fd,[],ok F,m,b,.nil⟩
def FM.cal {P:Af} {w:World} {mg:A4} {base:Heap} {m qual:Str} {k:Nat} {sp:Sp} (h:FM K C m qual st ps) (cl:Cls K C)
  (ok:∀ {f fd},Fun K m qual st f fd->FnOk P w K mg base (CXr P w) k f fd ps sp):MCal P w K mg base C m k ps [] sp:=by
 obtain ⟨f,fd,F,mm,b⟩:=h.ex;exact ⟨cl,f,fd,[],ok F,mm,b,.nil⟩
def ziB {qual:Str} {f:Addr} {oc:Am} {od an:Aa} {osl:Ae} {kV doc pm cdv ct:Am} (mk:makesIn K C=true) (kc:keepIn K (.ref C)=true)
  (a:findIn K (.ref C) "__init__"=some (some (.ref f))) (i:isFn K (.ref f)=true) (l:K.lookup f=some ⟨oc,od,.func (fnOf "__init__" qual (zZ st) (zR st) (ze st) .none kV doc pm an cdv ct),osl⟩)
  (c:codeIn K cdv qual=true) (k:keepIn K (.ref f)=true)
  (hb:∀ (kV doc pm:Am) (an:Aa) (cdv ct:Am) (us:A7),us.length=ps.length->bindArgs (fnOf "__init__" qual (zZ st) (zR st) (ze st) .none kV doc pm an cdv ct) ⟨us,[]⟩=pure (ps.zip us)):FK K C qual st ps :=
 ⟨f,_,w6 l c k,⟨mk,a,i,kc⟩,(w6 l c k).binds hb⟩
def ziA {m qual:Str} {f:Addr} {oc:Am} {od an:Aa} {osl:Ae} {kV doc pm cdv ct:Am}
  (a:findIn K (.ref C) m=some (some (.ref f))) (i:isFn K (.ref f)=true) (l:K.lookup f=some ⟨oc,od,.func (fnOf m qual (zZ st) (zR st) (ze st) .none kV doc pm an cdv ct),osl⟩)
  (c:codeIn K cdv qual=true) (k:keepIn K (.ref f)=true)
  (hb:∀ (kV doc pm:Am) (an:Aa) (cdv ct:Am) (us:A7),us.length=ps.length->bindArgs (fnOf m qual (zZ st) (zR st) (ze st) .none kV doc pm an cdv ct) ⟨us,[]⟩=pure (ps.zip us)):FM K C m qual st ps :=
 ⟨f,_,w6 l c k,⟨a,i,k⟩,(w6 l c k).binds hb⟩
structure WI (K:A0) (C:Addr):Prop where
 c:findIn K (.ref C) "__class__"=some (some (.builtin "object.__class__"))
 m:mroIn K C (.type "object")=some true
 g:specialIn K (.builtin "object.__class__") "__get__"=some (some (.builtin "getset_descriptor.__get__"))
 t:takesIn K (.builtin "object.__class__")=some true
def WI.ty {H:Hp} {a C dx:Addr} {fs:Ar} (f:WI K C) (cl:Cls K C) (h:H a=some (.ins C dx fs)):TyX K H (.ref a) (.ref C):=.old (.ins h cl f.c f.g f.t f.m)
end L2
namespace L2
open PySem PySem.Spec PySem.Calls PyProof.Rows
section
variable {prog:Af} {w:World} {A:Ao} {E:A3} {s:An}
end
section
variable {X:Cx} {a e:Expr} {ta:TA} {te:TE} {pos p kp:Pos}
def ZB:SlR X (zhf X.K):=zfS
def Zk:CallR X (.type "list") (λ xs H Q=>∃ p ys,xs=[.ref p]/\(SqL X.K H p ys\/SqT X.K H p ys)/\∀ l,H l=none->Q (.ref l) (upd H l (.lst ys))):=VR
end
end L2
namespace L2
open PySem PySem.Spec PySem.Calls PyProof.Rows
section
variable {X:Cx} {v v1 v2:Expr} {es:List Expr} {te:TE} {pos p:Pos}
def zia (t u:TS):TS:=λ D σ H=>∃ M:St->Hp->Prop,t { D with nx:=M } σ H/\∀ σ' H',M σ' H'->u D σ' H'
def qg {st:Stmt} {rest:List Stmt} {t u:TS} (h1:PS X st t) (h2:PSs X rest u):PSs X (st :: rest) (zia t u):=by
 intro m5 s σ H D I ⟨M,ht,hu⟩;refine eZ (thn (h1 m5 s σ H _ I ht) λ f s1 q=>?_);cases f with
 | next=>exact let ⟨σ',H',I',q⟩:=q;h2 m5 s1 σ' H' D I' (hu σ' H' q)
 | _=>exact q
def zgN (t u:TS):TS:=λ D σ H=>tSeq t u D σ H
def zh {st:Stmt} {rest:List Stmt} {t u:TS} (h1:PS X st t) (h2:PSs X rest u):PSs X (st :: rest) (zgN t u):=show PSs X (st :: rest) (tSeq t u) from zg h1 h2
structure Nx (N:St->Hp->Prop) (u:TS) (D:Ends):Prop where
 h:∀ σ H,u D σ H->N σ H
def nxt {t u:TS} {D:Ends} {σ:St} {H:Hp} (k:∀ N,Nx N u D->t { D with nx:=N } σ H):zgN t u D σ H:=k (u D) ⟨λ _ _ h=>h⟩
def useN {N:St->Hp->Prop} {u:TS} {D:Ends} {σ:St} {H:Hp} (n:Nx N u D) (q:u D σ H):N σ H:=n.h σ H q
def cut {t u:TS} {D:Ends} {σ:St} {H:Hp} (M:St->Hp->Prop) (h1:t { D with nx:=M } σ H) (h2:∀ σ' H',M σ' H'->u D σ' H'):zia t u D σ H:=⟨M,h1,h2⟩
end
end L2
namespace L2
open PySem PySem.Spec PySem.Calls PyProof.Rows
section
variable {X:Cx} {k:Nat} {x m:Str} {p pos apos:Pos} {e o:Expr} {es:List Expr} {ta:TE} {t:TA}
def passF:zcs (CXr X.prog X.w) X (λ _ _ _=>False):=λ _ _ _ _ _ _ _ h=>let ⟨_,_,_,_,_,_,_,_,_,z⟩:=h;z.elim
def tClN (X:Cx) (k:Nat) (x:Str) (t:TA):TE:=λ σ H Q=>∃ ps dvs sp,Cal X.prog X.w X.K X.mg X.base x k ps dvs sp/\t σ H λ vs H1=>sp (vs ++ dvs) H1 Q (λ _ _ _=>False)
def ZN (hr:Room k X.A) (ha:PA X (e :: es) t) (hg:Gl X x:=by rfl) (hdb:(x == ("__debug__":Str))=false:=by decide)
  (he:starEach (e :: es) X.env=(false,eval e X.env) :: starEach es X.env:=by rfl) (hpl:(backTo pos (starEach es X.env)).any (·.1)=false:=by rfl) :
  PE X (.Call (.Name x p) (e :: es) [] pos) (tClN X k x t):=by
 intro m5 s σ H Q I h;obtain ⟨ps,dvs,sp,⟨f,fd,ds,F,hm,hk,hb,hd⟩,h⟩:=h;refine bu (x8 I hg hm ?_ hdb);refine dq (h₀:=X.base) I.ok.mod.kin hk (vt (ha pos m5 s σ H _ I h) λ us s1 vs H1 I1 r q=>⟨I1.kIn,?_⟩) he hpl;exact zbK F hr hb hd passF I1 r q
def tMkN (X:Cx) (k:Nat) (x:Str) (t:TA):TE:=λ σ H Q=>∃ C ps dvs sp,KCal X.prog X.w X.K X.mg X.base x C k ps dvs sp/\t σ H λ vs H1=>∀ y dx,H1 y=none->H1 dx=none->dx≠y ->
 sp (.ref y :: (vs ++ dvs)) (upd (upd H1 dx (.own y)) y (.ins C dx [])) (λ v H2=>v=.non/\Q (.ref y) H2) (λ _ _ _=>False)
def zhn (hr:Room (k + 1) X.A) (ha:PA X (e :: es) t) (hg:Gl X x:=by rfl) (hdb:(x == ("__debug__":Str))=false:=by decide)
  (he:starEach (e :: es) X.env=(false,eval e X.env) :: starEach es X.env:=by rfl) (hpl:(backTo pos (starEach es X.env)).any (·.1)=false:=by rfl) :
  PE X (.Call (.Name x p) (e :: es) [] pos) (tMkN X k x t):=by
 intro m5 s σ H Q I h;obtain ⟨C,ps,dvs,sp,⟨hm,f,fd,ds,F,M,hb,hd⟩,h⟩:=h;refine bu (x8 I hg hm ?_ hdb);refine dq (h₀:=X.base) I.ok.mod.kin M.kp (vt (ha pos m5 s σ H _ I h) λ us s1 vs H1 I1 r q=>⟨I1.kIn,?_⟩) he hpl;exact zeC M F hr hb hd passF I1 r q
def tMthN (X:Cx) (k:Nat) (m:Str) (ta:TE) (t:TA):TE:=λ σ H Q=>ta σ H λ y H1=>∃ a C dx fs ps dvs sp,y=.ref a/\H1 a=some (.ins C dx fs)/\fs.lookup m=none /\
 MCal X.prog X.w X.K X.mg X.base C m k ps dvs sp/\t σ H1 λ vs H2=>sp (.ref a :: (vs ++ dvs)) H2 Q (λ _ _ _=>False)
def zgc {pl:Sem Bool} (hr:Room k X.A) (he:PE X o ta) (ha:PA X (e :: es) t)
  (hst:starEach (e :: es) X.env=(false,eval e X.env) :: starEach es X.env:=by rfl) (hpl:(backTo pos (starEach es X.env)).any (·.1)=false:=by rfl)
  (ht:eval (.Call (.Attribute o m apos) (e :: es) [] pos) X.env=(do
   let ov <- eval o X.env
   standAt apos.atName
   let (f,first) <- holding [ov] (getMethod ov m pl)
   callWith pos f first (backTo pos (starEach (e :: es) X.env)) (backToKw pos (keywordEach [] X.env))):=by rfl) :
  PE X (.Call (.Attribute o m apos) (e :: es) [] pos) (tMthN X k m ta t):=by
 intro m5 s σ H Q I h;refine dJ (pl:=pl) (thn (he m5 s σ H _ I h) λ u s1 hz=>?_) ht;obtain ⟨x,H1,I1,rx,a,C,dx,fs,ps,dvs,sp,ex,ea,l,⟨c,f,fd,ds,F,hm,hb,hd⟩,q⟩:=hz;subst ex;obtain rfl:u=Value.ref a:=rx;refine wZ I1 ea c hm l ?_;refine dq (first:=[.ref a]) (h₀:=X.base) I.ok.mod.kin hm.kp (vt (ha pos m5 s1 σ H1 _ I1 q) λ us s2 vs H2 I2 r q2=>⟨I2.kIn,?_⟩) hst hpl;exact zbK (us:=.ref a :: us) (vs:=.ref a :: vs) F hr hb hd passF I2 (.cons rfl r) q2
def zeL {pl:Sem Bool} (hr:Room k X.A) (he:PE X o ta)
  (ht:eval (.Call (.Attribute o m apos) [] [] pos) X.env=(do
   let ov <- eval o X.env
   standAt apos.atName
   let (f,first) <- holding [ov] (getMethod ov m pl)
   callWith pos f first (backTo pos (starEach [] X.env)) (backToKw pos (keywordEach [] X.env))):=by rfl) :
  PE X (.Call (.Attribute o m apos) [] [] pos) (tMthN X k m ta tNil):=by
 intro m5 s σ H Q I h;refine dJ (pl:=pl) (thn (he m5 s σ H _ I h) λ u s1 hz=>?_) ht;obtain ⟨x,H1,I1,rx,a,C,dx,fs,ps,dvs,sp,ex,ea,l,⟨c,f,fd,ds,F,hm,hb,hd⟩,q⟩:=hz;subst ex;obtain rfl:u=Value.ref a:=rx;refine wZ I1 ea c hm l ?_;exact fS (first:=[.ref a]) I1.kIn hm.kp (zbK (us:=[.ref a]) (vs:=[.ref a]) F hr hb hd passF I1 (.cons rfl .nil) q)
end
noncomputable def jg (cells:List (Str × Addr)):List (Str × NameKind)->List (Str × Addr)->List (Str × Addr)
 | [],cs=>cs
 | (n,k) :: r,cs=>if k=.free then jg cells r ((n,(cells.lookup n).getD 0) :: cs) else jg cells r cs
def zd1 (cells:List (Str × Addr)) (ns:List (Str × NameKind)):Prop:=∀ y∈ns,y.2=.free->∃ c,cells.lookup y.1=some c
def Zv {scope:Scope} {env:Env} (h:zd1 env.cells scope.names):closureFor scope env=pure (jg env.cells scope.names []):=by
 simp only [closureFor];have key:∀ (ns:List (Str × NameKind)) (cs:List (Str × Addr)),zd1 env.cells ns ->
   (forIn ns cs λ x r=>if (x.2 == NameKind.free)=true then do let c <- cellOf env x.1;pure (ForInStep.yield ((x.1,c) :: r)) else pure (ForInStep.yield r):Sem (List (Str × Addr)))=pure (jg env.cells ns cs):=by
  intro ns
  induction ns with
  | nil=>intro cs _;rfl
  | cons y r ih =>
   intro cs hc;obtain ⟨n,k⟩:=y;have hr:zd1 env.cells r:=λ z hz=>hc z (aB _ hz);rw [fD];by_cases hk:k=.free
   ·subst hk;obtain ⟨c,e⟩:=hc (n,.free) bT rfl;have e':cellOf env n=pure c:=by unfold cellOf;simp only at e;rw [e]
    simp only [beq_self_eq_true,d7,e',pure_bind];rw [ih _ hr];simp only at e;simp [jg,e]
   ·have hb:(k == NameKind.free)=false:=by simpa using hk
    simp only [hb,cu,dL,pure_bind];rw [ih _ hr];simp [jg,hk]
 have:=key scope.names [] h
 first
  | exact this
  | (simp only [bind_pure] at *;exact this)
theorem ZU {cells:List (Str × Addr)} {x:Str} {c:Addr}:∀ {ns:List (Str × NameKind)} {cs:List (Str × Addr)},zd1 cells ns->(∀ c,cs.lookup x=some c->cells.lookup x=some c)->(jg cells ns cs).lookup x=some c->cells.lookup x=some c
 | [],_,_,hs,h=>hs c h
 | (n,k) :: r,cs,hc,hs,h=>by
  have hr:zd1 cells r:=λ z hz=>hc z (aB _ hz);unfold jg at h
  split at h
  ·rename_i hk;obtain ⟨d,e⟩:=hc (n,k) bT hk;refine ZU hr (λ c' hc'=>?_) h;rw [cA] at hc'
   split at hc'
   ·rename_i hx;have hx:x=n:=by simpa using hx
    subst hx;simp only at e;rw [e] at hc' ⊢;exact hc'
   ·exact hs c' hc'
  ·exact ZU hr hs h
theorem vU {cells:List (Str × Addr)} {x:Str}:∀ {ns:List (Str × NameKind)} {cs:List (Str × Addr)},(∃ c,cs.lookup x=some c)->∃ c,(jg cells ns cs).lookup x=some c
 | [],_,h=>h
 | (n,k) :: r,cs,h=>by
  unfold jg
  split
  ·refine vU ?_;rw [cA]
   split
   ·exact ⟨_,rfl⟩
   ·exact h
  ·exact vU h
theorem ZT {cells:List (Str × Addr)} {x:Str}:∀ {ns:List (Str × NameKind)} {cs:List (Str × Addr)},(x,NameKind.free)∈ns->∃ c,(jg cells ns cs).lookup x=some c
 | [],_,h=>by simp at h
 | (n,k) :: r,cs,h=>by
  unfold jg;rcases aw.mp h with h|h
  ·cases h;rw [ap rfl];exact vU ⟨(cells.lookup x).getD 0,by rw [cA];simp⟩
  ·split <;> exact ZT h
noncomputable def zeD (scope osc:Scope):Scope :=
 { scope with names:=scope.names.map λ (n,k)=>if (k == .free && osc.kind == .function && osc.names.lookup n == some .cell) then (n,.cell) else (n,k) }
def zbO {scope osc:Scope} {x:Str} (hcell:∀ y∈scope.names,y.2≠.cell) (h:(zeD scope osc).names.lookup x=some .cell\/(zeD scope osc).names.lookup x=some .free):(x,NameKind.free)∈scope.names:=by
 have key:∀ k,(k=.cell\/k=.free)->(zeD scope osc).names.lookup x=some k->(x,NameKind.free)∈scope.names:=λ k hk hl=>by
  have hm:=bD hl;obtain ⟨⟨n,k'⟩,hm',e⟩:=bc.mp hm;simp only at e
  split at e
  ·rename_i hc;simp only [dm,bx] at hc;cases e;rw [<- hc.1.1];exact hm'
  ·cases e;rcases hk with rfl|rfl
   ·exact absurd rfl (hcell _ hm')
   ·exact hm'
 rcases h with h|h
 ·exact key _ (.inl rfl) h
 ·exact key _ (.inr rfl) h
noncomputable def cxC (X:Cx) (N:A8) (scope:Scope) (s:An) (H:Hp) (fp:Ab) (m5:A2):Cx where
 prog:=X.prog
 w:=X.w
 K:=X.K
 mg:=X.mg
 base:=X.base
 A:=X.A
 N:=N
 s₀:=s
 H₀:=H
 env:=compEnvC scope (jg X.env.cells scope.names []) s.heap.objs.size X.env
 outer:=X.stack
 stack:=X.stack
 ex:=fp
 fn:=λ _=>false
 calm:=X.calm
 pn:=X.pn ++ m5
 xe:=λ _ _=>False
noncomputable def stC (nv:Nat) (caps:Aj) (σ:St):St:=List.replicate nv none ++ caps.map λ k=>(σ[k]?).getD none
structure CompOk (osc scope:Scope) (ON:A8) (vars:A8) (caps:Aj):Prop where
 kind:scope.kind=.function
 cell:∀ y∈scope.names,y.2≠.cell
 loc:∀ y∈scope.names,y.2=.local->scope.names.lookup y.1=some .local
 free:∀ y∈scope.names,y.2=.free->osc.names.lookup y.1=some .cell\/osc.names.lookup y.1=some .free
 caps:∀ k∈caps,k < ON.length/\scope.names.lookup (ON.getD k Str.empty)=some .free
noncomputable def zc3 (osc scope:Scope) (ON:A8) (caps:Aj):Bool :=
 scope.kind == .function && scope.names.all (λ y=>y.2 != .cell) && scope.names.all (λ y=>y.2 != .local || scope.names.lookup y.1 == some .local) &&
 scope.names.all (λ y=>y.2 != .free || (osc.names.lookup y.1 == some .cell || osc.names.lookup y.1 == some .free)) && caps.all λ k=>decide (k < ON.length) && scope.names.lookup (ON.getD k Str.empty) == some .free
def za6 {osc scope:Scope} {ON vars:A8} {caps:Aj} (h:zc3 osc scope ON caps=true):CompOk osc scope ON vars caps:=by
 simp only [zc3,dm,dj,bx,bne_iff_ne,Bool.or_eq_true,da] at h;obtain ⟨⟨⟨⟨h1,h2⟩,h3⟩,h4⟩,h5⟩:=h;refine ⟨h1,h2,λ y hy e=>(h3 y hy).resolve_left (λ z=>z e),λ y hy e=>(h4 y hy).resolve_left (λ z=>z e),λ k hk=>h5 k hk⟩
theorem J6 {osc:Scope} {x:Str}:∀ {ns:List (Str × NameKind)},ns.lookup x=some .free ->
  (ns.map λ (n,k)=>if (k == NameKind.free && osc.kind == .function && osc.names.lookup n == some .cell) then (n,NameKind.cell) else (n,k)).lookup x=some .cell \/
  (ns.map λ (n,k)=>if (k == NameKind.free && osc.kind == .function && osc.names.lookup n == some .cell) then (n,NameKind.cell) else (n,k)).lookup x=some .free
 | [],h=>by simp at h
 | (n,k) :: r,h=>by
  have ih:=@J6 osc x r;rw [bM];show List.lookup x ((if (k == NameKind.free && osc.kind == .function && osc.names.lookup n == some .cell)=true then (n,NameKind.cell) else (n,k)) :: _)=_\/List.lookup x ((if (k == NameKind.free && osc.kind == .function && osc.names.lookup n == some .cell)=true then (n,NameKind.cell) else (n,k)) :: _)=_
  cases hx:x == n with
  | true =>
   simp only [cA,hx] at h;cases h
   split
   ·exact .inl (by simp [cA,hx])
   ·exact .inr (by simp [cA,hx])
  | false =>
   simp only [cA,hx] at h
   split <;> (simp only [cA,hx];exact ih h)
section
variable {X:Cx} {m5:A2} {σ:St} {H:Hp} {s:An} {fp:Ab} {N vars:A8} {caps:Aj} {scope osc:Scope}
theorem zfc (I:Inv X m5 σ H s) (hosc:X.env.scope=osc) (C:CompOk osc scope X.N vars caps) (hN:N=vars ++ caps.map λ k=>X.N.getD k Str.empty)
  (hf:∀ b∈fp,QX X m5 H b) (hfo:∀ b∈fp,∃ o,s.heap.get? b=some o)
  {h':Heap} {tk:Nat} {mm:A4} (hns:h'.Ns s.heap.objs.size mm) (hk:∀ b o,s.heap.get? b=some o->h'.get? b=some o) :
  Inv (cxC X N scope s H fp m5) [] (stC vars.length caps σ) H { s with heap:=h',toks:=tk }:=by
 have hkf:∀ y∈scope.names,y.2=.free->X.env.kindOf y.1=some .cell\/X.env.kindOf y.1=some .free:=λ y hy e=>by
  have z:=C.free y hy e;rw [<- hosc] at z;exact z
 have hcl:zd1 X.env.cells scope.names:=λ y hy e=>I.ok.has y.1 (hkf y hy e);have get:∀ x c,(jg X.env.cells scope.names []).lookup x=some c->X.env.cells.lookup x=some c:=λ x c h=>ZU hcl (λ c h=>by simp at h) h;refine ⟨⟨I.ok.mod,C.kind,I.ok.glob,I.ok.blt,aq _,λ x y c h1 h2=>I.ok.inj x y c (get x c h1) (get y c h2),λ x hx=>ZT (zbO (osc:=X.env.scope) C.cell hx),λ _ _ h _=>Bool.noConfusion h,I.ok.hd,I.ok.frames,.inl rfl,
   λ b hb=>⟨?_,λ x c h=>(hf b hb).2.2.2.2.1 x c (get x c h)⟩,I.bs,ba I.ok.bsz I.sz,λ b o e hb=>?_,λ b hb z=>(aw.mp (I.stkSub b z)).elim (hf b hb).2.1 (hf b hb).2.2.1,I.stack,I.stkFree⟩,
  rfl,I.bare,Un.kept hk,⟨_,hns,λ i x v e1 e2 e3=>?_⟩,λ x c h=>?_,I.hok.fresh (aq _),λ x c h=>I.freeC x c (get x c h),λ p hp=>?_,I.hok.kept hk,?_⟩
 ·obtain ⟨o,e⟩:=hfo b hb;exact aK (az e)
 ·rcases (hf b hb).2.2.2.1 with z|z
  ·exact I.ok.noex b o e z
  ·exact absurd (aI (az (I.ok.bs b o e).1) z) (cI _)
 ·have hi:¬ i < vars.length:=λ hi=>by
   unfold stC at e2;rw [aT (by simpa using hi),dg] at e2
   split at e2 <;> cases e2
  have e1':(vars ++ caps.map λ k=>X.N.getD k Str.empty)[i]?=some x:=by rw [<- hN];exact e1
  unfold stC at e2;rw [aJ (by simpa using hi),a8,aj] at e2;rw [aJ (by omega),aj] at e1';cases ek:caps[i - vars.length]? with
  | none=>rw [ek] at e2;cases e2
  | some k =>
   rw [ek] at e1' e2;obtain ⟨hkl,hlk⟩:=C.caps k (ah ek);have ex:X.N.getD k Str.empty=x:=by simpa using e1'
   have es:σ[k]?.getD none=some v:=by simpa using e2
   have es':σ[k]?=some (some v):=by
    cases q:σ[k]? with
    | none=>rw [q] at es;cases es
    | some z=>rw [q] at es;simp only [aS] at es;rw [es]
   have eN:X.N[k]?=some x:=by
    rw [<- ex,ae,ac hkl];rfl
   rw [ex] at hlk;have hm:(x,NameKind.free)∈scope.names:=bD hlk;have hkx:=hkf _ hm rfl;obtain ⟨m,_,hl⟩:=I.loc;obtain ⟨u,r,L⟩:=hl k x v eN es' (hkx.elim (λ z=>.inr (.inl z)) λ z=>.inr (.inr z));refine ⟨u,r,.inr ⟨J6 (osc:=X.env.scope) hlk,?_⟩⟩;obtain ⟨c',ec⟩:=ZT (cells:=X.env.cells) (cs:=[]) hm;rcases L with ⟨z,_⟩|⟨_,c,ec2,o,ho,hd⟩
   ·rcases hkx with y|y <;> (simp only at y;rw [y] at z;cases z)
   ·have z:=get x c' ec;rw [ec2] at z;obtain rfl:c=c':=aN z;exact ⟨c,ec,o,hk _ _ ho,hd⟩
 ·obtain ⟨v,o,ho,hd⟩:=I.cell x c (get x c h);exact ⟨v,o,hk _ _ ho,hd⟩
 ·have hp':p∈X.pn ++ m5:=by simpa [cxC] using hp
  obtain ⟨e,n,ne,nf,d⟩:=I.pin p hp';exact ⟨hk _ _ e,n,aK (az e),λ z=>(aw.mp (I.stkSub _ z)).elim ne nf,d⟩
 ·show (stC vars.length caps σ).length=N.length
  rw [hN];simp [stC]
def zb9 {σ':St} {H':Hp} {s':An} (I:Inv X m5 σ H s) (hf:∀ b∈fp,QX X m5 H b) (I':Inv (cxC X N scope s H fp m5) [] σ' H' s'):Inv X m5 σ H' s' :=
 I.call' (ch:=fp) I'.os I'.base I'.hok I'.bare λ b hb=>⟨(hf b hb).2.2.2.1,(hf b hb).2.1,(hf b hb).2.2.2.2.1,(hf b hb).2.2.2.2.2⟩
end
section
variable {prog:Af} {w:World} {A:Ao} {R:Result->Shared->Prop} {s:An}
abbrev NoX:Value->Shared->Prop:=λ _ _=>False
theorem zd0 {elt target iter:Expr} {ifs:List Expr} {scope:Scope} {pos:Pos} {it mY:Am} {env:Env} (I:Nat->Shared->Prop)
  (turn:∀ n s,I n s->wpAny (model prog w) A (pyNext it) (λ r s₁=>match r with
   | none=>R (.ok .next) s₁
   | some v=>wpAny (model prog w) A (letOwnedTupleGo target it v) (λ _ s₁'=>wpAny (model prog w) A (assign target env v) (λ _ s₂ =>
     wpAny (model prog w) A (forIn ifs true λ c r=>if r=true then do let ok <- isTrue c env (eval c env);pure (ForInStep.yield ok) else pure (ForInStep.yield r)) (λ ok s₃ =>
      if ok=true then wpAny (model prog w) A (eval elt env) (λ x s₄ =>
       wpAny (model prog w) A (call (.builtin "list.append") [mY,x]) (λ _ s₅=>∃ m,m < n/\I m s₅) NoX s₄) NoX s₃
      else ∃ m,m < n/\I m s₃) NoX s₂) NoX s₁') NoX s₁) NoX s)
  (n:Nat) (h:I n s) :
  codeAny (model prog w) A (.compLoop (.ListComp elt [⟨target,iter,ifs,0⟩] scope pos) 0 it mY env) R s:=by
 refine codeAny_loop rfl I (λ n s hI=>?_) n h;show wpAny _ A ((compTurn (.ListComp elt [⟨target,iter,ifs,0⟩] scope pos) 0 it mY env).onRaise (λ x=>do noteFrame x env;theTreesLotGoes x)) _ _ s
 refine wpAny_noted ?_;rw [compTurn_list];refine ad (fW (ad (aU (turn n s hI) (λ r s₁ h₁=>?_) λ _ _ h'=>h'.elim)));cases r with
 | none=>exact aC h₁
 | some v =>
  refine ad (aU h₁ (λ _ s₁' h₁'=>?_) λ _ _ h'=>h'.elim);refine ad (aU h₁' (λ _ s₂ h₂=>ad (aU h₂ (λ ok s₃ h₃=>?_) λ _ _ h'=>h'.elim)) λ _ _ h'=>h'.elim);cases ok with
  | false=>exact aC ⟨rfl,h₃⟩
  | true =>
   exact ad (ad (aU h₃ (λ x s₄ h₄=>ad (aU h₄ (λ _ s₅ h₅=>aC (aC ⟨rfl,h₅⟩)) λ _ _ h'=>h'.elim)) λ _ _ h'=>h'.elim))
end
def zfJ (X:Cx) (ifs:List Expr) (t:TT):Prop :=
 ∀ (m5:A2) (s:An) (σ:St) (H:Hp) (Q:Bool->Hp->Prop),Inv X m5 σ H s->t σ H Q ->
  wpAny (model X.prog X.w) X.A (forIn ifs true λ c r=>if r=true then do let ok <- isTrue c X.env (eval c X.env);pure (ForInStep.yield ok) else pure (ForInStep.yield r)) (TP X m5 σ Q) X.xe s
def tYes:TT:=λ _ H Q=>Q true H
def qk {X:Cx}:zfJ X [] tYes:=λ _ _ _ H _ I h=>wpAny_tests_nil ⟨H,I,h⟩
def zcz {X:Cx} {c:Expr} {t:TT} (h:PT X c t):zfJ X [c] t:=λ m5 s σ H Q I hw=>wpAny_tests_one (h m5 s σ H Q I hw)
abbrev CB (α:Type):=Shared->Hp->List Addr->List (Addr × Obj)->α
def tLc (wi:TI) (nv:Nat) (caps:Aj) (g:CB TG) (tt:CB TT) (te:CB TE):TE:=λ σ H Q=>wi σ H λ J H1=>∀ (s3:An) (H3:Hp) (fp:Ab) (pns:A2) mY,H1 mY=none ->
 ∃ W:Nat->Nat->St->Hp->Prop,(∃ m,W 0 m (stC nv caps σ) (upd H1 mY (.lst [])))/\∀ i m σ' H',W i m σ' H' ->
  (J.stop i H'/\Q (.ref mY) H')\/(J.go i H'/\∃ N:St->Hp->Prop,(∀ σ'' H'',N σ'' H''->∃ m',m' < m/\W (i + 1) m' σ'' H'')/\∀ x H'',J.yld i H' x H''->g s3 H3 fp pns x σ' H'' λ σ2 H2=>tt s3 H3 fp pns σ2 H2 λ b H5 =>
   if b=true then te s3 H3 fp pns σ2 H5 λ y H4=>∃ ys,H4 mY=some (.lst ys)/\ys.length < sizeLine/\N σ2 (upd H4 mY (.lst (ys ++ [y]))) else N σ2 H5)
section
variable {X:Cx} {elt target iter:Expr} {ifs:List Expr} {scope osc:Scope} {pos:Pos} {wi:TI} {g:CB TG} {tt:CB TT} {te:CB TE} {N vars:A8} {caps:Aj}
theorem XH {m5:A2} {σ:St} {H2:Hp} {s2:An} {it:Addr} {fp:Ab} {tn:Nat->Heap->Prop} {J:It} {Q:VK} {RR:Value->Addr->Result->Shared->Prop} {E:A3}
  (hosc:X.env.scope=osc) (C:CompOk osc scope X.N vars caps) (hN:N=vars ++ caps.map λ k=>X.N.getD k Str.empty) (hc:X.calm=true)
  (hg:∀ s H fp m5,PG (cxC X N scope s H fp m5) target (g s H fp m5)) (ht:∀ s H fp m5,zfJ (cxC X N scope s H fp m5) ifs (tt s H fp m5)) (he:∀ s H fp m5,PE (cxC X N scope s H fp m5) elt (te s H fp m5))
  (I2:Inv X m5 σ H2 s2) (T:Turn X.prog X.w X.K target J fp it tn) (st2:tn 0 s2.heap) (hf:∀ b∈fp,QX X m5 H2 b)
  (h:∀ (s3:An) (H3:Hp) (fp:Ab) (pns:A2) mY,H2 mY=none->∃ W:Nat->Nat->St->Hp->Prop,(∃ m,W 0 m (stC vars.length caps σ) (upd H2 mY (.lst [])))/\∀ i m σ' H',W i m σ' H' ->
   (J.stop i H'/\Q (.ref mY) H')\/(J.go i H'/\∃ N:St->Hp->Prop,(∀ σ'' H'',N σ'' H''->∃ m',m' < m/\W (i + 1) m' σ'' H'')/\∀ x H'',J.yld i H' x H''->g s3 H3 fp pns x σ' H'' λ σ2 H2=>tt s3 H3 fp pns σ2 H2 λ b H5 =>
    if b=true then te s3 H3 fp pns σ2 H5 λ y H4=>∃ ys,H4 mY=some (.lst ys)/\ys.length < sizeLine/\N σ2 (upd H4 mY (.lst (ys ++ [y]))) else N σ2 H5))
  (hRR:∀ mY C s' H' m,Inv X m5 σ H' s'->Q (.ref mY) H'->s'.heap.Ns C m->H' C=none->C≠X.env.locals->X.s₀.heap.objs.size<=C->(∀ x c,X.env.cells.lookup x=some c->c≠C)->(∀ p∈X.pn ++ m5,p.1≠C)->RR (.ref mY) C (.ok .next) s') :
  wpAny (model X.prog X.w) X.A (newList []) (λ mY s₃=>wpAny (model X.prog X.w) X.A (newFunctionEnv scope X.env.globals (jg X.env.cells scope.names []) [] X.env.qual none .none (some X.env)) (λ cenv s₄ =>
   codeAny (model X.prog X.w) X.A (.compStart (.ListComp elt [⟨target,iter,ifs,0⟩] scope pos) 0 (.ref it) mY { cenv with scope:=relabel scope X.env }) (RR mY cenv.locals) s₄) E s₃) E s2:=by
 refine du (wpAny_newFunctionEnv C.cell (by intro y hy;simp at hy) (λ h₁ hns₁ hsb₁=>?_) C.kind);obtain ⟨W,⟨m0,w0⟩,turn⟩:=h { s2 with heap:=s2.heap.push { cls:=.type "list",dict:=none,data:=.seq ([]:A7).toArray } } (upd H2 s2.heap.objs.size (.lst [])) fp m5 s2.heap.objs.size I2.fresh;have I3:Inv X m5 σ (upd H2 s2.heap.objs.size (.lst [])) { s2 with heap:=s2.heap.push { cls:=.type "list",dict:=none,data:=.seq ([]:A7).toArray } }:=I2.lnew (mX:=[]) (t':=s2.toks) .nil (by decide);dsimp only at hns₁ hsb₁ ⊢;have hfo:∀ b∈fp,∃ o,s2.heap.get? b=some o:=λ b hb=>let ⟨o,e,_⟩:=T.obj _ _ st2 b hb;⟨o,e⟩
 have hf3:∀ b∈fp,QX X m5 (upd H2 s2.heap.objs.size (.lst [])) b:=λ b hb=>by
  refine ⟨?_,(hf b hb).2⟩;obtain ⟨o,e⟩:=hfo b hb;rw [nz (aK (az e))];exact (hf b hb).1
 generalize hs3:({ s2 with heap:=s2.heap.push { cls:=.type "list",dict:=none,data:=.seq ([]:A7).toArray } }:An)=s3 at I3 turn;have eh:s2.heap.push { cls:=.type "list",dict:=none,data:=.seq ([]:A7).toArray }=s3.heap:=by rw [<- hs3]
 have old:∀ b o,s2.heap.get? b=some o->s3.heap.get? b=some o:=λ b o e=>by rw [<- eh];exact ai _ e
 rw [eh] at hns₁ hsb₁ ⊢;have es:({ s2 with heap:=h₁,toks:=s2.toks + ([]:List (Str × Value)).length }:An)={ s3 with heap:=h₁,toks:=s2.toks }:=by rw [<- hs3];rfl
 rw [es];generalize hH3:upd H2 s2.heap.objs.size (.lst [])=H3 at *;have hk:∀ b o,s3.heap.get? b=some o->h₁.get? b=some o:=λ b o e=>hsb₁.extBut b o (aK (az e)) (ai _ e);have I4:Inv (cxC X N scope s3 H3 fp m5) [] (stC vars.length caps σ) H3 { s3 with heap:=h₁,toks:=s2.toks }:=zfc I3 hosc C hN hf3 (λ b hb=>let ⟨o,e⟩:=hfo b hb;⟨o,old b o e⟩) hns₁ hk;have st4:tn 0 h₁:=T.keep _ _ _ st2 λ b hb o e=>hk b o (old b o e);have stat:∀ {H':Hp},(∀ b∈fp,H' b=none)->∀ b∈fp,QX (cxC X N scope s3 H3 fp m5) [] H' b:=λ hn b hb =>
  ⟨hn b hb,(I4.ok.exf b hb).1,I4.ok.exfs b hb,.inl hb,(I4.ok.exf b hb).2,λ p hp=>(hf b hb).2.2.2.2.2 p (by simpa [cxC] using hp)⟩
 have loop:∀ s4:Shared,s4={ s3 with heap:=h₁,toks:=s2.toks } ->
   codeAny (model X.prog X.w) X.A (.compLoop (.ListComp elt [⟨target,iter,ifs,0⟩] scope pos) 0 (.ref it) (.ref s2.heap.objs.size) (cxC X N scope s3 H3 fp m5).env) (RR (.ref s2.heap.objs.size) s3.heap.objs.size) s4:=by
  rintro s4 rfl;refine zd0 (λ n s'=>∃ i σ' H',Inv (cxC X N scope s3 H3 fp m5) [] σ' H' s'/\tn i s'.heap/\(∀ b∈fp,H' b=none)/\W i n σ' H') ?_ m0 ⟨0,_,H3,I4,st4,λ b hb=>(hf3 b hb).1,w0⟩;rintro n s5 ⟨i,σ5,H5,I5,st5,fr5,w5⟩;rcases turn i n σ5 H5 w5 with ⟨stop,qn⟩|⟨go,NN,hNN,step⟩
  ·refine thn (T.done (cxC X N scope s3 H3 fp m5) rfl rfl rfl hc i [] s5 σ5 H5 NoX I5 (stat fr5) st5 stop) λ r s6 ⟨hr,I6⟩=>?_;subst hr;obtain ⟨m,hn,_⟩:=I6.loc;have hlt:∀ b o,s3.heap.get? b=some o->b≠s3.heap.objs.size:=λ b o e=>aK (az e);obtain ⟨m3,⟨oL,_,_,hoL,_⟩,_⟩:=I3.loc;refine hRR _ _ s6 H5 m (zb9 I3 hf3 I6) qn hn I6.free (λ z=>hlt _ _ hoL z.symm) I3.sz (λ x c ec z=>?_) λ p hp z=>hlt _ _ (I3.pin p hp).1 z;obtain ⟨v,o,ho,_⟩:=I3.cell x c ec;exact hlt _ _ ho z
  ·refine thn (T.item (cxC X N scope s3 H3 fp m5) rfl rfl rfl hc i [] s5 σ5 H5 NoX I5 (stat fr5) st5 go) λ r s6 ⟨u,hr,h6⟩=>?_;subst hr;refine thn h6 λ _ s7 ⟨x,H7,I7,r7,y7,st7,fr7⟩=>?_;have I7':=I7.pinned (stat fr7) (T.obj _ _ st7);have again:∀ {σ8:St} {H8:Hp} {s8:An},Inv (cxC X N scope s3 H3 fp m5) ([] ++ Xb fp s7.heap) σ8 H8 s8->NN σ8 H8->∃ m,m < n/\∃ i σ' H',Inv (cxC X N scope s3 H3 fp m5) [] σ' H' s8/\tn i s8.heap/\(∀ b∈fp,H' b=none)/\W i m σ' H':=λ {σ8 H8 s8} I8 n8=>by
    obtain ⟨m',hm,w8⟩:=hNN σ8 H8 n8;refine ⟨m',hm,i + 1,σ8,H8,I8.unpinned,T.keep _ _ _ st7 λ b hb o e=>(I8.pin (b,o) (aX _ (aX _ (wX hb e)))).1,λ b hb=>?_,w8⟩;obtain ⟨o,e,d⟩:=T.obj _ _ st7 b hb;exact (I8.pin (b,o) (aX _ (aX _ (wX hb e)))).2.1
   refine thn (hg s3 H3 fp m5 _ s7 σ5 H7 x u _ I7' r7 (step x H7 y7)) λ _ s8 ⟨σ8,H8,I8,q8⟩=>?_;refine thn (ht s3 H3 fp m5 _ s8 σ8 H8 _ I8 q8) λ b s9 ⟨H9,I9,q9⟩=>?_;cases b with
   | false=>exact again I9 q9
   | true =>
    refine qM (he s3 H3 fp m5 _ s9 σ8 H9 _ I9 q9) λ v s10 y H10 I10 r10 qq_=>?_;obtain ⟨ys,ea,hz,q10⟩:=qq_;refine thn (zL (X:=cxC X N scope s3 H3 fp m5) _ s10 σ8 H10 (.ref s2.heap.objs.size) [y] (.ref s2.heap.objs.size) [v] (λ _ H'=>NN σ8 H') I10 rfl (.cons r10 .nil) ⟨_,ys,y,rfl,rfl,ea,hz,q10⟩) λ _ s11 ⟨_,H11,I11,_,q11⟩=>?_;exact again I11 q11
 exact codeAny_compStart_list (loop _ rfl) (T.self X.A 0 _ _ _ st4 (loop _ rfl))
def jK {ON:A8} (hosc:X.env.scope=osc) (hON:X.N=ON) (hB:zc3 osc scope ON caps=true) (hN:N=vars ++ caps.map λ k=>ON.getD k Str.empty) (hc:X.calm=true) (hi:PI X target iter wi)
  (hg:∀ s H fp m5,PG (cxC X N scope s H fp m5) target (g s H fp m5)) (ht:∀ s H fp m5,zfJ (cxC X N scope s H fp m5) ifs (tt s H fp m5)) (he:∀ s H fp m5,PE (cxC X N scope s H fp m5) elt (te s H fp m5))
  (hs:∀ x,foldedSetIterable iter X.env x=pure x:=by intro _;rfl):PE X (.ListComp elt [⟨target,iter,ifs,0⟩] scope pos) (tLc wi vars.length caps g tt te):=by
 subst hON;intro m5 s σ H Q I h;have C:CompOk osc scope X.N vars caps:=za6 hB;have hclos:closureFor scope X.env=pure (jg X.env.cells scope.names []):=Zv λ y hy e=>I.ok.has y.1 (by have z:=C.free y hy e;rw [<- hosc] at z;exact z);rw [eval_ListComp];refine fX (use:=none) rfl hs hclos C.kind C.loc (thn (hi m5 s σ H _ I h) λ v s1 h1=>thn h1 λ itv s2 h2=>?_);obtain ⟨it,fp,tn,J,H2,e,I2,T,st2,f2,hw⟩:=h2;subst e;refine XH (N:=N) (RR:=λ mY Cc=>compPost (model X.prog X.w) X.A X.xe none (EP X m5 σ Q) mY Cc) hosc C hN hc hg ht he I2 T st2 f2 hw λ mY Cc s' H' m I' q hn hC hL hsz hcc hpp=>?_;refine ⟨m,hn,λ h' hs'=>⟨.ref mY,H',?_,rfl,q⟩⟩;exact I'.turned (t':=s'.toks) (it:=Cc) (λ b o hb e=>(hs'.2 b hb).trans e) hC (λ z=>hL z) (.inr hsz) hcc hpp
def Wq {ON:A8} {i:Nat} {x:Str} {pos' spos:Pos} (hNd:X.N.Nodup) (hix:X.N[i]?=some x) (hx:Loc X.env.scope x)
  (hosc:X.env.scope=osc) (hON:X.N=ON) (hB:zc3 osc scope ON caps=true) (hN:N=vars ++ caps.map λ k=>ON.getD k Str.empty) (hc:X.calm=true) (hi:PI X target iter wi)
  (hg:∀ s H fp m5,PG (cxC X N scope s H fp m5) target (g s H fp m5)) (ht:∀ s H fp m5,zfJ (cxC X N scope s H fp m5) ifs (tt s H fp m5)) (he:∀ s H fp m5,PE (cxC X N scope s H fp m5) elt (te s H fp m5))
  (hsw:swapsWith (.ListComp elt [⟨target,iter,ifs,0⟩] scope pos) (some (.Name x pos')) spos.line X.env=pure true:=by rfl)
  (hf:X.fn x=true\/X.env.scope.names.lookup x=some .local:=by walk_at "p")
  (hs:∀ x,foldedSetIterable iter X.env x=pure x:=by intro _;rfl):PS X (.Assign [.Name x pos'] (.ListComp elt [⟨target,iter,ifs,0⟩] scope pos) spos) (tAsg (tLc wi vars.length caps g tt te) (gName i)):=by
 subst hON;intro m5 s σ H D I h;have C:CompOk osc scope X.N vars caps:=za6 hB;have hclos:closureFor scope X.env=pure (jg X.env.cells scope.names []):=Zv λ y hy e=>I.ok.has y.1 (by have z:=C.free y hy e;rw [<- hosc] at z;exact z);rw [exec_Assign_Name_used _ _ _ _ hsw];refine ad (fW (ad ?_));show wpAny _ X.A (do let _ <- comprehension (.ListComp elt [⟨target,iter,ifs,0⟩] scope pos) scope X.env _ (newList []) false (eval iter X.env) (some (assign (.Name x pos') X.env))) _ _ s
 refine ad (aU (fX (use:=some (assign (.Name x pos') X.env)) (Q:=λ _ s'=>SP X m5 D .next s') rfl hs hclos C.kind C.loc (thn (hi m5 s σ H _ I h) λ v s1 h1=>thn h1 λ itv s2 h2=>?_)) (λ _ s' hq=>aC (aC hq)) λ _ _ e=>e);obtain ⟨it,fp,tn,J,H2,e,I2,T,st2,f2,hw⟩:=h2;subst e;refine XH (N:=N) (Q:=λ v H1=>gName i v σ H1 D.nx) (RR:=λ mY Cc=>compPost (model X.prog X.w) X.A X.xe (some (assign (.Name x pos') X.env)) (λ _ s'=>SP X m5 D .next s') mY Cc) hosc C hN hc hg ht he I2 T st2 f2 hw λ mY Cc s' H' m I' q hn hC hL hsz hcc hpp=>?_;refine wpAny_assign_Name (Wj I' hNd hix hx (v:=.ref mY) rfl (λ s3 I3 ⟨a,sb,ha⟩=>?_) hf);have hne:Cc≠a:=λ z=>by
  rcases ha with e|e
  ·exact hL (z.trans e)
  ·exact hcc x a e z.symm
 refine ⟨m,hn.sameBut sb hne,λ h' hs'=>⟨_,H',?_,q⟩⟩;exact I3.turned (t':=s3.toks) (it:=Cc) (λ b o hb e=>(hs'.2 b hb).trans e) hC (λ z=>hL z) (.inr hsz) hcc hpp
end
end L2
namespace L2
open PySem PySem.Spec PySem.Calls PyProof.Rows
variable {b:Bool} {Q:A3} {i:Nat} {X:Cx}
section
variable {X:Cx} {m5:A2} {σ:St} {H:Hp} {s:An} {h':Heap} {ch:Ab}
def Inv.turnNew {T:Addr} {o:HO} {t':Nat} (I:Inv X m5 σ H s) (hch:∀ b∈ch,QX X m5 H b) (hT:s.heap.objs.size<=T) (keep:∀ b o,b ∉ ch->s.heap.get? b=some o->h'.get? b=some o)
  (new:ObjOk X.prog X.w (upd H T o) h' T o):Inv X m5 σ (upd H T o) { s with heap:=h',toks:=t' }:=by
 have hn:H T=none:=I.hok.fresh hT;have lt:∀ b u,s.heap.get? b=some u->b≠T:=λ b u e=>aK (aI (az e) hT);have nch:∀ b u,H b=some u->b ∉ ch:=λ b u e z=>by rw [(hch b z).1] at e;cases e
 refine I.step (g':=s.gens) (d':=s.drawn) (ch:=ch) (λ b hb=>⟨(hch b hb).2.2.2.1,(hch b hb).2.1,(hch b hb).2.2.2.2.1,(hch b hb).2.2.2.2.2⟩) (λ b o _ _ hc e _=>keep b o hc e) (λ b o _ _ hc e _=>⟨o.slots,keep b o hc e⟩)
  (λ b o _ e n=>by rw [nz (lt b o e)];exact n) (λ b o hc e=>⟨o,keep b o hc e⟩) (λ b xs e=>by rw [nz (nA e hn)];exact e) (λ b o u e=>by rw [nz (nA e hn)];exact e)
  (λ b ps e=>⟨#[],by rw [nz (nA e hn),e];simp⟩) (λ m hm=>?_) (λ b u e=>?_) I.bare
 ·obtain ⟨o,es,ep,ho,r⟩:=hm;exact ⟨o,es,ep,keep _ o (λ z=>(hch _ z).2.1 rfl) ho,r⟩
 ·by_cases hb:b=T
  ·subst hb;rw [nk] at e;cases e;exact new
  ·rw [nz hb] at e;refine (I.hok b u e).stay (λ c v hc q=>keep c v ?_ q) (λ c q=>by rw [nz (nA q hn)];exact q) λ c xs q=>by rw [nz (nA q hn)];exact q
   rcases hc with z|z
   ·rw [z];exact nch b u e
   ·exact nch c _ z
def Inv.turnL {t':Nat} (I:Inv X m5 σ H s) (hch:∀ b∈ch,QX X m5 H b) (keep:∀ b o,b ∉ ch->s.heap.get? b=some o->h'.get? b=some o):Inv X m5 σ H { s with heap:=h',toks:=t' }:=by
 have nch:∀ b u,H b=some u->b ∉ ch:=λ b u e z=>by rw [(hch b z).1] at e;cases e
 refine I.step (g':=s.gens) (d':=s.drawn) (ch:=ch) (λ b hb=>⟨(hch b hb).2.2.2.1,(hch b hb).2.1,(hch b hb).2.2.2.2.1,(hch b hb).2.2.2.2.2⟩) (λ b o _ _ hc e _=>keep b o hc e) (λ b o _ _ hc e _=>⟨o.slots,keep b o hc e⟩)
  (λ _ _ _ _ n=>n) (λ b o hc e=>⟨o,keep b o hc e⟩) (λ _ _ e=>e) (λ _ _ _ e=>e) (λ b ps e=>⟨#[],by rw [e];simp⟩) (λ m hm=>?_) (λ b u e=>?_) I.bare
 ·obtain ⟨o,es,ep,ho,r⟩:=hm;exact ⟨o,es,ep,keep _ o (λ z=>(hch _ z).2.1 rfl) ho,r⟩
 ·refine (I.hok b u e).stay (λ c v hc q=>keep c v ?_ q) (λ _ q=>q) λ _ _ q=>q;rcases hc with z|z
  ·rw [z];exact nch b u e
  ·exact nch c _ z
end
noncomputable def Ite (K:A0) (a:Addr):It :=
 ⟨λ i H=>∃ xs x,SqL K H a xs/\xs[i]?=some x,λ i H v H'=>∃ t x,H t=none/\v=.ref t/\(∀ xs,SqL K H a xs->xs[i]?=some x)/\H'=upd H t (.tup [.int i,x]),λ i H=>∃ xs,SqL K H a xs/\xs.length<=i⟩
def zdd {P:Af} {w:World} {K:A0} {elts:List Expr} {x1} {pos:Pos} (a e it:Addr) (hne:e≠it) :
  Turn P w K (.Tuple elts x1 pos) (Ite K a) [e,it] e (λ i h=>(∃ old,IsEnum h e it i old)/\h.IsListIter it a i) where
 mem:=by simp
 obj:=λ i h st b hb=>by
  obtain ⟨⟨old,he⟩,o,ho,c,d⟩:=st;rcases aw.mp hb with rfl|hb
  ·exact ⟨_,he,λ v z=>by cases z⟩
  ·obtain rfl:b=it:=by simpa using hb
   exact ⟨o,ho,λ v z=>by rw [d] at z;cases z⟩
 keep:=λ i h h' st k=>by
  obtain ⟨⟨old,he⟩,hi⟩:=st;exact ⟨⟨old,k e (by simp) _ he⟩,hi.at λ o z=>k it (by simp) o z⟩
 item:=by
  intro X hP hw hK hc i m5 s σ H E I hf st hg;subst hP hw hK;obtain ⟨⟨old,he⟩,hi⟩:=st;obtain ⟨xs,x,hq,hx⟩:=hg;obtain ⟨mX,rv,p,hz⟩:=I.list hq;obtain ⟨u,hu,ru⟩:=rv.get hx;refine wpAny_pyNext_enum_item he hi p.isList (x:=u) (by simpa using hu) hne λ h' he' hi' hT hsz hk=>?_;refine ⟨_,rfl,?_⟩;have I1:Inv X m5 σ (upd H s.heap.objs.size (.tup [.int i,x])) { s with heap:=h',toks:=s.toks + 1 }:=I.turnNew hf (aq _) (λ b o hb q=>hk b o (λ z=>hb (by simp [z])) (λ z=>hb (by simp [z])) q)
   ⟨by show 2<=sizeLine;decide,[.int i s.toks,u],.cons ⟨_,rfl⟩ (.cons ru .nil),⟨_,hT,rfl,_,rfl⟩⟩
  have hn:H s.heap.objs.size=none:=I.hok.fresh (aq _);have ne:∀ b∈[e,it],b≠s.heap.objs.size:=λ b hb=>by
   rcases aw.mp hb with rfl|hb
   ·exact aK (az he)
   ·obtain rfl:b=it:=by simpa using hb
    obtain ⟨o,ho,_⟩:=hi;exact aK (az ho)
  have fr:∀ b∈[e,it],(upd H s.heap.objs.size (.tup [.int i,x])) b=none:=λ b hb=>by rw [nz (ne b hb)];exact (hf b hb).1
  refine wpAny_letOwnedTupleGo_enum he' λ h'' he'' hs''=>?_;refine ⟨.ref s.heap.objs.size,_,I1.turnL (t':=s.toks + 1) (ch:=[e]) (λ b hb=>?_) (λ b o hb q=>(hs''.2 b (λ z=>hb (by simp [z]))).trans q),rfl,
   ⟨s.heap.objs.size,x,hn,rfl,λ ys hy=>by rw [I.list_inj hy hq];exact hx,rfl⟩,⟨⟨u,?_⟩,hi'.extBut hs''.extBut (aW hne)⟩,fr⟩
  ·obtain rfl:b=e:=by simpa using hb
   exact ⟨fr b (by simp),(hf b (by simp)).2⟩
  ·exact he''
 done:=by
  intro X hP hw hK hc i m5 s σ H E I hf st hg;subst hP hw hK;obtain ⟨⟨old,he⟩,hi⟩:=st;obtain ⟨xs,hq,hx⟩:=hg;obtain ⟨mX,rv,p,hz⟩:=I.list hq;have hl:=rv.length;exact wpAny_pyNext_enum_end (I.ok.hd hc) he hi p.isList (by simp;omega) λ h' eb=>⟨rfl,I.turnL (t':=s.toks) hf λ b o hb q=>eb b o (λ z=>hb (by simp [z])) q⟩
 self:=λ _ _ _ _ _ st h=>by
  obtain ⟨⟨old,he⟩,_⟩:=st;exact wpAny_pyIter_enum he h
def VX:bootBuiltins "enumerate"=some (.type "enumerate"):=by decide +kernel
def zhV:bootBuiltins "zip"=some (.type "zip"):=by decide +kernel
def iEnum (X:Cx) (ta:TA):TI:=λ σ H R=>X.mg "enumerate"=none/\ta σ H λ vs H1=>∃ a xs,vs=[.ref a]/\H1 a=some (.lst xs)/\R (Ite X.K a) H1
def qt {a:Expr} {elts:List Expr} {x1} {tp p pos:Pos} {ta:TA} (ha:PA X [a] ta) (hg:Gl X "enumerate":=by rfl)
  (hs:starEach [a] X.env=(false,eval a X.env) :: starEach [] X.env:=by rfl) (hpl:(backTo pos (starEach [] X.env)).any (·.1)=false:=by rfl) :
  PI X (.Tuple elts x1 tp) (.Call (.Name "enumerate" p) [a] [] pos) (iEnum X ta):=by
 intro m5 s σ H R I h;refine bu (wY I hg h.1 VX ?_);refine aZ (vt (ha pos m5 s σ H _ I h.2) λ us s1 vs H1 I1 r1 q1=>?_) hs hpl;obtain ⟨l,xs,rfl,hq,hR⟩:=q1;obtain ⟨u,rfl,rx⟩:=QZ r1;cases rx;obtain ⟨hz,mX,n,rv,hl,e⟩:=I1.lstM hq;refine call_enumerate_1 e λ h' he hi hsz hk=>wpAny_pyIter_enum he ?_;refine ⟨s1.heap.objs.size + 1,[s1.heap.objs.size + 1,s1.heap.objs.size],_,_,H1,rfl,I1.kept (t':=s1.toks) hk,zdd l _ _ (Nat.succ_ne_self _),⟨⟨_,he⟩,hi⟩,λ b hb=>?_,hR⟩;rcases aw.mp hb with rfl|hb
 ·exact I1.fpOk (b8 _) (I1.hok.fresh (b8 _))
 ·obtain rfl:b=s1.heap.objs.size:=by simpa using hb
  exact I1.fpOk (aq _) (I1.hok.fresh (aq _))
def ItAt (b:Bool) (h:Heap) (it a:Addr) (i:Nat):Prop:=if b=true then h.IsListIter it a i else h.IsTupleIter it a i
def SqAt (b:Bool) (h:Heap) (a:Addr) (items:Ac):Prop:=if b=true then h.IsList a items else h.IsTuple a items
noncomputable def QR (b:Bool):String:=if b=true then "list_iterator" else "tuple_iterator"
def ItAt.at' {h h':Heap} {it a:Addr} (x:ItAt b h it a i) (hk:∀ o,h.get? it=some o->h'.get? it=some o):ItAt b h' it a i:=by
 cases b <;> exact let ⟨o,ho,r⟩:=x;⟨o,hk o ho,r⟩
def ItAt.obj {h:Heap} {it a:Addr} (x:ItAt b h it a i):∃ o,h.get? it=some o/\∀ v,o.data≠.cell v:=by
 cases b <;> exact let ⟨o,ho,_,hd⟩:=x;⟨o,ho,λ v z=>by rw [hd] at z;cases z⟩
def SqAt.at' {h h':Heap} {a:Addr} {items:Ac} (x:SqAt b h a items) (hk:∀ o,h.get? a=some o->h'.get? a=some o):SqAt b h' a items:=by
 cases b <;> exact let ⟨o,ho,r⟩:=x;⟨o,hk o ho,r⟩
section
variable {prog:Af} {w:World} {A:Ao} {E:A3} {s:An}
def Z8 {it t:Addr} {items} {x:Am} (hit:s.heap.IsTupleIter it t i) (ht:s.heap.IsTuple t items) (hx:items[i]?=some x)
  (hQ:∀ h',h'.IsTupleIter it t (i + 1)->Heap.SameBut it s.heap h'->Q x { s with heap:=h' }):wpAny (model prog w) A (Builtin.SmallTypes.nextOf (.ref it)) Q E s:=by
 obtain ⟨o,ho,hc,hd⟩:=id hit;obtain ⟨ol,hol,_,nl,hdl⟩:=ht;unfold Builtin.SmallTypes.nextOf;refine ad (cD (name:=Str.ofString "__next__") hit.typeIs ck
  (dI ck hit.typeIs fH ?_ (fA _)))
 show wpAny _ _ (field (.ref it) 0 >>= _) _ _ s
 refine ad (bg ho hd (x:=.ref t) rfl ?_);show wpAny _ _ (if (Value.ref t == Value.none)=true then _ else _) _ _ s
 rw [am (show ¬ ((Value.ref t == Value.none)=true) from aA)];show wpAny _ _ (field (.ref it) 1 >>= _) _ _ s
 refine ad (bg ho hd (x:=.int i 0) rfl ?_);show wpAny _ _ (seqItems? (.ref t) >>= _) _ _ s
 refine ad (bB hol hdl ?_);simp only [aE,hx];refine ad (dh ho hd (by simp) (aC ⟨x,rfl,aC (hQ _ ?_ (Heap.SameBut.update ..))⟩));exact ⟨_,br _ ho (b9 (bh hd _)),(Obj.cls_mapFields ..).trans hc,by
  rw [bh hd];simp [rawInt]⟩
def QL {it t:Addr} {items} (hh:A.handled=none) (hit:s.heap.IsTupleIter it t i) (ht:s.heap.IsTuple t items) (hx:items[i]?=none)
  (hE:∀ h' e,Heap.ExtBut it s.heap h'->(∃ o,h'.get? e=some o/\o.cls=.type "StopIteration")->E (.ref e) { s with heap:=h' }) :
  wpAny (model prog w) A (Builtin.SmallTypes.nextOf (.ref it)) Q E s:=by
 obtain ⟨o,ho,hc,hd⟩:=id hit;obtain ⟨ol,hol,_,nl,hdl⟩:=ht;unfold Builtin.SmallTypes.nextOf;refine ad (cD (name:=Str.ofString "__next__") hit.typeIs ck
  (dI ck hit.typeIs fH ?_ (fA _)))
 show wpAny _ _ (field (.ref it) 0 >>= _) _ _ s
 refine ad (bg ho hd (x:=.ref t) rfl ?_);show wpAny _ _ (if (Value.ref t == Value.none)=true then _ else _) _ _ s
 rw [am (show ¬ ((Value.ref t == Value.none)=true) from aA)];show wpAny _ _ (field (.ref it) 1 >>= _) _ _ s
 refine ad (bg ho hd (x:=.int i 0) rfl ?_);show wpAny _ _ (seqItems? (.ref t) >>= _) _ _ s
 refine ad (bB hol hdl ?_);simp only [aE,hx];refine ad (wpAny_rule (ad (dh ho hd (by simp) ?_)));show wpAny _ _ (newExc (.type "StopIteration") [] >>= _) _ _ _
 refine ad ?_;simp only [newExc,newTuple];refine ad (du ?_ (by size_fits));refine ad (m:=firstArgMember _ _) (wpAny_of_eq (a:=Value.none) (by first|rfl|(simp only [firstArgMember];rfl)) ?_);refine du ?_ (by size_fits);simp only [raiseNew];refine ad (wpAny_handled ?_)
 first|rw [show A.in1.handled=none from hh] | rw [hh]
 refine ad (aC (wpAny_throw ?_));exact hE _ _ (((Heap.SameBut.update ..).extBut.push _).push _) ⟨_,aD _ rfl,rfl⟩
def vN {it t:Addr} {items} {x:Am} (hit:ItAt b s.heap it t i) (ht:SqAt b s.heap t items) (hx:items[i]?=some x)
  (hQ:∀ h',ItAt b h' it t (i + 1)->Heap.SameBut it s.heap h'->Q x { s with heap:=h' }):wpAny (model prog w) A (Builtin.SmallTypes.nextOf (.ref it)) Q E s:=by
 cases b
 ·exact Z8 hit ht hx hQ
 ·exact wpAny_nextOf_list_item hit ht hx hQ
def Xj {it t:Addr} {items} (hh:A.handled=none) (hit:ItAt b s.heap it t i) (ht:SqAt b s.heap t items) (hx:items[i]?=none)
  (hE:∀ h' e,Heap.ExtBut it s.heap h'->(∃ o,h'.get? e=some o/\o.cls=.type "StopIteration")->E (.ref e) { s with heap:=h' }) :
  wpAny (model prog w) A (Builtin.SmallTypes.nextOf (.ref it)) Q E s:=by
 cases b
 ·exact QL hh hit ht hx hE
 ·exact wpAny_nextOf_list_end hh hit ht hx hE
def Wp {t:Addr} {items} (ht:SqAt b s.heap t items)
  (hQ:Q (.ref s.heap.objs.size) { s with heap:=s.heap.push { cls:=.type (QR b),data:=.fields #[.ref t,.int 0 0] } }):wpAny (model prog w) A (pyIter (.ref t)) Q E s:=by
 cases b
 ·exact wpAny_pyIter_tuple ht hQ
 ·exact wpAny_pyIter_list ht hQ
def zed {b1 b2:Bool} {z TI TO i1 i2 l1 l2:Addr} {k1 k2:Nat} {xs ys:Ac} {x y a b:Am} (D:ZipApart z TI TO i1 i2 l1 l2)
  (hz:IsZip s.heap z TI TO .none) (hTI:IsPair s.heap TI (.ref i1) (.ref i2)) (hTO:IsPair s.heap TO a b)
  (h1:ItAt b1 s.heap i1 l1 k1) (h2:ItAt b2 s.heap i2 l2 k2) (hl1:SqAt b1 s.heap l1 xs) (hl2:SqAt b2 s.heap l2 ys) (hx:xs[k1]?=some x) (hy:ys[k2]?=some y)
  (hQ:∀ h',IsZip h' z TI TO (rawInt s.heap.objs.size)->IsPair h' TO x y->ItAt b1 h' i1 l1 (k1 + 1)->ItAt b2 h' i2 l2 (k2 + 1)->IsPair h' s.heap.objs.size x y->h'.objs.size=s.heap.objs.size + 1 ->
   (∀ c o,c≠z->c≠TO->c≠i1->c≠i2->s.heap.get? c=some o->h'.get? c=some o)->Q (.ref s.heap.objs.size) { s with heap:=h' }) :
  wpAny (model prog w) A (Builtin.«zip.__next__» ⟨[.ref z],[]⟩) (λ fin s'=>∃ v,fin=.done (.ret v)/\Q v s') E s:=by
 show wpAny _ _ (field (.ref z) 2 >>= _) _ _ _
 refine ad (bg hz rfl (x:=.bool false) rfl ?_);show wpAny _ _ (field (.ref z) 3 >>= _) _ _ _
 refine ad (bg hz rfl (x:=.ref TI) rfl ?_);refine ad (bB hTI rfl ?_);show wpAny _ _ (Builtin.SmallTypes.ownedTupleIsFree (.ref z) >>= _) _ _ _
 refine ad ?_;unfold Builtin.SmallTypes.ownedTupleIsFree;refine ad (bg hz rfl (x:=.none) rfl (aC ?_));simp only [d7];refine ad (wpAny_rule ?_);refine ad (bg hz rfl (x:=.ref TO) rfl ?_);refine ad (b5 hz (by simp) λ h₁ hz₁ hs₁=>?_);replace hz₁:IsZip h₁ z TI TO .ellipsis:=hz₁;refine ad ?_;simp only [List.zipIdx_cons,List.zipIdx_nil,fD,List.forIn_nil];refine ad (ad (eE ?_));show wpAny _ _ (Builtin.SmallTypes.nextOf (.ref i1) >>= _) _ _ _
 refine ad (vN (h1.at' λ o e=>hs₁.extBut _ _ D.i1z e) (hl1.at' λ o e=>hs₁.extBut _ _ D.l1z e) hx λ h₂ h1₂ hs₂=>aC ?_);have hTO₂:IsPair h₂ TO a b:=hs₂.extBut _ _ D.TOi1 (hs₁.extBut _ _ D.TOz hTO);refine ad (bB hTO₂ rfl ?_);refine ad (d5 hTO₂ λ h₃ hTO₃ hs₃=>?_);replace hTO₃:IsPair h₃ TO x b:=hTO₃;refine ad (fj (aC ?_));refine ad (ad (eE ?_));show wpAny _ _ (Builtin.SmallTypes.nextOf (.ref i2) >>= _) _ _ _
 refine ad (vN (h2.at' λ o e=>hs₃.extBut _ _ D.TOi2.symm (hs₂.extBut _ _ D.i12.symm (hs₁.extBut _ _ D.i2z e)))
  (hl2.at' λ o e=>hs₃.extBut _ _ D.l2TO (hs₂.extBut _ _ D.l2i1 (hs₁.extBut _ _ D.l2z e))) hy λ h₄ h2₄ hs₄=>aC ?_)
 have hTO₄:IsPair h₄ TO x b:=hs₄.extBut _ _ D.TOi2 hTO₃;refine ad (bB hTO₄ rfl ?_);refine ad (d5 hTO₄ λ h₅ hTO₅ hs₅=>?_);replace hTO₅:IsPair h₅ TO x y:=hTO₅;refine ad (fj (aC (aC ?_)));refine ad (bB hTO₅ rfl ?_);refine ad (wpAny_newTuple ?_);have hsz:h₅.objs.size=s.heap.objs.size:=by rw [hs₅.1,hs₄.1,hs₃.1,hs₂.1,hs₁.1]
 have hz₅:IsZip h₅ z TI TO .ellipsis:=hs₅.extBut _ _ D.TOz.symm (hs₄.extBut _ _ D.i2z.symm (hs₃.extBut _ _ D.TOz.symm (hs₂.extBut _ _ D.i1z.symm hz₁)));have hk₅:∀ c o,c≠z->c≠TO->c≠i1->c≠i2->s.heap.get? c=some o->h₅.get? c=some o:=λ c o c1 c2 c3 c4 e =>
  hs₅.extBut _ _ c2 (hs₄.extBut _ _ c4 (hs₃.extBut _ _ c2 (hs₂.extBut _ _ c3 (hs₁.extBut _ _ c1 e))))
 have h1₅:ItAt b1 h₅ i1 l1 (k1 + 1):=h1₂.at' λ o e=>hs₅.extBut _ _ D.TOi1.symm (hs₄.extBut _ _ D.i12 (hs₃.extBut _ _ D.TOi1.symm e));have h2₅:ItAt b2 h₅ i2 l2 (k2 + 1):=h2₄.at' λ o e=>hs₅.extBut _ _ D.TOi2.symm e;have hzlt:z < h₅.objs.size:=az hz₅;show wpAny _ _ (Builtin.SmallTypes.ownedTupleHandOut (.ref z) (.ref h₅.objs.size) >>= _) _ _ _
 refine ad ?_;unfold Builtin.SmallTypes.ownedTupleHandOut;have hz₆:IsZip (h₅.push { cls:=.type "tuple",data:=.seq #[x,y] }) z TI TO .ellipsis:=ai _ hz₅;refine ad (b5 hz₆ (by simp) λ h₇ hz₇ hs₇=>?_);replace hz₇:IsZip h₇ z TI TO (rawInt h₅.objs.size):=hz₇;refine b5 hz₇ (by simp) λ h₈ hz₈ hs₈=>?_;replace hz₈:IsZip h₈ z TI TO (rawInt h₅.objs.size):=hz₈;have up:∀ c o,c≠z->h₅.get? c=some o->h₈.get? c=some o:=λ c o c1 e=>hs₈.extBut _ _ c1 (hs₇.extBut _ _ c1 (ai _ e));have hT₈:IsPair h₈ h₅.objs.size x y:=hs₈.extBut _ _ (cx hzlt) (hs₇.extBut _ _ (cx hzlt) (aD _ rfl));have hz8:h₈.objs.size=h₅.objs.size + 1:=by rw [hs₈.1,hs₇.1,bE]
 rw [hsz] at hz₈ hT₈ hz8;refine aC ⟨_,rfl,?_⟩;show Q (.ref h₅.objs.size) _
 rw [hsz];exact hQ h₈ hz₈ (up _ _ D.TOz hTO₅) (h1₅.at' λ o e=>up _ o D.i1z e) (h2₅.at' λ o e=>up _ o D.i2z e) hT₈ hz8 λ c o c1 c2 c3 c4 e=>up c o c1 (hk₅ c o c1 c2 c3 c4 e)
theorem zfK {b1 b2:Bool} {z TI TO i1 i2 l1 l2:Addr} {k1 k2:Nat} {xs ys:Ac} {a b:Am} {Q:Fin->Shared->Prop} (hh:A.handled=none) (D:ZipApart z TI TO i1 i2 l1 l2)
  (hz:IsZip s.heap z TI TO .none) (hTI:IsPair s.heap TI (.ref i1) (.ref i2)) (hTO:IsPair s.heap TO a b)
  (h1:ItAt b1 s.heap i1 l1 k1) (h2:ItAt b2 s.heap i2 l2 k2) (hl1:SqAt b1 s.heap l1 xs) (hl2:SqAt b2 s.heap l2 ys) (hend:xs[k1]?=none\/ys[k2]?=none)
  (hE:∀ h' e,(∀ c o,c≠z->c≠TO->c≠i1->c≠i2->s.heap.get? c=some o->h'.get? c=some o)->(∃ o,h'.get? e=some o/\o.cls=.type "StopIteration")->E (.ref e) { s with heap:=h' }) :
  wpAny (model prog w) A (Builtin.«zip.__next__» ⟨[.ref z],[]⟩) Q E s:=by
 show wpAny _ _ (field (.ref z) 2 >>= _) _ _ _
 refine ad (bg hz rfl (x:=.bool false) rfl ?_);show wpAny _ _ (field (.ref z) 3 >>= _) _ _ _
 refine ad (bg hz rfl (x:=.ref TI) rfl ?_);refine ad (bB hTI rfl ?_);show wpAny _ _ (Builtin.SmallTypes.ownedTupleIsFree (.ref z) >>= _) _ _ _
 refine ad ?_;unfold Builtin.SmallTypes.ownedTupleIsFree;refine ad (bg hz rfl (x:=.none) rfl (aC ?_));simp only [d7];refine ad (wpAny_rule ?_);refine ad (bg hz rfl (x:=.ref TO) rfl ?_);refine ad (b5 hz (by simp) λ h₁ hz₁ hs₁=>?_);replace hz₁:IsZip h₁ z TI TO .ellipsis:=hz₁;refine ad ?_;simp only [List.zipIdx_cons,List.zipIdx_nil,fD,List.forIn_nil];refine ad (ad (eE ?_));show wpAny _ _ (Builtin.SmallTypes.nextOf (.ref i1) >>= _) _ _ _
 cases hx:xs[k1]? with
 | none =>
  refine ad (Xj hh (h1.at' λ o e=>hs₁.extBut _ _ D.i1z e) (hl1.at' λ o e=>hs₁.extBut _ _ D.l1z e) hx λ h₂ e hs₂ he=>?_);obtain ⟨oe,hoe,hce⟩:=he;have hz₂:IsZip h₂ z TI TO .ellipsis:=hs₂ _ _ D.i1z.symm hz₁;have hez:e≠z:=λ x=>by subst x;rw [hz₂] at hoe;cases hoe;simp at hce
  refine b5 hz₂ (by simp) λ h₃ _ hs₃=>hE h₃ e (λ c o c1 _ c3 _ x=>hs₃.extBut _ _ c1 (hs₂ _ _ c3 (hs₁.extBut _ _ c1 x))) ⟨oe,hs₃.extBut _ _ hez hoe,hce⟩
 | some x =>
  have hy:ys[k2]?=none:=by rcases hend with h|h;rw [hx] at h;cases h;exact h
  refine ad (vN (h1.at' λ o e=>hs₁.extBut _ _ D.i1z e) (hl1.at' λ o e=>hs₁.extBut _ _ D.l1z e) hx λ h₂ h1₂ hs₂=>aC ?_);have hTO₂:IsPair h₂ TO a b:=hs₂.extBut _ _ D.TOi1 (hs₁.extBut _ _ D.TOz hTO);refine ad (bB hTO₂ rfl ?_);refine ad (d5 hTO₂ λ h₃ hTO₃ hs₃=>?_);refine ad (fj (aC ?_));refine ad (ad (eE ?_));show wpAny _ _ (Builtin.SmallTypes.nextOf (.ref i2) >>= _) _ _ _
  refine ad (Xj hh (h2.at' λ o e=>hs₃.extBut _ _ D.TOi2.symm (hs₂.extBut _ _ D.i12.symm (hs₁.extBut _ _ D.i2z e)))
   (hl2.at' λ o e=>hs₃.extBut _ _ D.l2TO (hs₂.extBut _ _ D.l2i1 (hs₁.extBut _ _ D.l2z e))) hy λ h₄ e hs₄ he=>?_)
  obtain ⟨oe,hoe,hce⟩:=he;have hz₄:IsZip h₄ z TI TO .ellipsis:=hs₄ _ _ D.i2z.symm (hs₃.extBut _ _ D.TOz.symm (hs₂.extBut _ _ D.i1z.symm hz₁));have hez:e≠z:=λ x=>by subst x;rw [hz₄] at hoe;cases hoe;simp at hce
  refine b5 hz₄ (by simp) λ h₅ _ hs₅=>hE h₅ e (λ c o c1 c2 c3 c4 x=>hs₅.extBut _ _ c1 (hs₄ _ _ c4 (hs₃.extBut _ _ c2 (hs₂.extBut _ _ c3 (hs₁.extBut _ _ c1 x))))) ⟨oe,hs₅.extBut _ _ hez hoe,hce⟩
noncomputable abbrev zH1 (h:Heap) (b1:Bool) (l1:Addr):Heap:=h.push { cls:=.type (QR b1),data:=.fields #[.ref l1,.int 0 0] }
noncomputable abbrev zH2 (h:Heap) (b1 b2:Bool) (l1 l2:Addr):Heap:=(zH1 h b1 l1).push { cls:=.type (QR b2),data:=.fields #[.ref l2,.int 0 0] }
noncomputable abbrev zH3 (h:Heap) (b1 b2:Bool) (l1 l2:Addr):Heap:=(zH2 h b1 b2 l1 l2).push { cls:=.type "tuple",data:=.seq #[.ref h.objs.size,.ref (zH1 h b1 l1).objs.size] }
noncomputable abbrev zH4 (h:Heap) (b1 b2:Bool) (l1 l2:Addr):Heap:=(zH3 h b1 b2 l1 l2).push { cls:=.type "tuple",data:=.seq #[.none,.none] }
noncomputable abbrev zH5 (h:Heap) (b1 b2:Bool) (l1 l2:Addr):Heap:=(zH4 h b1 b2 l1 l2).push { cls:=.type "zip",data:=.fields #[.none,.bool false,.bool false,.ref (zH2 h b1 b2 l1 l2).objs.size,.ref (zH3 h b1 b2 l1 l2).objs.size] }
end
def zdJ {b1 b2:Bool} (l1 l2:Addr) (xs ys:Ac) :
  Meets (Builtin.«zip.__new__» ⟨[.type "zip",.ref l1,.ref l2],[]⟩) (λ _ R s=>SqAt b1 s.heap l1 xs/\SqAt b2 s.heap l2 ys /\
   R (.ok (.ret (.ref (zH4 s.heap b1 b2 l1 l2).objs.size))) { s with heap:=zH5 s.heap b1 b2 l1 l2 }) :=
 .of_wp λ prog w A R s h=>by
  obtain ⟨hp,g,d,tk,os⟩:=s;obtain ⟨hl1,hl2,h⟩:=h;have hsub:=sub_zip;have hL1:SqAt b1 (Shared.heap ⟨hp,g,d,tk,os⟩) l1 xs:=hl1;have hL2:SqAt b2 (Shared.heap ⟨hp.push { cls:=.type (QR b1),data:=.fields #[.ref l1,.int 0 0] },g,d,tk,os⟩) l2 ys:=hl2.at' λ o e=>ai _ e
  wp_walk using Wp hL1,Wp hL2
  exact ⟨_,rfl,h⟩
section
variable {prog:Af} {w:World} {A:Ao} {E:A3} {s:An}
def ItAt.new {h:Heap} {it l:Addr} (e:h.get? it=some { cls:=.type (QR b),data:=.fields #[.ref l,.int 0 0] }):ItAt b h it l 0:=by
 cases b <;> exact ⟨_,e,rfl,rfl⟩
def zfu {b1 b2:Bool} {l1 l2:Addr} {xs ys:Ac} (hl1:SqAt b1 s.heap l1 xs) (hl2:SqAt b2 s.heap l2 ys)
  (h:∀ h',IsZip h' (s.heap.objs.size + 4) (s.heap.objs.size + 2) (s.heap.objs.size + 3) .none->IsPair h' (s.heap.objs.size + 2) (.ref s.heap.objs.size) (.ref (s.heap.objs.size + 1)) ->
   IsPair h' (s.heap.objs.size + 3) .none .none->ItAt b1 h' s.heap.objs.size l1 0->ItAt b2 h' (s.heap.objs.size + 1) l2 0->h'.objs.size=s.heap.objs.size + 5 ->
   (∀ c o,s.heap.get? c=some o->h'.get? c=some o)->Q (.ref (s.heap.objs.size + 4)) { s with heap:=h' }) :
  wpAny (model prog w) A (call (.type "zip") [.ref l1,.ref l2]) Q E s:=by
 refine callType_new F.called_zip (by decide) (F.typeCall_zip_2 _ _) (F.newCall_zip_2 _ _) (λ obj=>F.args_object_init_3 obj _ _) F.entry_zip_new
  (zdJ (b1:=b1) (b2:=b2) l1 l2 xs ys) ⟨hl1,hl2,?_⟩
 have z1:(zH1 s.heap b1 l1).objs.size=s.heap.objs.size + 1:=bE ..;have z2:(zH2 s.heap b1 b2 l1 l2).objs.size=s.heap.objs.size + 2:=by rw [bE,z1]
 have z3:(zH3 s.heap b1 b2 l1 l2).objs.size=s.heap.objs.size + 3:=by rw [bE,z2]
 have z4:(zH4 s.heap b1 b2 l1 l2).objs.size=s.heap.objs.size + 4:=by rw [bE,z3]
 have z5:(zH5 s.heap b1 b2 l1 l2).objs.size=s.heap.objs.size + 5:=by rw [bE,z4]
 have g5:(zH5 s.heap b1 b2 l1 l2).get? (zH4 s.heap b1 b2 l1 l2).objs.size=some _:=aD _ rfl;have g4:(zH5 s.heap b1 b2 l1 l2).get? (zH3 s.heap b1 b2 l1 l2).objs.size=some _:=ai _ (aD _ rfl);have g3:(zH5 s.heap b1 b2 l1 l2).get? (zH2 s.heap b1 b2 l1 l2).objs.size=some _:=ai _ (ai _ (aD _ rfl));have g2:(zH5 s.heap b1 b2 l1 l2).get? (zH1 s.heap b1 l1).objs.size=some _:=ai _ (ai _ (ai _ (aD _ rfl)));have g1:(zH5 s.heap b1 b2 l1 l2).get? s.heap.objs.size=some _:=ai _ (ai _ (ai _ (ai _ (aD _ rfl))));show _/\_
 rw [z2,z3,z4] at g5;rw [z1,z2] at g3;rw [z3] at g4;rw [z1] at g2;rw [z4];exact ⟨⟨_,g5,rfl⟩,h _ g5 g3 g4 (ItAt.new g1) (ItAt.new g2) z5 λ c o x =>
  ai _ (ai _ (ai _ (ai _ (ai _ x))))⟩
end
def SqB (b:Bool) (K:A0) (H:Hp) (a:Addr) (xs:Ap):Prop:=if b=true then SqL K H a xs else SqT K H a xs
def Inv.sqB {m5:A2} {σ:St} {H:Hp} {s:An} {a:Addr} {xs:Ap} (I:Inv X m5 σ H s) (h:SqB b X.K H a xs):∃ mX:List Value,Vals xs mX/\SqAt b s.heap a mX.toArray:=by
 cases b
 ·obtain ⟨mX,r,p,_⟩:=I.tuple (show SqT X.K H a xs from h);exact ⟨mX,r,p⟩
 ·obtain ⟨mX,r,p,_⟩:=I.list (show SqL X.K H a xs from h);exact ⟨mX,r,p.isList⟩
def Inv.sqB_inj {m5:A2} {σ:St} {H:Hp} {s:An} {a:Addr} {xs ys:Ap} (I:Inv X m5 σ H s) (h1:SqB b X.K H a xs) (h2:SqB b X.K H a ys):xs=ys:=by
 cases b
 ·exact I.tuple_inj (show SqT X.K H a xs from h1) (show SqT X.K H a ys from h2)
 ·exact I.list_inj (show SqL X.K H a xs from h1) (show SqL X.K H a ys from h2)
noncomputable def Itz (K:A0) (b1 b2:Bool) (a1 a2:Addr):It :=
 ⟨λ i H=>∃ xs ys x y,SqB b1 K H a1 xs/\SqB b2 K H a2 ys/\xs[i]?=some x/\ys[i]?=some y,
   λ i H v H'=>∃ t x y,H t=none/\v=.ref t/\(∀ xs,SqB b1 K H a1 xs->xs[i]?=some x)/\(∀ ys,SqB b2 K H a2 ys->ys[i]?=some y)/\H'=upd H t (.tup [x,y]),
   λ i H=>∃ xs ys,SqB b1 K H a1 xs/\SqB b2 K H a2 ys/\(xs.length<=i\/ys.length<=i)⟩
def SqB.there {m5:A2} {σ:St} {H:Hp} {s:An} {a:Addr} {xs:Ap} (I:Inv X m5 σ H s) (h:SqB b X.K H a xs):∃ o,s.heap.get? a=some o/\(o.cls=.type "list"\/o.cls=.type "tuple")/\∃ mX n,o.data=.seq mX n:=by
 obtain ⟨mX,_,p⟩:=I.sqB h;cases b
 ·obtain ⟨o,e,c,n,d⟩:=p;exact ⟨o,e,.inr c,_,n,d⟩
 ·obtain ⟨o,e,c,n,d⟩:=p;exact ⟨o,e,.inl c,_,n,d⟩
def zei {P:Af} {w:World} {K:A0} {elts:List Expr} {x1} {pos:Pos} {b1 b2:Bool} (z TI TO i1 i2 l1 l2:Addr) (D:ZipApart z TI TO i1 i2 l1 l2) :
  Turn P w K (.Tuple elts x1 pos) (Itz K b1 b2 l1 l2) [z,TI,TO,i1,i2] z (λ i h=>IsZip h z TI TO .none/\IsPair h TI (.ref i1) (.ref i2)/\(∃ a b,IsPair h TO a b)/\ItAt b1 h i1 l1 i/\ItAt b2 h i2 l2 i) where
 mem:=by simp
 obj:=λ i h st b hb=>by
  obtain ⟨hz,hTI,⟨a,b',hTO⟩,h1,h2⟩:=st;simp only [aw,bZ,cK] at hb;rcases hb with rfl|rfl|rfl|rfl|rfl
  ·exact ⟨_,hz,λ v z=>by cases z⟩
  ·exact ⟨_,hTI,λ v z=>by cases z⟩
  ·exact ⟨_,hTO,λ v z=>by cases z⟩
  ·exact h1.obj
  ·exact h2.obj
 keep:=λ i h h' st k=>by
  obtain ⟨hz,hTI,⟨a,b',hTO⟩,h1,h2⟩:=st;exact ⟨k z (by simp) _ hz,k TI (by simp) _ hTI,⟨a,b',k TO (by simp) _ hTO⟩,h1.at' λ o e=>k i1 (by simp) o e,h2.at' λ o e=>k i2 (by simp) o e⟩
 item:=by
  intro X hP hw hK hc i m5 s σ H E I hf st hg;subst hP hw hK;obtain ⟨hz,hTI,⟨a,b',hTO⟩,h1,h2⟩:=st;obtain ⟨xs,ys,x,y,q1,q2,hx,hy⟩:=hg;obtain ⟨its1,r1,p1⟩:=I.sqB q1;obtain ⟨its2,r2,p2⟩:=I.sqB q2;obtain ⟨u1,hu1,ru1⟩:=r1.get hx;obtain ⟨u2,hu2,ru2⟩:=r2.get hy;have hT:s.TypeIs (.ref z) "zip":=⟨_,hz,rfl⟩;unfold pyNext;refine ad (fY (cD (name:=Str.ofString "__next__") hT dU (dI dU hT F.entry_zip_next
   (zed D hz hTI hTO h1 h2 p1 p2 (x:=u1) (y:=u2) (by simpa using hu1) (by simpa using hu2) λ h' a1 a2 a3 a4 a5 a6 hk=>aC ?_) (F.args_zip_next_1 _))))
  refine ⟨_,rfl,?_⟩;have I1:Inv X m5 σ (upd H s.heap.objs.size (.tup [x,y])) { s with heap:=h' }:=I.turnNew (t':=s.toks) hf (aq _) (λ b o hb q=>hk b o (λ z=>hb (by simp [z])) (λ z=>hb (by simp [z])) (λ z=>hb (by simp [z])) (λ z=>hb (by simp [z])) q)
   ⟨by show 2<=sizeLine;decide,[u1,u2],.cons ru1 (.cons ru2 .nil),⟨_,a5,rfl,_,rfl⟩⟩
  have hn:H s.heap.objs.size=none:=I.hok.fresh (aq _);have ne:∀ b∈[z,TI,TO,i1,i2],b≠s.heap.objs.size:=λ b hb=>by
   have:∃ o,s.heap.get? b=some o:=by
    simp only [aw,bZ,cK] at hb;rcases hb with rfl|rfl|rfl|rfl|rfl
    ·exact ⟨_,hz⟩
    ·exact ⟨_,hTI⟩
    ·exact ⟨_,hTO⟩
    ·exact let ⟨o,e,_⟩:=h1.obj;⟨o,e⟩
    ·exact let ⟨o,e,_⟩:=h2.obj;⟨o,e⟩
   obtain ⟨o,e⟩:=this;exact aK (az e)
  have fr:∀ b∈[z,TI,TO,i1,i2],(upd H s.heap.objs.size (.tup [x,y])) b=none:=λ b hb=>by rw [nz (ne b hb)];exact (hf b hb).1
  have hTI':IsPair h' TI (.ref i1) (.ref i2):=hk _ _ D.TIz D.TITO D.TIi1 D.TIi2 hTI;refine wpAny_letOwnedTupleGo_zip a1 λ h'' hz'' hs''=>?_;refine ⟨.ref s.heap.objs.size,_,I1.turnL (t':=s.toks) (ch:=[z]) (λ b hb=>?_) (λ b o hb q=>(hs''.2 b (λ z=>hb (by simp [z]))).trans q),rfl,
   ⟨s.heap.objs.size,x,y,hn,rfl,λ zs hy=>by rw [I.sqB_inj hy q1];exact hx,λ zs hz=>by rw [I.sqB_inj hz q2];exact hy,rfl⟩,
   ⟨hz'',hs''.extBut _ _ D.TIz hTI',⟨_,_,hs''.extBut _ _ D.TOz a2⟩,a3.at' λ o e=>hs''.extBut _ _ D.i1z e,a4.at' λ o e=>hs''.extBut _ _ D.i2z e⟩,fr⟩
  obtain rfl:b=z:=by simpa using hb
  exact ⟨fr b (by simp),(hf b (by simp)).2⟩
 done:=by
  intro X hP hw hK hc i m5 s σ H E I hf st hg;subst hP hw hK;obtain ⟨hz,hTI,⟨a,b',hTO⟩,h1,h2⟩:=st;obtain ⟨xs,ys,q1,q2,hx⟩:=hg;obtain ⟨its1,r1,p1⟩:=I.sqB q1;obtain ⟨its2,r2,p2⟩:=I.sqB q2;have e1:=r1.length;have e2:=r2.length;have hT:s.TypeIs (.ref z) "zip":=⟨_,hz,rfl⟩;have hend:its1.toArray[i]?=none\/its2.toArray[i]?=none:=by
   rcases hx with h|h
   ·exact .inl (by simp;omega)
   ·exact .inr (by simp;omega)
  unfold pyNext;refine ad (fY (cD (name:=Str.ofString "__next__") hT dU
   (dI dU hT F.entry_zip_next (zfK (I.ok.hd hc) D hz hTI hTO h1 h2 p1 p2 hend λ h' e hk he=>?_) (F.args_zip_next_1 _))))
  obtain ⟨o,ho,hcl⟩:=he;refine ad (eY (T:="StopIteration") (b:=true) ⟨o,ho,hcl⟩ isSubtype_stop ?_);exact aC ⟨rfl,I.turnL (t':=s.toks) hf λ b o hb q=>hk b o (λ z=>hb (by simp [z])) (λ z=>hb (by simp [z])) (λ z=>hb (by simp [z])) (λ z=>hb (by simp [z])) q⟩
 self:=λ _ _ _ _ _ st h=>wpAny_pyIter_zip st.1 h
def zdb (n l1 l2:Nat) (h1:l1 < n) (h2:l2 < n):ZipApart (n + 4) (n + 2) (n + 3) n (n + 1) l1 l2:=by
 constructor <;> (show (_:Nat)≠_) <;> omega
def iZip (X:Cx) (ta:TA):TI:=λ σ H R=>X.mg "zip"=none/\ta σ H λ vs H1=>∃ b1 b2 l1 l2 xs ys,vs=[.ref l1,.ref l2]/\SqB b1 X.K H1 l1 xs/\SqB b2 X.K H1 l2 ys/\R (Itz X.K b1 b2 l1 l2) H1
def zeK {a b:Expr} {elts:List Expr} {x1} {tp p pos:Pos} {ta:TA} (ha:PA X [a,b] ta) (hg:Gl X "zip":=by rfl)
  (hs:starEach [a,b] X.env=(false,eval a X.env) :: starEach [b] X.env:=by rfl) (hpl:(backTo pos (starEach [b] X.env)).any (·.1)=false:=by rfl) :
  PI X (.Tuple elts x1 tp) (.Call (.Name "zip" p) [a,b] [] pos) (iZip X ta):=by
 intro m5 s σ H R I h;refine bu (wY I hg h.1 zhV ?_);refine aZ (vt (ha pos m5 s σ H _ I h.2) λ us s1 vs H1 I1 r1 q1=>?_) hs hpl;obtain ⟨b1,b2,l1,l2,xs,ys,rfl,q1,q2,hR⟩:=q1;obtain ⟨u1,u2,rfl,rx,ry⟩:=zeg r1;cases rx;cases ry;obtain ⟨its1,rv1,p1⟩:=I1.sqB q1;obtain ⟨its2,rv2,p2⟩:=I1.sqB q2;obtain ⟨o1,e1,_⟩:=SqB.there I1 q1;obtain ⟨o2,e2,_⟩:=SqB.there I1 q2;have n1:=az e1;have n2:=az e2;refine zfu p1 p2 λ h' hz hTI hTO h1 h2 hsz hk=>wpAny_pyIter_zip hz ?_;refine ⟨s1.heap.objs.size + 4,[s1.heap.objs.size + 4,s1.heap.objs.size + 2,s1.heap.objs.size + 3,s1.heap.objs.size,s1.heap.objs.size + 1],_,_,H1,rfl,I1.kept (t':=s1.toks) hk,
  zei _ _ _ _ _ l1 l2 (zdb _ _ _ n1 n2),⟨hz,hTI,⟨_,_,hTO⟩,h1,h2⟩,λ b hb=>?_,hR⟩
 have ge:s1.heap.objs.size<=b:=by
  simp only [aw,bZ,cK] at hb;rcases hb with rfl|rfl|rfl|rfl|rfl
  ·exact di _ _
  ·exact di _ _
  ·exact di _ _
  ·exact aq _
  ·exact di _ _
 exact I1.fpOk ge (I1.hok.fresh ge)
section
variable {K:A0} {σ:St} {H:Hp}
def Ql {a:Addr} {xs:Ap} {DN:St->Hp->Prop} {B:(St->Hp->Prop)->V->St->Hp->Prop} (Pv:Nat->St->Hp->Prop) (h0:Pv 0 σ H) (hl:∀ i σ H,i<=xs.length->Pv i σ H->SqL K H a xs)
  (hs:∀ i x t σ H,xs[i]?=some x->H t=none->Pv i σ H->B (Pv (i + 1)) (.ref t) σ (upd H t (.tup [.int i,x]))) (hd:∀ σ H,Pv xs.length σ H->DN σ H) :
  ∃ W:Nat->Nat->St->Hp->Prop,(∃ m,W 0 m σ H)/\∀ i m σ H,W i m σ H ->
   ((Ite K a).stop i H/\DN σ H)\/((Ite K a).go i H/\∃ N:St->Hp->Prop,(∀ σ' H',N σ' H'->∃ m',m' < m/\W (i + 1) m' σ' H')/\∀ x H',(Ite K a).yld i H x H'->B N x σ H'):=by
 refine ⟨λ i m σ H=>m=xs.length - i/\i<=xs.length/\Pv i σ H,⟨xs.length,by simp,bQ _,h0⟩,?_⟩;rintro i m σ H ⟨rfl,hi,p⟩;have q:=hl i σ H hi p;by_cases hlt:i < xs.length
 ·refine .inr ⟨⟨xs,xs[i],q,by simp [hlt]⟩,Pv (i + 1),λ σ' H' p'=>⟨xs.length - (i + 1),by omega,rfl,hlt,p'⟩,λ v H' y=>?_⟩;obtain ⟨t,x,ht,rfl,hx,rfl⟩:=y;exact hs i x t σ _ (hx xs q) ht p
 ·have e:i=xs.length:=by omega
  subst e;exact .inl ⟨⟨xs,q,aq _⟩,hd σ H p⟩
def zgW {b1 b2:Bool} {a1 a2:Addr} {xs ys:Ap} {DN:St->Hp->Prop} {B:(St->Hp->Prop)->V->St->Hp->Prop} (Pv:Nat->St->Hp->Prop) (h0:Pv 0 σ H) (hl:∀ i σ H,i<=min xs.length ys.length->Pv i σ H->SqB b1 K H a1 xs/\SqB b2 K H a2 ys)
  (hs:∀ i x y t σ H,xs[i]?=some x->ys[i]?=some y->H t=none->Pv i σ H->B (Pv (i + 1)) (.ref t) σ (upd H t (.tup [x,y]))) (hd:∀ σ H,Pv (min xs.length ys.length) σ H->DN σ H) :
  ∃ W:Nat->Nat->St->Hp->Prop,(∃ m,W 0 m σ H)/\∀ i m σ H,W i m σ H ->
   ((Itz K b1 b2 a1 a2).stop i H/\DN σ H)\/((Itz K b1 b2 a1 a2).go i H/\∃ N:St->Hp->Prop,(∀ σ' H',N σ' H'->∃ m',m' < m/\W (i + 1) m' σ' H')/\∀ x H',(Itz K b1 b2 a1 a2).yld i H x H'->B N x σ H'):=by
 refine ⟨λ i m σ H=>m=min xs.length ys.length - i/\i<=min xs.length ys.length/\Pv i σ H,⟨min xs.length ys.length,by simp,bQ _,h0⟩,?_⟩;rintro i m σ H ⟨rfl,hi,p⟩;obtain ⟨q1,q2⟩:=hl i σ H hi p;by_cases hlt:i < min xs.length ys.length
 ·have l1:i < xs.length:=by omega
  have l2:i < ys.length:=by omega
  refine .inr ⟨⟨xs,ys,xs[i],ys[i],q1,q2,by simp [l1],by simp [l2]⟩,Pv (i + 1),λ σ' H' p'=>⟨min xs.length ys.length - (i + 1),by omega,rfl,hlt,p'⟩,λ v H' y=>?_⟩;obtain ⟨t,x,y,ht,rfl,hx,hy,rfl⟩:=y;exact hs i x y t σ _ (hx xs q1) (hy ys q2) ht p
 ·have e:i=min xs.length ys.length:=by omega
  subst e;exact .inl ⟨⟨xs,ys,q1,q2,by omega⟩,hd σ H p⟩
end
section
variable {X:Cx} {N:A8} {scope:Scope} {s:An} {H:Hp} {fp:Ab} {m5:A2}
def cxC_K:(cxC X N scope s H fp m5).K=X.K:=rfl
def cxC_mg:(cxC X N scope s H fp m5).mg=X.mg:=rfl
def cxC_prog:(cxC X N scope s H fp m5).prog=X.prog:=rfl
def cxC_w:(cxC X N scope s H fp m5).w=X.w:=rfl
def cxC_base:(cxC X N scope s H fp m5).base=X.base:=rfl
end
end L2
namespace L2
open PySem PySem.Spec PySem.Calls PyProof.Rows
structure BCal (P:Af) (w:World) (K:A0) (mg:A4) (base:Heap) (x m:Str) (k:Nat) (ps:A8) (dvs:Ap) (sp:Sp):Prop where
 ex:∃ C f fd ds,mg x=some (.ref C)/\specialIn K (.ref C) "__getattribute__"=some (some (.builtin "type.__getattribute__"))/\readsIn K C (.type "type")=true /\
  findCls K (.ref C) (.type "type") m=some (.val (.ref f))/\handedIn (.ref f)=true/\FnOk P w K mg base (CXr P w) k f fd ps sp/\keepIn K (.ref f)=true/\Binds K fd ps ds/\Vals dvs ds
def BCal.mono {P:Af} {w:World} {K:A0} {mg:A4} {base:Heap} {x m:Str} {j k:Nat} {ps:A8} {dvs:Ap} {sp:Sp} (c:BCal P w K mg base x m j ps dvs sp) (h:j<=k:=by decide):BCal P w K mg base x m k ps dvs sp:=by
 obtain ⟨C,f,fd,ds,a,b,c,d,e,g,r⟩:=c.ex;exact ⟨C,f,fd,ds,a,b,c,d,e,g.mono h,r⟩
section
variable {X:Cx} {G:GK} {k:Nat} {x m:Str} {p pos apos:Pos} {e:Expr} {es:List Expr} {t:TA}
def tBase (X:Cx) (k:Nat) (x m:Str) (G:GK) (t:TA):TE:=λ σ H Q=>∃ ps dvs sp,BCal X.prog X.w X.K X.mg X.base x m k ps dvs sp/\t σ H λ vs H1=>sp (vs ++ dvs) H1 Q (λ cls _ H'=>G cls σ H')
def Zf {pl:Sem Bool} (B:Bod X) (hr:Room k X.A) (ha:PA (X.exg G) (e :: es) t) (hg:Gl X x:=by rfl) (hdb:(x == ("__debug__":Str))=false:=by decide)
  (hst:starEach (e :: es) X.env=(false,eval e X.env) :: starEach es X.env:=by rfl) (hpl:(backTo pos (starEach es X.env)).any (·.1)=false:=by rfl)
  (ht:eval (.Call (.Attribute (.Name x p) m apos) (e :: es) [] pos) X.env=(do
   let ov <- eval (.Name x p) X.env
   standAt apos.atName
   let (f,first) <- holding [ov] (getMethod ov m pl)
   callWith pos f first (backTo pos (starEach (e :: es) X.env)) (backToKw pos (keywordEach [] X.env))):=by rfl) :
  PE (X.exg G) (.Call (.Attribute (.Name x p) m apos) (e :: es) [] pos) (tBase X k x m G t):=by
 intro m5 s σ H Q I h;obtain ⟨ps,dvs,sp,⟨C,f,fd,ds,hm,hga,hrd,hfc,hhd,F,hk,hb,hd⟩,h⟩:=h;refine dJ (pl:=pl) (x8 I hg hm ?_ hdb) ht;refine PySem.W.method_cls I.kIn hga (PySem.W.cls_value I.kIn hrd hfc hhd ?_);have I0:=I.tok (s.toks + 1);refine dq (first:=[]) (h₀:=X.base) I.ok.mod.kin hk (vt (ha pos m5 _ σ H _ I0 h) λ us s1 vs H1 I1 r q=>⟨I1.kIn,?_⟩) hst hpl;exact Ju B F hr hb hd I1 r q
end
structure FB (K:A0) (mg:A4) (x m qual:Str) (st:Stmt) (ps:A8):Prop where
 ex:∃ C f fd,mg x=some (.ref C)/\specialIn K (.ref C) "__getattribute__"=some (some (.builtin "type.__getattribute__"))/\readsIn K C (.type "type")=true /\
  findCls K (.ref C) (.type "type") m=some (.val (.ref f))/\Fun K m qual st f fd/\keepIn K (.ref f)=true/\Binds K fd ps []
def FB.cal {P:Af} {w:World} {K:A0} {mg:A4} {base:Heap} {x m qual:Str} {st:Stmt} {ps:A8} {k:Nat} {sp:Sp} (h:FB K mg x m qual st ps)
  (ok:∀ {f fd},Fun K m qual st f fd->FnOk P w K mg base (CXr P w) k f fd ps sp):BCal P w K mg base x m k ps [] sp:=by
 obtain ⟨C,f,fd,a,b,c,d,F,kp,bi⟩:=h.ex;exact ⟨C,f,fd,[],a,b,c,d,rfl,ok F,kp,bi,.nil⟩
def ziC {K:A0} {mg:A4} {C:Addr} {x m qual:Str} {st:Stmt} {ps:A8} {f:Addr} {oc:Am} {od an:Aa} {osl:Ae} {kV doc pm cdv ct:Am} (gl:mg x=some (.ref C))
  (ga:specialIn K (.ref C) "__getattribute__"=some (some (.builtin "type.__getattribute__"))) (rd:readsIn K C (.type "type")=true) (fc:findCls K (.ref C) (.type "type") m=some (.val (.ref f)))
  (l:K.lookup f=some ⟨oc,od,.func (fnOf m qual (zZ st) (zR st) (ze st) .none kV doc pm an cdv ct),osl⟩)
  (c:codeIn K cdv qual=true) (k:keepIn K (.ref f)=true)
  (hb:∀ (kV doc pm:Am) (an:Aa) (cdv ct:Am) (us:A7),us.length=ps.length->bindArgs (fnOf m qual (zZ st) (zR st) (ze st) .none kV doc pm an cdv ct) ⟨us,[]⟩=pure (ps.zip us)):FB K mg x m qual st ps :=
 ⟨C,f,_,gl,ga,rd,fc,w6 l c k,k,(w6 l c k).binds hb⟩
section
variable {X:Cx} {a b:Expr} {ta:TA} {p pos lp lpos:Pos}
noncomputable def rgL (lo:Int) (n:Nat):List V:=(List.range n).map λ (i:Nat)=>V.int (lo + (i:Int))
def zbq {lo:Int} {n:Nat} {mY:Ac} (h:ItemsOf (λ i v=>∃ t,v=.int (lo + i * 1) t) mY n):Vals (rgL lo n) mY.toList:=by
 have key:∀ (k:Nat) (l:A7) (m:Nat),l.length=m->(∀ i v,l[i]?=some v->∃ t,v=Value.int (lo + ((k + i:Nat):Int)) t)->Vals ((List.range' k m).map λ (i:Nat)=>V.int (lo + (i:Int))) l:=by
  intro k l
  induction l generalizing k with
  | nil=>intro m hm _;simp at hm;subst hm;exact .nil
  | cons x r ih =>
   intro m hm hv;obtain ⟨m,rfl⟩:∃ m',m=m' + 1:=⟨r.length,by simpa using hm.symm⟩;rw [List.range'_succ,bM];refine .cons ?_ (ih (k + 1) m (by simpa using hm) λ i v e=>?_)
   ·obtain ⟨t,e⟩:=hv 0 x rfl;exact ⟨t,by simpa using e⟩
   ·obtain ⟨t,e'⟩:=hv (i + 1) v (by simpa using e);exact ⟨t,by rw [e'];congr 2;omega⟩
 have:=key 0 mY.toList n (by simpa using h.1) λ i v e=>by
  obtain ⟨t,e'⟩:=h.2 i v (by simpa using e);exact ⟨t,by rw [e'];simp⟩
 rw [rgL,List.range_eq_range'];exact this
def tRg1 (X:Cx) (ta:TA):TE:=λ σ H Q=>X.mg "range"=none/\ta σ H λ vs H1=>lq vs λ v=>iq v λ j=>∀ p,H1 p=none->Q (.ref p) (upd H1 p (.rng 0 j))
def zhm (ha:PA X [a] ta) (hg:Gl X "range":=by rfl) (hs:starEach [a] X.env=[(false,eval a X.env)]:=by rfl):PE X (.Call (.Name "range" p) [a] [] pos) (tRg1 X ta):=by
 intro m5 s σ H Q I h;refine Call_ (wY I hg h.1 boot_range (aZ (vt (ha pos m5 s σ H _ I h.2) λ us s1 vs H1 I1 r1 q1=>?_) hs rfl));obtain ⟨j,e,q⟩:=ze2 q1;subst e;cases r1 with
 | cons r rr =>
  cases rr;obtain ⟨t,rfl⟩:=r;exact call_range_1 ⟨.ref _,_,I1.laid (o:=.rng 0 j) (λ b o e=>ai _ e) (aq _) ⟨_,_,_,aD _ rfl⟩,rfl,q _ I1.fresh⟩
def zbL {lo:Int} {n:Nat}:(rgL lo n).length=n:=by simp [rgL]
def zfA (hc:X.calm=true):CallR X (.type "list") (λ xs H Q=>∃ p lo hi,xs=[.ref p]/\H p=some (.rng lo hi)/\(-(2 ^ 62)<=lo/\lo < 2 ^ 62/\-(2 ^ 62)<=hi/\hi < 2 ^ 62/\(hi - lo).toNat<=1000)/\∀ l,H l=none->Q (.ref l) (upd H l (.lst (rgL lo (hi - lo).toNat)))):=by
 intro m5 s σ H xs us Q I r h;obtain ⟨p,lo,hi,rfl,hq,⟨h1,h2,h3,h4,h5⟩,q⟩:=h;obtain ⟨u,rfl,rx⟩:=QZ r;cases rx;obtain ⟨t,u,v,e⟩:=I.hok p _ hq;refine call_list_range (n:=(hi - lo).toNat) (I.ok.hd hc) e (small_one h1 h2 h3 h4) (by rw [rangeSize_one];split <;> omega) (by omega) λ h' tk acc' c' hk hS hit=>?_;exact ⟨.ref _,_,I.laid (o:=.lst (rgL lo (hi - lo).toNat)) (t':=tk) hk (aq _) ⟨by rw [zbL];exact bn (zk h5),acc'.toList,c',zbq hit,by simpa using hS⟩,rfl,q _ I.fresh⟩
end
end L2
namespace L2
open PySem PySem.Spec PyProof.Rows
noncomputable def Itd (lo:Int) (n:Nat):It:=⟨λ i _=>i < n,λ i H x H'=>H'=H/\x=.int (lo - i),λ i _=>n<=i⟩
def zde {P:Af} {w:World} {K:A0} {tg:Expr} (it:Addr) (lo:Int) (n:Nat):Turn P w K tg (Itd lo n) [it] it (λ i h=>IsRangeIter h it (lo + (i:Nat) * (-1)) ((n:Int) - (i:Nat)) (-1)) where
 mem:=by simp
 obj:=λ i h st b hb=>by
  have e:b=it:=by simpa using hb
  subst e;exact ⟨_,st,λ v z=>by
   have z':Data.fields _=Data.cell v:=z;cases z'⟩
 keep:=λ i h h' st k=>k it (by simp) _ st
 item:=by
  intro X hP hw hK hc i m5 s σ H E I hf st hg;subst hP hw hK;obtain ⟨f0,f1,f2,f3,f4,f5⟩:=hf it (by simp);have W:=Walks.range (prog:=X.prog) (w:=X.w) (I.ok.hd hc) it lo (-1) n;refine W.item i s _ _ hg st λ v h' tk hv st' kk=>?_;obtain ⟨t,rfl⟩:=hv;have I1:Inv X m5 σ H { s with heap:=h',toks:=tk }:=I.turned (λ b o hb e=>kk b o (by simpa using hb) e) f0 f1 f3 f4 f5;refine ⟨_,rfl,zcP (s:={ s with heap:=h',toks:=tk }) (n:="range_iterator") st' rfl rfl (by decide) ⟨.int (lo - i),H,I1,⟨t,?_⟩,⟨rfl,rfl⟩,st',λ b hb=>(hf b hb).1⟩⟩
  congr 1;omega
 done:=by
  intro X hP hw hK hc i m5 s σ H E I hf st hg;subst hP hw hK;obtain ⟨f0,f1,f2,f3,f4,f5⟩:=hf it (by simp);exact wpAny_pyNext_range_end (I.ok.hd hc) st (by have:n<=i:=hg;omega) λ h' eb=>⟨rfl,I.turned (t':=s.toks) (λ b o hb e=>eb b o hb e) f0 f1 f3 f4 f5⟩
 self:=λ _ _ _ _ _ st h=>wpAny_pyIter_rangeiter st h
def vI (a b:Int):Builtin.Range.rangeSize a b (-1)=((a - b).toNat:Int):=by
 unfold Builtin.Range.rangeSize;rw [am (by decide),show (- (-1:Int))=1 from rfl,Int.ediv_one]
 split <;> omega
def zby {a b:Int} (ha:-(2 ^ 62)<=a) (ha':a < 2 ^ 62) (hb:-(2 ^ 62)<=b) (hb':b < 2 ^ 62):Builtin.Range.small a b (-1)=true:=by
 unfold Builtin.Range.small;rw [vI];simp only [Builtin.Range.rangeFitsLong,dm,Bool.or_eq_true,da,bx,show ¬ ((-1:Int) > 0) by decide,dL];omega
section
variable {X:Cx} {tg:Expr}
def zgv {m5:A2} {σ:St} {H:Hp} {s:An} {R:It->Hp->Prop} {E:A3} {lo hi:Int} {t u v:Tok} {tk:Nat} (I:Inv X m5 σ H s) (h1:-(2 ^ 62)<=lo) (h2:lo < 2 ^ 62) (h3:-(2 ^ 62)<=hi) (h4:hi < 2 ^ 62)
  (q:R (Itd lo (lo - hi).toNat) H):wpAny (model X.prog X.w) X.A (pyIter (.ref s.heap.objs.size)) (PIE X m5 σ tg R) E { s with heap:=s.heap.push { cls:=.type "range",data:=.fields #[.int lo t,.int hi u,.int (-1) v] },toks:=tk }:=by
 refine wpAny_pyIter_range (IsRange.new ..) (zby h1 h2 h3 h4) ?_;have I1:Inv X m5 σ H { s with heap:=s.heap.push { cls:=.type "range",data:=.fields #[.int lo t,.int hi u,.int (-1) v] },toks:=tk }:=I.kept λ b o e=>ai _ e;refine ⟨(s.heap.push { cls:=.type "range",data:=.fields #[.int lo t,.int hi u,.int (-1) v] }).objs.size,[(s.heap.push { cls:=.type "range",data:=.fields #[.int lo t,.int hi u,.int (-1) v] }).objs.size],_,_,H,rfl,
  I1.kept (t':=tk) λ b o e=>ai _ e,zde _ lo (lo - hi).toNat,?_,λ b hb=>?_,q⟩
 ·have e1:lo + ((0:Nat):Int) * (-1)=lo:=by simp
  have e2:(((lo - hi).toNat:Nat):Int) - ((0:Nat):Int)=Builtin.Range.rangeSize lo hi (-1):=by rw [vI];omega
  show IsRangeIter _ _ (lo + ((0:Nat):Int) * (-1)) ((((lo - hi).toNat:Nat):Int) - ((0:Nat):Int)) (-1)
  rw [e1,e2];exact aD _ rfl
 ·have e:b=(s.heap.push { cls:=.type "range",data:=.fields #[.int lo t,.int hi u,.int (-1) v] }).objs.size:=by simpa using hb
  subst e;exact I1.fpOk (aq _) (I1.hok.fresh (aq _))
def iRng3 (X:Cx) (ta:TA):TI:=λ σ H R=>X.mg "range"=none/\ta σ H λ vs H1=>∃ i j:Int,vs=[.int i,.int j,.int (-1)]/\(-1000<=i/\i < 1000/\-1000<=j/\j < 1000)/\R (Itd i (i - j).toNat) H1
theorem zhk {a b c:Expr} {ta:TA} {p pos:Pos} (ha:PA X [a,b,c] ta) (hg:Gl X "range":=by rfl) (hs:starEach [a,b,c] X.env=[(false,eval a X.env),(false,eval b X.env),(false,eval c X.env)]:=by rfl) (hs2:starEach [b,c] X.env=[(false,eval b X.env),(false,eval c X.env)]:=by rfl) :
  PI X tg (.Call (.Name "range" p) [a,b,c] [] pos) (iRng3 X ta):=by
 intro m5 s σ H R I h;refine Call_ (wY I hg h.1 boot_range (aZ (vt (ha pos m5 s σ H _ I h.2) λ us s1 vs H1 I1 r1 q1=>?_) (by rw [hs,hs2]) (by rw [hs2];rfl)));obtain ⟨i,j,e,⟨q1,q2,q3,q4⟩,q⟩:=q1;subst e;cases r1 with
 | cons r rr =>
  cases rr with
  | cons r' rr =>
   cases rr with
   | cons r'' rr =>
    cases rr;obtain ⟨t,rfl⟩:=r;obtain ⟨t',rfl⟩:=r';obtain ⟨t'',rfl⟩:=r'';exact call_range_3 (by decide) (zgv I1 (by omega) (by omega) (by omega) (by omega) q) (Or.inl (ft (by omega)))
def ziz {K:A0} {σ:St} {H:Hp} {lo:Int} {n:Nat} {DN:St->Hp->Prop} {B:(St->Hp->Prop)->V->St->Hp->Prop} (Pv:Nat->St->Hp->Prop) (h0:Pv 0 σ H)
  (hs:∀ i σ H,i < n->Pv i σ H->B (Pv (i + 1)) (.int (lo - i)) σ H) (hd:∀ σ H,Pv n σ H->DN σ H) :
  ∃ W:Nat->Nat->St->Hp->Prop,(∃ m,W 0 m σ H)/\∀ i m σ H,W i m σ H ->
   ((Itd lo n).stop i H/\DN σ H)\/((Itd lo n).go i H/\∃ N:St->Hp->Prop,(∀ σ' H',N σ' H'->∃ m',m' < m/\W (i + 1) m' σ' H')/\∀ x H',(Itd lo n).yld i H x H'->B N x σ H'):=by
 refine ⟨λ i m σ H=>m=n - i/\i<=n/\Pv i σ H,⟨n,by simp,bQ _,h0⟩,?_⟩;rintro i m σ H ⟨rfl,hi,p⟩;by_cases hlt:i < n
 ·refine .inr ⟨hlt,Pv (i + 1),λ σ' H' p'=>⟨n - (i + 1),by omega,rfl,hlt,p'⟩,λ x H' y=>?_⟩;obtain ⟨e,y⟩:=y;subst e y;exact hs i σ _ hlt p
 ·have e:i=n:=by omega
  subst e;exact .inl ⟨aq _,hd σ H p⟩
end
section
variable {X:Cx} {tg:Expr}
end
end L2
namespace L2
open PySem PySem.Spec PySem.Calls PyProof.Rows
variable {st:Stmt}
theorem ZX:∀ {us:A7} {ns:A6},IntsAre us ns->Vals (ns.map V.int) us
 | _,_,.nil=>.nil
 | _,_,.cons n t h=>.cons ⟨t,rfl⟩ (ZX h)
section
variable {X:Cx}
def zd9:CallR X (.builtin "sorted") (λ xs H Q=>∃ p,∃ ns:List Int,xs=[.ref p]/\SqL X.K H p (ns.map V.int)/\ns.length < 64 /\
  ∀ (ms:A6) l,ms.Perm ns->ms.Pairwise (·<=·)->H l=none->Q (.ref l) (upd H l (.lst (ms.map V.int)))):=by
 intro m5 s σ H xs us Q I r h;obtain ⟨p,ns,rfl,hp,h64,q⟩:=h;obtain ⟨u,rfl,rx⟩:=QZ r;cases rx;obtain ⟨mX,rv,hl,hz⟩:=I.list hp;have hlen:mX.length=ns.length:=by have:=rv.length;rw [af] at this;exact this.symm
 refine sorted_ints hl.isList (zca rv) (by omega) λ out ms a1 a2 a3=>?_;obtain ⟨e,he⟩:=sortedAll_at s.heap mX out;exact ⟨.ref _,_,I.laid (a:=s.heap.objs.size + 1) (o:=.lst (ms.map V.int)) (t':=s.toks) (λ b o h=>sortedAll_old h) (b8 _) ⟨by rw [af,a2.length_eq];exact bn (zk (by omega)),out.toList,e,ZX a1,by simpa using he⟩,rfl,q ms _ a2 a3 (I.hok.fresh (b8 _))⟩
end
structure FunD (K:A0) (x qual:Str) (st:Stmt) (f:Addr) (fd:FuncData):Prop where
 ex:∃ (oc:Am) (od:Aa) (dV kV doc pm:Am) (an:Aa) (cdv ct:Am) (osl:Ae),
  fd=fnOf x qual (zZ st) (zR st) (ze st) dV kV doc pm an cdv ct/\K.lookup f=some ⟨oc,od,.func fd,osl⟩/\codeIn K cdv qual=true
 kp:keepIn K (.ref f)=true
section
variable {P:Af} {w:World} {K:A0} {mg:A4} {base:Heap}
def FunD.okx {x qual:Str} {f:Addr} {fd:FuncData} {N ps:A8} {k:Nat} {sp:Sp} (F:FunD K x qual st f fd) (S:FnScope N ps (ze st)) (len:∀ vs H Q E,sp vs H Q E->vs.length=ps.length)
  (hbody:∀ (cdv:Am) (A:Ao) (outer:List Env) (s:An) (H:Hp) (vs:Ap) (Q:VK) (E:XK),Room k (A.deeper (envOfC qual (ze st) s.heap.objs.size f cdv))->sp vs H Q E ->
   ∃ t,PSs ((cxR P w K mg base N qual (ze st) f cdv A outer s H E).exg λ cls _ H'=>E cls none H') (zR st) t/\t { nx:=λ _ H'=>Q .non H',rt:=Q } (start N vs) H):FnOk P w K mg base (CXr P w) (k + 1) f fd ps sp:=by
 obtain ⟨oc,od,dV,kV,doc,pm,an,cdv,ct,osl,rfl,lk,hcd⟩:=F.ex;refine zfk lk hcd S len λ A outer s H vs Q E hr hsp=>?_;obtain ⟨t,h,q⟩:=hbody cdv A outer s H vs Q E hr hsp;refine ⟨t,λ m5 s σ H' D I hw=>?_,q⟩;refine aU (h m5 s σ H' D (I.wish _) hw) (λ _ _ z=>z.unwish) λ e s' z=>?_;refine ad (aU (show wpAny _ _ _ _ _ _ from z) (λ _ s1 y1=>aU y1 (λ _ s'' y=>?_) λ _ _ y=>y.elim) λ _ _ y=>y.elim);obtain ⟨a,cls,σ2,H2,rfl,J,xx,g⟩:=y;exact ⟨a,cls,H2,rfl,J.os,J.bare,J.base,J.hok,xx.less (λ p hp=>absurd hp (by simp)),g⟩
structure FD (K:A0) (mg:A4) (x:Str) (st:Stmt) (ps:A8) (dvs:Ap):Prop where
 ex:∃ f fd ds,FunD K x x st f fd/\mg x=some (.ref f)/\Binds K fd ps []/\Binds K fd ps ds/\Vals dvs ds
def FD.cal {x:Str} {ps:A8} {dvs:Ap} {k:Nat} {sp:Sp} (h:FD K mg x st ps dvs) (ok:∀ {f fd},FunD K x x st f fd->FnOk P w K mg base (CXr P w) k f fd ps sp) :
  Cal P w K mg base x k ps [] sp:=by
 obtain ⟨f,fd,_,F,m,b,_⟩:=h.ex;exact ⟨f,fd,[],ok F,m,F.kp,b,.nil⟩
def FD.cald {x:Str} {ps:A8} {dvs:Ap} {k:Nat} {sp:Sp} (h:FD K mg x st ps dvs) (ok:∀ {f fd},FunD K x x st f fd->FnOk P w K mg base (CXr P w) k f fd ps sp) :
  Cal P w K mg base x k ps dvs sp:=by
 obtain ⟨f,fd,ds,F,m,_,b,v⟩:=h.ex;exact ⟨f,fd,ds,ok F,m,F.kp,b,v⟩
def zfm {h:Heap} {x:Str} {ps:A8} {dvs:Ap} {f dT:Addr} {oc toc:Am} {od an tod:Aa} {osl tsl:Ae} {items:Ac} {tn:Nat} {kV doc pm cdv ct:Am} (X:K.In h) (G:h.Ns mainGlobals mg)
  (a:nsIn K mainGlobals x=some (some (.ref f))) (l:K.lookup f=some ⟨oc,od,.func (fnOf x x (zZ st) (zR st) (ze st) (.ref dT) kV doc pm an cdv ct),osl⟩)
  (c:codeIn K cdv x=true) (k:keepIn K (.ref f)=true) (lt:K.lookup dT=some ⟨toc,tod,.seq items tn,tsl⟩) (hv:Vals dvs items.toList)
  (hb:∀ (s:An) (us:A7),K.In s.heap->us.length=ps.length->BindsTo s (fnOf x x (zZ st) (zR st) (ze st) (.ref dT) kV doc pm an cdv ct) ⟨us,[]⟩ (ps.zip us))
  (hd:∀ (s:An) (us:A7),K.In s.heap->(us ++ items.toList).length=ps.length->BindsTo s (fnOf x x (zZ st) (zR st) (ze st) (.ref dT) kV doc pm an cdv ct) ⟨us,[]⟩ (ps.zip (us ++ items.toList))):FD K mg x st ps dvs :=
 ⟨f,_,items.toList,⟨⟨oc,od,.ref dT,kV,doc,pm,an,cdv,ct,osl,rfl,l,c⟩,k⟩,cg X G a,(λ s us hK hl=>by rw [bU] at hl ⊢;exact hb s us hK hl),hd,hv⟩
end
end L2
namespace L2
open PySem PySem.Spec PySem.Calls PyProof.Rows
variable {items:Ac}
def zb1:typeLookup (.type "list_reverseiterator") "__len__"=pure none:=by rw [typeLookup_type,builtinLookup_eq_fast];kernel_rfl
def ze1:typeLookup (.type "list_reverseiterator") "__length_hint__"=pure (some (.builtin "list_reverseiterator.__length_hint__")):=by rw [typeLookup_type,builtinLookup_eq_fast];kernel_rfl
def Va:isSubtype (.type "list_reverseiterator") (.type "list_reverseiterator")=pure true:=by rw [isSubtype_type];kernel_rfl
section
variable {prog:Af} {w:World} {A:Ao} {E:A3} {s:An} {R:Result->Shared->Prop}
def zfe {D l:Addr} {i:Int} {Q:Bool->Shared->Prop} (hit:s.heap.IsRevIter D l i) (h:Q false s):wpAny (model prog w) A (Builtin.List.listLengthHint (.ref D)) Q E s:=by
 unfold Builtin.List.listLengthHint;refine ad (dQ hit.typeIs zb1 ?_);show wpAny _ _ (specialOf (Value.ref D) (Str.ofString "__length_hint__") >>= _) _ _ _
 refine ad (dQ hit.typeIs ze1 ?_);generalize hid:("list_reverseiterator.__length_hint__":String)=id0
 wp_delta
 rw [show splitId id0=some ("list_reverseiterator","__length_hint__") from by subst hid;decide +kernel];subst hid;refine ad (eY (T:="list_reverseiterator") (b:=true) hit.typeIs Va ?_);refine dR (λ hab=>absurd hab (by decide)) (λ _=>?_);refine dR (λ _=>?_) (λ hab=>absurd (by decide +kernel) hab);exact dR (λ hab=>absurd hab (by decide +kernel)) (λ _=>aC h)
def zch {D l:Addr} (hh:A.handled=none) (hne:l≠D) (hn:items.size<=sizeLine) (S:Addr) (res:Am) (c₀:Nat) (hit:s.heap.IsRevIter D l ((items.size:Int) - 1)) (hl:s.heap.IsList l items) (hSD:S≠D) (hSl:S≠l)
  (hS:s.heap.get? S=some { cls:=.type "list",data:=.seq #[] c₀ })
  (hR:∀ h' tk acc' c',(∀ b o,b≠S->b≠D->s.heap.get? b=some o->h'.get? b=some o)->h'.get? S=some { cls:=.type "list",dict:=none,data:=.seq acc' c',slots:=#[] }->ItemsOf (λ i v=>items[items.size - 1 - i]?=some v) acc' items.size->R (.ok (.ret res)) { s with heap:=h',toks:=tk }) :
  wpAny (model prog w) A.in1 (Builtin.List.listExtendWith (.ref S) (.ref D) res)
   (λ fin s'=>match fin with | .done f=>R (.ok f) s' | .again c'=>c'.quiet=true/\codeAny (model prog w) A c' R s') (λ e s'=>R (.error e) s') s:=by
 have W:=(Walks.listRev (prog:=prog) (w:=w) (A:=A.in1) hh D l hne items).toS;have hSf:S ∉ [D,l]:=λ hm=>by
  rcases aw.mp hm with e|hm
  ·exact hSD e
  ·exact hSl (ar.mp hm)
 unfold Builtin.List.listExtendWith;refine ad (wpAny_typeOf hit.typeIs ?_);have h1:Builtin.List.listSameRef (.ref S) (.ref D)=false:=by simp [Builtin.List.listSameRef,hSD]
 have h2:(Value.type "list_reverseiterator" == Value.type "list")=false:=by decide
 have h3:(Value.type "list_reverseiterator" == Value.type "tuple")=false:=by decide
 simp only [h1,h2,h3,Bool.or_false,cu,dL];refine ad (wpAny_pyIter_revIter hit ?_);refine ad (dD (zfe hit ?_));refine dR (λ hab=>absurd hab (by decide)) (λ _=>aC ⟨plainId_quiet F.plain_extend_loop _,?_⟩);have hit0:s.heap.IsRevIter D l ((items.size:Int) - 1 - ((0:Nat):Int)):=by simpa using hit
 refine codeAny_extend_loopS W hn S hSf res items.size 0 _ #[] c₀ rfl (bQ _) ⟨bQ _,hit0,hl⟩ hS (ItemsOf.nil _) λ s' acc' c' hm hS' hacc=>?_;rw [Moved.eq_with hm];refine hR s'.heap s'.toks acc' c' (λ b o hb hd e=>hm.heap b o (λ hmem=>?_) e) hS' hacc;rcases aw.mp hmem with e'|hmem
 ·exact hb e'
 ·exact hd (ar.mp hmem)
def Wb {D l:Addr} (hh:A.handled=none) (hne:l≠D) (hn:items.size<=sizeLine) (S:Addr) (hit:s.heap.IsRevIter D l ((items.size:Int) - 1)) (hl:s.heap.IsList l items) (hSD:S≠D) (hSl:S≠l)
  (hS:s.heap.get? S=some { cls:=.type "list",data:=.seq #[] })
  (hR:∀ h' tk acc' c',(∀ b o,b≠S->b≠D->s.heap.get? b=some o->h'.get? b=some o)->h'.get? S=some { cls:=.type "list",dict:=none,data:=.seq acc' c',slots:=#[] }->ItemsOf (λ i v=>items[items.size - 1 - i]?=some v) acc' items.size->R (.ok (.ret .none)) { s with heap:=h',toks:=tk }) :
  wpAny (model prog w) A.in1 (Builtin.«list.__init__» ⟨[.ref S,.ref D],[]⟩)
   (λ fin s'=>match fin with | .done f=>R (.ok f) s' | .again c'=>c'.quiet=true/\codeAny (model prog w) A c' R s') (λ e s'=>R (.error e) s') s:=by
 show wpAny _ A.in1 (do let old <- Builtin.List.listItems (.ref S);Builtin.List.listUpdate (.ref S) (λ _=>#[]);letGo old.toList.reverse;Builtin.List.listExtendWith (.ref S) (.ref D) .none) _ _ s
 refine ad ?_;unfold Builtin.List.listItems;refine ad (bB hS rfl (aC ?_));show wpAny _ A.in1 (updateSeq S (λ _=>#[]) >>= λ _=>letGo (#[]:Ac).toList.reverse >>= λ _=>Builtin.List.listExtendWith (.ref S) (.ref D) .none) _ _ s
 refine ad (wpAny_updateSeq hS rfl ?_);have hS₂:=br (Obj.mapSeq (λ _=>(#[]:Ac))) hS rfl;have oth:∀ b o,b≠S->s.heap.get? b=some o->(s.heap.update S (Obj.mapSeq (λ _=>(#[]:Ac)))).get? b=some o :=
  λ b o hb e=>(a9 _ _ (aW hb)).trans e
 refine ad (fj ?_);refine zch (items:=items) (l:=l) hh hne hn S .none _ (hit.at λ o e=>oth _ _ (aW hSD) e) (hl.at λ o e=>oth _ _ (aW hSl) e) hSD hSl hS₂ λ h' tk acc' c' hk hS' hacc=>?_;exact hR h' tk acc' c' (λ b o hb hd e=>hk b o hb hd (oth b o hb e)) hS' hacc
def Wf {D l:Addr} {Q:A3} (hh:A.handled=none) (hne:l≠D) (hn:items.size<=sizeLine) (hit:s.heap.IsRevIter D l ((items.size:Int) - 1)) (hl:s.heap.IsList l items)
  (hQ:∀ h' tk acc' c',(∀ b o,b≠D->s.heap.get? b=some o->h'.get? b=some o)->h'.get? s.heap.objs.size=some { cls:=.type "list",dict:=none,data:=.seq acc' c',slots:=#[] }->ItemsOf (λ i v=>items[items.size - 1 - i]?=some v) acc' items.size->Q (.ref s.heap.objs.size) { s with heap:=h',toks:=tk }) :
  wpAny (model prog w) A (call (.type "list") [.ref D]) Q E s:=by
 have hlD:D < s.heap.objs.size:=by obtain ⟨o,e,_⟩:=hit;exact az e
 have hll:l < s.heap.objs.size:=by obtain ⟨o,e,_⟩:=hl;exact az e
 refine callType_codes (Q₁:=λ obj s₁=>obj=.ref s.heap.objs.size/\s₁={ s with heap:=s.heap.push { cls:=.type "list",data:=.seq #[] } }) F.called_list (F.typeCall_list_1 _) F.entry_list_init
  (code_list_new _ ⟨rfl,rfl⟩) λ obj s₁ h₁=>?_
 obtain ⟨rfl,rfl⟩:=h₁;have hS:(s.heap.push { cls:=.type "list",data:=.seq #[] }).get? s.heap.objs.size=some { cls:=.type "list",data:=.seq #[] }:=aD _ rfl;refine ⟨⟨_,hS,rfl⟩,F.args_list_init_2 _ _,Wb (A:=A.in1) (l:=l) hh hne hn _ (hit.at λ o e=>ai _ e) (hl.at λ o e=>ai _ e) (cx hlD) (cx hll) hS λ h' tk acc' c' hk hS' hacc=>?_⟩;exact ⟨rfl,hQ h' tk acc' c' (λ b o hb e=>hk b o (aK (az e)) hb (ai _ e)) hS' hacc⟩
end
section
variable {X:Cx} {a:Expr} {ta:TA} {p p2 pos pos2:Pos}
def zef {xs:Ap} {mX:A7} {mY:Ac} (r:Vals xs mX) (h:ItemsOf (λ i v=>mX.toArray[mX.toArray.size - 1 - i]?=some v) mY mX.toArray.size):Vals xs.reverse mY.toList:=by
 have e:mY.toList=mX.reverse:=by
  apply List.ext_getElem?;intro i;have hsz:mY.toList.length=mX.length:=by simpa using h.1
  by_cases hi:i < mX.length
  ·have hi':i < mY.toList.length:=by omega
   rw [ac hi',eQ hi];have:=h.2 i (mY.toList[i]) (by rw [<- cF,ac hi']);simp at this;exact this.symm
  ·rw [bt (by omega),bt (by simp;omega)]
 rw [e];exact r.reverse
def zh9 (X:Cx) (ta:TA):TE:=λ σ H Q=>X.mg "list"=none/\X.mg "reversed"=none/\ta σ H λ vs H1=>∃ l xs,vs=[.ref l]/\SqL X.K H1 l xs/\∀ q,H1 q=none->Q (.ref q) (upd H1 q (.lst xs.reverse))
def zbj:bootBuiltins "reversed"=some (.type "reversed"):=by decide +kernel
def zgd (hc:X.calm=true) (ha:PA X [a] ta) (hg:Gl X "list":=by rfl) (hg2:Gl X "reversed":=by rfl)
  (hs:starEach [Expr.Call (.Name "reversed" p2) [a] [] pos2] X.env=[(false,eval (Expr.Call (.Name "reversed" p2) [a] [] pos2) X.env)]:=by rfl) (hs2:starEach [a] X.env=[(false,eval a X.env)]:=by rfl) :
  PE X (.Call (.Name "list" p) [.Call (.Name "reversed" p2) [a] [] pos2] [] pos) (zh9 X ta):=by
 intro m5 s σ H Q I h;refine Call_ (wY I hg h.1 we (aZ ?_ hs rfl));rw [hs];refine Calls.spliced_cons (Call_ (wY I hg2 h.2.1 zbj (aZ (vt (ha pos2 m5 s σ H _ I h.2.2) λ us s1 vs H1 I1 r1 q1=>?_) hs2 rfl)));obtain ⟨l,xs,e,hq,q⟩:=q1;subst e;obtain ⟨u,rfl,rx⟩:=QZ r1;cases rx;obtain ⟨mX,rv,hl,hz⟩:=I1.list hq;have hll:l < s1.heap.objs.size:=by obtain ⟨o,e,_⟩:=hl.isList;exact az e
 have hlen:=rv.length;refine call_reversed_list hl.isList ?_;refine Calls.spliced_nil ?_;refine Wf (l:=l) (items:=mX.toArray) (I1.ok.hd hc) (aK hll) (by rw [av,<- hlen];exact hz) ⟨_,aD _ rfl,rfl,rfl⟩ (hl.isList.push _) λ h' tk acc' c' hk hS hit=>?_;refine ⟨.ref _,_,I1.laid (o:=.lst xs.reverse) (t':=tk) (λ b o e=>hk b o (aK (az e)) (ai _ e)) ?_ ⟨?_,acc'.toList,c',zef rv hit,by simpa using hS⟩,rfl,q _ (I1.hok.fresh ?_)⟩
 ·simp only [bE];exact b8 _
 ·rw [dZ];exact hz
 ·simp only [bE];exact b8 _
end
section
variable {X:Cx}
end
end L2
namespace L2
open PySem PySem.Spec PyProof.Rows
variable {H:Hp} {mW:As} {v:V} {b l:Addr} {w:World} {u:Am} {i:Nat}
inductive D where
 | non|bl (b:Bool)|int (i:Int)|str (x:Str)|lst (xs:List D)|tup (xs:List D)|ob (C:Addr) (fs:List (Str × D))
inductive Rep (H:Hp) (p:A5):V->D->Prop where
 | non:Rep H p .non .non
 | bl {b:Bool}:Rep H p (.bl b) (.bl b)
 | int {i:Int}:Rep H p (.int i) (.int i)
 | str {x:Str}:Rep H p (.str x) (.str x)
 | lst {l:Addr} {vs:Ap} {ds:List D}:p l->H l=some (.lst vs)->vs.length=ds.length->(∀ (i:Nat) v d,vs[i]?=some v->ds[i]?=some d->Rep H p v d)->Rep H p (.ref l) (.lst ds)
 | tup {l:Addr} {vs:Ap} {ds:List D}:p l->H l=some (.tup vs)->vs.length=ds.length->(∀ (i:Nat) v d,vs[i]?=some v->ds[i]?=some d->Rep H p v d)->Rep H p (.ref l) (.tup ds)
 | ob {l C dx:Addr} {fs:Ar} {ds:List (Str × D)}:p l->H l=some (.ins C dx fs)->fs.map (·.1)=ds.map (·.1)->(∀ (i:Nat) f g,fs[i]?=some f->ds[i]?=some g->Rep H p f.2 g.2)->Rep H p (.ref l) (.ob C ds)
def Rep.keep {H H':Hp} {p q:A5} (s:∀ b o,p b->H b=some o->q b/\H' b=some o) {d:D} (h:Rep H p v d):Rep H' q v d:=by
 induction h with
 | non=>exact .non
 | bl=>exact .bl
 | int=>exact .int
 | str=>exact .str
 | lst pl hl e _ ih=>exact .lst (s _ _ pl hl).1 (s _ _ pl hl).2 e ih
 | tup pl hl e _ ih=>exact .tup (s _ _ pl hl).1 (s _ _ pl hl).2 e ih
 | ob pl hl e _ ih=>exact .ob (s _ _ pl hl).1 (s _ _ pl hl).2 e ih
structure Reps (H:Hp) (p:A5) (vs:Ap) (ds:List D):Prop where
 len:vs.length=ds.length
 g:∀ (i:Nat) v d,vs[i]?=some v->ds[i]?=some d->Rep H p v d
section
variable {H H':Hp} {p q:A5} {vs us:Ap} {ds es:List D} {v:V} {d:D}
def Reps.keep (s:∀ b o,p b->H b=some o->q b/\H' b=some o) (h:Reps H p vs ds):Reps H' q vs ds:=⟨h.len,λ i v d a b=>(h.g i v d a b).keep s⟩
def Reps.nil:Reps H p [] []:=⟨rfl,λ i v d h=>by simp at h⟩
theorem Reps.cons (h:Rep H p v d) (k:Reps H p vs ds):Reps H p (v :: vs) (d :: ds):=⟨by simp [k.len],λ i u e a b=>by
 cases i with
 | zero =>
  have a:v=u:=by simpa using a
  have b:d=e:=by simpa using b
  rw [<- a,<- b];exact h
 | succ i=>exact k.g i u e (by simpa using a) (by simpa using b)⟩
def Reps.one (h:Rep H p v d):Reps H p [v] [d]:=.cons h .nil
def Reps.append (h:Reps H p vs ds) (k:Reps H p us es):Reps H p (vs ++ us) (ds ++ es):=by
 refine ⟨by rw [aM,aM,h.len,k.len],λ i v r e1 e2=>?_⟩;by_cases hi:i < vs.length
 ·rw [aT hi] at e1;rw [aT (by rw [<- h.len];exact hi)] at e2;exact h.g i v r e1 e2
 ·rw [aJ (by omega)] at e1;rw [aJ (by rw [<- h.len];omega),<- h.len] at e2;exact k.g _ v r e1 e2
def Reps.at (h:Reps H p vs ds) (e:vs[i]?=some v):∃ d,ds[i]?=some d/\Rep H p v d:=by
 have hi:=(aa.mp e).1;have e2:ds[i]?=some (ds[i]'(by rw [<- h.len];exact hi)):=ac _;exact ⟨_,e2,h.g i v _ e e2⟩
def Reps.of (h:Reps H p vs ds) (e:ds[i]?=some d):∃ v,vs[i]?=some v/\Rep H p v d:=by
 have hi:=(aa.mp e).1;have e2:vs[i]?=some (vs[i]'(by rw [h.len];exact hi)):=ac _;exact ⟨_,e2,h.g i _ d e2 e⟩
def Reps.take (h:Reps H p vs ds) (n:Nat):Reps H p (vs.take n) (ds.take n):=⟨by rw [aR,aR,h.len],λ i v d a b=>by
 rw [List.getElem?_take] at a b;by_cases hn:i < n
 ·rw [ap hn] at a b;exact h.g i v d a b
 ·rw [am hn] at a;cases a⟩
def Reps.drop (h:Reps H p vs ds) (n:Nat):Reps H p (vs.drop n) (ds.drop n):=⟨by rw [dn,dn,h.len],λ i v d a b=>by
 rw [List.getElem?_drop] at a b;exact h.g _ v d a b⟩
def Reps.reverse (h:Reps H p vs ds):Reps H p vs.reverse ds.reverse:=⟨by rw [dZ,dZ,h.len],λ i v d a b=>by
 have hi:i < vs.length:=by have:=(aa.mp a).1;rw [dZ] at this;exact this
 rw [eQ hi] at a;rw [eQ (by rw [<- h.len];exact hi),<- h.len] at b;exact h.g _ v d a b⟩
def Reps.mk' (h:Reps H p vs ds) (pl:p l) (e:H l=some (.lst vs)):Rep H p (.ref l) (.lst ds):=.lst pl e h.len h.g
def Reps.mkT (h:Reps H p vs ds) (pl:p l) (e:H l=some (.tup vs)):Rep H p (.ref l) (.tup ds):=.tup pl e h.len h.g
def Rep.lst' (h:Rep H p v (.lst ds)):∃ l us,v=.ref l/\p l/\H l=some (.lst us)/\Reps H p us ds:=by
 cases h with|lst a b c e=>exact ⟨_,_,rfl,a,b,c,e⟩
def Rep.tup' (h:Rep H p v (.tup ds)):∃ l us,v=.ref l/\p l/\H l=some (.tup us)/\Reps H p us ds:=by
 cases h with|tup a b c e=>exact ⟨_,_,rfl,a,b,c,e⟩
theorem ZQ {f:Str}:∀ {fs:Ar} {gs:List (Str × D)},fs.map (·.1)=gs.map (·.1)->(∀ (i:Nat) x y,fs[i]?=some x->gs[i]?=some y->Rep H p x.2 y.2) ->
  (∀ d,gs.lookup f=some d->∃ u,fs.lookup f=some u/\Rep H p u d)/\(gs.lookup f=none->fs.lookup f=none)
 | [],[],_,_=>⟨λ d h=>by simp at h,λ _=>rfl⟩
 | [],_ :: _,e,_=>by simp at e
 | _ :: _,[],e,_=>by simp at e
 | (a,u) :: fs,(b,c) :: gs,e,r=>by
  have e1:a=b:=by simpa using (List.cons.inj e).1
  subst e1;have ih:=ZQ (f:=f) (fs:=fs) (gs:=gs) (List.cons.inj e).2 λ i x y hx hy=>r (i + 1) x y (by simpa using hx) (by simpa using hy);by_cases hf:f=a
  ·have hb:(f == a)=true:=bx.mpr hf;refine ⟨λ d h=>?_,λ h=>?_⟩
   ·simp only [List.lookup,hb] at h ⊢;cases h;exact ⟨_,rfl,r 0 (a,u) (a,c) rfl rfl⟩
   ·simp only [List.lookup,hb] at h;cases h
  ·have hb:(f == a)=false:=a7.mpr hf;simp only [List.lookup,hb];exact ih
def Rep.ob' {C:Addr} {gs:List (Str × D)} (h:Rep H p v (.ob C gs)):∃ l dx fs,v=.ref l/\p l/\H l=some (.ins C dx fs)/\(∀ f d,gs.lookup f=some d->∃ u,fs.lookup f=some u/\Rep H p u d)/\(∀ f,gs.lookup f=none->fs.lookup f=none):=by
 cases h with|ob a b c e=>exact ⟨_,_,_,rfl,a,b,λ f=>(ZQ c e).1,λ f=>(ZQ c e).2⟩
noncomputable abbrev D.ints (ns:A6):D:=.lst (ns.map D.int)
theorem reps_ints:∀ {ns:A6},Reps H p (ns.map V.int) (ns.map D.int)
 | []=>.nil
 | _ :: _=>.cons .int reps_ints
theorem JA:∀ {ns:A6} {vs:Ap},Reps H p vs (ns.map D.int)->vs=ns.map V.int
 | [],[],_=>rfl
 | [],_ :: _,h=>by have:=h.len;simp at this
 | _ :: _,[],h=>by have:=h.len;simp at this
 | n :: ns,v :: vs,h=>by
  have h1:=h.g 0 v (.int n) rfl rfl;have h2:Reps H p vs (ns.map D.int):=⟨by have:=h.len;simpa using this,λ i u d a b=>h.g (i + 1) u d (by simpa using a) (by simpa using b)⟩;cases h1;rw [bM,JA h2]
def Rep.ints' {ns:A6} (h:Rep H p v (.ints ns)):∃ l,v=.ref l/\p l/\H l=some (.lst (ns.map V.int)):=by
 obtain ⟨l,us,e,a,b,c⟩:=h.lst';rw [JA c] at b;exact ⟨l,e,a,b⟩
def qm {ns:A6} (pl:p l) (e:H l=some (.lst (ns.map V.int))):Rep H p (.ref l) (.ints ns):=reps_ints.mk' pl e
end
def Off (ms:Ab):Addr->Prop:=λ b=>b ∉ ms
def Fr (ms:Ab) (H H':Hp):Prop:=∀ b o,b ∉ ms->H b=some o->H' b=some o
section
variable {H H' H2:Hp} {ms ns:Ab} {x:Addr} {o:HO} {v:V} {d:D} {vs:Ap} {ds:List D}
def Fr.refl:Fr ms H H:=λ _ _ _ h=>h
def Fr.trans (a:Fr ms H H') (b:Fr ms H' H2):Fr ms H H2:=λ c o n h=>b c o n (a c o n h)
def Fr.more (a:Fr ms H H') (s:∀ b,b∈ms->b∈ns):Fr ns H H':=λ b o n h=>a b o (λ z=>n (s b z)) h
def Same.fr (a:Same H H'):Fr ms H H':=λ b o _ h=>a b o h
def qz (h:x∈ms):Fr ms H (upd H x o):=λ b u n hb=>by
 rw [nz (λ z=>n (by rw [z];exact h))];exact hb
def zcd (h:H x=none):Fr ms H (upd H x o):=(same_upd' h).fr where
 same_upd' {H:Hp} {x:Addr} {o:HO} (h:H x=none):Same H (upd H x o):=λ b u hb=>by rw [nz (nA hb h)];exact hb
def Fr.same (a:Fr ms H H') (h:∀ m∈ms,H m=none):Same H H':=λ b o hb=>a b o (λ z=>by rw [h b z] at hb;cases hb) hb
def Rep.fr (h:Rep H (Off ms) v d) (s:Fr ms H H'):Rep H' (Off ms) v d:=h.keep λ b o pb hb=>⟨pb,s b o pb hb⟩
def Reps.fr (h:Reps H (Off ms) vs ds) (s:Fr ms H H'):Reps H' (Off ms) vs ds:=h.keep λ b o pb hb=>⟨pb,s b o pb hb⟩
def Rep.more (h:Rep H (Off ms) v d) (s:∀ b,b∈ns->b∈ms\/H b=none):Rep H (Off ns) v d:=h.keep λ b o pb hb=>⟨λ z=>(s b z).elim pb (λ q=>by rw [q] at hb;cases hb),hb⟩
def Reps.more (h:Reps H (Off ms) vs ds) (s:∀ b,b∈ns->b∈ms\/H b=none):Reps H (Off ns) vs ds:=h.keep λ b o pb hb=>⟨λ z=>(s b z).elim pb (λ q=>by rw [q] at hb;cases hb),hb⟩
def Rep.same (h:Rep H (Off ms) v d) (s:Same H H'):Rep H' (Off ms) v d:=h.fr s.fr
def Reps.same (h:Reps H (Off ms) vs ds) (s:Same H H'):Reps H' (Off ms) vs ds:=h.fr s.fr
def Rep.ahead (h:Rep H (Off []) v d) (s:Same H H') (n:∀ m∈ms,H m=none):Rep H' (Off ms) v d:=h.keep λ b o _ hb=>⟨(λ z=>nomatch (n b z).symm.trans hb),s b o hb⟩
def Reps.ahead (h:Reps H (Off []) vs ds) (s:Same H H') (n:∀ m∈ms,H m=none):Reps H' (Off ms) vs ds:=h.keep λ b o _ hb=>⟨(λ z=>nomatch (n b z).symm.trans hb),s b o hb⟩
def Rep.all {p:A5} (h:Rep H p v d):Rep H (Off []) v d:=h.keep λ b o _ hb=>⟨(λ z=>nomatch z),hb⟩
def Reps.all {p:A5} (h:Reps H p vs ds):Reps H (Off []) vs ds:=h.keep λ b o _ hb=>⟨(λ z=>nomatch z),hb⟩
end
def fd_small {i j:Int} (h1:0 < j) (h2:j < 1000000):CFd i j:=fd_ok h1 (aI (show j.natAbs < 2 ^ 20 by omega) (Nat.pow_le_pow_right (by decide) (by decide)))
def Xa {α:Type} {xs:List α} {k:Int} (h0:0<=k) (h1:k < xs.length):seqIndex? k xs.length=some k.toNat:=by
 unfold seqIndex?;have:¬ k < 0:=by omega
 simp [this,h0,h1]
def JI {K:A0} {H H':Hp} {xs:Ap} (s:Same H H') (h:SqL K H l xs):SqL K H' l xs:=s.seq h
noncomputable def del (H:Hp) (x:Addr):Hp:=λ b=>if b=x then none else H b
section
variable {K:A0} {H:Hp} {Q:VK} {p:A5} {v:V} {d:D} {ds:List D} {f:Str}
def zf1 {C:Addr} {gs:List (Str × D)} {R:V->Prop} (h:Rep H p v (.ob C gs)) (c:Cls K C) (n:NoAttr K C f) (e:gs.lookup f=some d) (q:∀ u,Rep H p u d->R u) :
  ∃ a C dx fs u,v=.ref a/\H a=some (.ins C dx fs)/\Cls K C/\NoAttr K C f/\fs.lookup f=some u/\R u:=by
 obtain ⟨l,dx,fs,rfl,_,a,b,_⟩:=h.ob';obtain ⟨u,e1,r⟩:=b f d e;exact ⟨l,C,dx,fs,u,rfl,a,c,n,e1,q u r⟩
def zgZ {vs:Ap} {i:Int} (h:Reps H p vs ds) (e:atI ds i=some d):∃ u,atI vs i=some u/\Rep H p u d:=by
 unfold atI at e ⊢;rw [h.len];cases z:ixN ds.length i with
 | none=>rw [z] at e;cases e
 | some j=>rw [z] at e;exact h.of (i:=j) e
end
def jq {H H':Hp} {p:A5} {d:D} (h:Rep H p v d) (s:Same H H'):Rep H' p v d:=h.keep λ b o pb hb=>⟨pb,s b o hb⟩
section
variable {X:Cx}
def zim (K:A0):R2:=λ x y H Q=>∃ p xs i v,x=.ref p/\y=.int i/\SqL K H p xs/\0<=i/\atI xs i=some v/\Q v H
def zfi:ziL X (zim X.K):=by
 intro m5 s σ H x y v u Q I rx ry h;obtain ⟨p,xs,i,z,rfl,rfl,hq,h0,he,q⟩:=h;cases rx;obtain ⟨t,rfl⟩:=ry;obtain ⟨mX,r,pl,hz⟩:=I.list hq;obtain ⟨j,h1,h2,h3,h4,h5⟩:=JE he;obtain ⟨w,ew,rw'⟩:=r.get h2;have hl:=r.length;have hn:=ZR;have hj:i.toNat=j:=by
  rw [fo h0 h5] at h1;exact aN h1
 exact wpAny_getItem_list pl.isList h0 (by omega) (by rw [hj];simpa using ew) ⟨z,H,I,rw',q⟩
end
inductive Hard:D->Prop where
 | non:Hard .non
 | bl {b:Bool}:Hard (.bl b)
 | int {i:Int}:Hard (.int i)
 | str {x:Str}:Hard (.str x)
 | tup {ds:List D}:(∀ (i:Nat) d,ds[i]?=some d->Hard d)->Hard (.tup ds)
def Rep.hard {p q:A5} {d:D} (h:Rep H p v d) (hd:Hard d) (k:∀ b xs,p b->H b=some (.tup xs)->q b):Rep H q v d:=by
 induction h with
 | non=>exact .non
 | bl=>exact .bl
 | int=>exact .int
 | str=>exact .str
 | lst pl hl e _ ih=>cases hd
 | tup pl hl e _ ih =>
  cases hd with
  | tup hd=>exact .tup (k _ _ pl hl) hl e λ i v d a b=>ih i v d a b (hd i d b)
 | ob pl hl e _ ih=>cases hd
def zeV {as:Ab} (nd:as.Nodup) {i j:Nat} (h1:as[i]?=some b) (h2:as[j]?=some b):i=j:=by
 obtain ⟨hi,e1⟩:=aa.mp h1;obtain ⟨hj,e2⟩:=aa.mp h2;have P:=List.pairwise_iff_getElem.mp nd;rcases d8 i j with h|h|h
 ·exact absurd (e1.trans e2.symm) (P i j hi hj h)
 ·exact h
 ·exact absurd (e2.trans e1.symm) (P j i hj hi h)
structure NL (H:Hp) (p:A5) (G:Addr) (as:Ab) (xss:List (List D)):Prop where
 out:H G=some (.lst (as.map V.ref))
 len:as.length=xss.length
 nd:as.Nodup
 nG:G ∉ as
 g:∀ (i:Nat) b xs,as[i]?=some b->xss[i]?=some xs->∃ vs,H b=some (.lst vs)/\Reps H p vs xs
section
variable {H H':Hp} {p q:A5} {G:Addr} {as:Ab} {xss:List (List D)}
def NL.keep (h:NL H p G as xss) (s:∀ b o,(b=G\/b∈as\/p b)->H b=some o->H' b=some o) (sp:∀ b,p b->H b≠none->q b):NL H' q G as xss:=by
 refine ⟨s _ _ (.inl rfl) h.out,h.len,h.nd,h.nG,λ i b xs e1 e2=>?_⟩;obtain ⟨vs,h1,h2⟩:=h.g i b xs e1 e2;exact ⟨vs,s _ _ (.inr (.inl (ah e1))) h1,h2.keep λ c o pc hc=>⟨sp c pc (by rw [hc];intro z;cases z),s c o (.inr (.inr pc)) hc⟩⟩
def NL.same (h:NL H p G as xss) (s:Same H H'):NL H' p G as xss:=h.keep (λ b o _ hb=>s b o hb) λ _ hp _=>hp
def NL.at (h:NL H p G as xss) {xs:List D} (e:xss[i]?=some xs):∃ b vs,as[i]?=some b/\H b=some (.lst vs)/\Reps H p vs xs:=by
 have hi:=(aa.mp e).1;have e2:as[i]?=some (as[i]'(by rw [h.len];exact hi)):=ac _;obtain ⟨vs,h1,h2⟩:=h.g i _ xs e2 e;exact ⟨_,vs,e2,h1,h2⟩
def VC {H:Hp} {p:A5} {G:Addr} (h:H G=some (.lst [])):NL H p G [] []:=⟨h,rfl,nodup_nil,by simp,λ i b xs e=>by simp at e⟩
def NL.rep (h:NL H p G as xss):Rep H (Off []) (.ref G) (.lst (xss.map D.lst)):=by
 refine .lst (λ z=>nomatch z) h.out (by rw [af,af,h.len]) λ i v d e1 e2=>?_;rw [aj,au] at e1 e2;obtain ⟨b,e1,rfl⟩:=e1;obtain ⟨xs,e2,rfl⟩:=e2;obtain ⟨vs,h1,h2⟩:=h.g i b xs e1 e2;exact h2.all.mk' (λ z=>nomatch z) h1
def NL.put {vs:Ap} {ys:List D} (h:NL H p G as xss) (e:as[i]?=some b) (np:¬ p b) (r:Reps H p vs ys):NL (upd H b (.lst vs)) p G as (xss.set i ys):=by
 have hb:=ah e;have nG:G≠b:=λ z=>h.nG (by rw [z];exact hb);have rk:∀ {us:Ap} {zs:List D},Reps H p us zs->Reps (upd H b (.lst vs)) p us zs:=λ r=>r.keep λ c o pc hc=>⟨pc,by rw [nz (λ z=>np (by rw [<- z];exact pc))];exact hc⟩;refine ⟨by rw [nz nG];exact h.out,by rw [bN,h.len],h.nd,h.nG,λ j c xs e1 e2=>?_⟩;by_cases hj:j=i
 ·subst hj;rw [e] at e1;cases e1;have hl:j < xss.length:=by rw [<- h.len];exact (aa.mp e).1
  rw [aY hl] at e2;cases e2;exact ⟨vs,nk,rk r⟩
 ·rw [bH (aW hj)] at e2;have nc:c≠b:=λ z=>by
   subst z;exact hj (zeV h.nd e1 e)
  obtain ⟨us,h1,h2⟩:=h.g j c xs e1 e2;exact ⟨us,by rw [nz nc];exact h1,rk h2⟩
def NL.push {vs:Ap} {ys:List D} (h:NL H p G as xss) (hb:H b=some (.lst vs)) (nb:b ∉ as) (nG:b≠G) (np:¬ p G) (r:Reps H p vs ys):NL (upd H G (.lst (as.map V.ref ++ [.ref b]))) p G (as ++ [b]) (xss ++ [ys]):=by
 have rk:∀ {us:Ap} {zs:List D},Reps H p us zs->Reps (upd H G (.lst (as.map V.ref ++ [.ref b]))) p us zs:=λ r=>r.keep λ c o pc hc=>⟨pc,by rw [nz (λ z=>np (by rw [<- z];exact pc))];exact hc⟩;refine ⟨by rw [nk,bd];rfl,by simp [h.len],?_,?_,λ j c xs e1 e2=>?_⟩
 ·rw [nodup_append];refine ⟨h.nd,by simp,?_⟩;intro x hx y hy z;rw [ar.mp hy] at z;exact nb (by rw [<- z];exact hx)
 ·intro z;rcases aF.mp z with z|z
  ·exact h.nG z
  ·exact nG (ar.mp z).symm
 ·by_cases hj:j < as.length
  ·rw [aT hj] at e1;rw [aT (by rw [<- h.len];exact hj)] at e2;obtain ⟨us,h1,h2⟩:=h.g j c xs e1 e2;have nc:c≠G:=λ z=>h.nG (by rw [<- z];exact ah e1);exact ⟨us,by rw [nz nc];exact h1,rk h2⟩
  ·rw [aJ (by omega)] at e1;rw [aJ (by rw [<- h.len];omega),<- h.len] at e2;have hj0:j - as.length=0:=by have:=(aa.mp e1).1;simp at this;omega
   rw [hj0] at e1 e2;have e1:b=c:=by simpa using e1
   have e2:ys=xs:=by simpa using e2
   subst e1 e2;exact ⟨vs,by rw [nz nG];exact hb,rk r⟩
end
def zU (H:Hp):Addr->Prop:=λ b=>∃ xs,H b=some (.tup xs)
def NL.tup {H H':Hp} {G:Addr} {as:Ab} {xss:List (List D)} (h:NL H (zU H) G as xss) (s:∀ b o,(b=G\/b∈as\/zU H b)->H b=some o->H' b=some o):NL H' (zU H') G as xss :=
 h.keep s λ b hb _=>by
  obtain ⟨xs,hx⟩:=hb;exact ⟨xs,s b _ (.inr (.inr ⟨xs,hx⟩)) hx⟩
def NL.isl {G:Addr} {as:Ab} {p:A5} {xss:List (List D)} (h:NL H p G as xss) (hb:b∈G :: as):∃ vs,H b=some (.lst vs):=by
 rcases aw.mp hb with rfl|hb
 ·exact ⟨_,h.out⟩
 ·obtain ⟨j,hj⟩:=bj hb;obtain ⟨vs,h1,_⟩:=h.g j b _ hj (ac (by rw [<- h.len];exact (aa.mp hj).1));exact ⟨vs,h1⟩
def uc {P:Af} {K:A0} {mg:A4} {base:Heap} {x:Str} {k:Nat} {G:List V->Sp->Prop} {ps:A8} {dvs:Ap} {sp:Sp} (c:Cal P w K mg base x k ps dvs sp) (h:G dvs sp):∃ ps dvs sp,Cal P w K mg base x k ps dvs sp/\G dvs sp:=⟨ps,dvs,sp,c,h⟩
def un2 {K:A0} {t:Addr} {x y:V} {G:V->V->Prop} (h:H t=some (.tup [x,y])) (q:G x y):∃ a xs,V.ref t=.ref a/\SqT K H a xs/\xs.length=2/\∃ v r,xs=v :: r/\∃ v' r',r=v' :: r'/\r'=[]/\G v v':=⟨t,_,rfl,SqT.of h,rfl,x,_,rfl,y,_,rfl,rfl,q⟩
def ra {K:A0} {a C dx:Addr} {fs:Ar} {f:Str} {G:V->Prop} (h:H a=some (.ins C dx fs)) (c:Cls K C) (n:NoAttr K C f) (e:fs.lookup f=some v) (q:G v):∃ a' C dx fs v,V.ref a=.ref a'/\H a'=some (.ins C dx fs)/\Cls K C/\NoAttr K C f/\fs.lookup f=some v/\G v:=⟨a,C,dx,fs,v,rfl,h,c,n,e,q⟩
section
variable {prog:Af} {w:World} {A:Ao} {E:A3} {s:An}
noncomputable abbrev lit (l:Addr):Obj:={ cls:=.type (QR true),data:=.fields #[.ref l,.int 0 0] }
end
section
variable {prog:Af} {w:World} {A:Ao} {E:A3} {s:An}
end
section
variable {X:Cx} {pos pos':Pos} {x:Str}
def zo (i:Nat) {e:Expr} {te:TE} (hN:X.N.Nodup) (he:PE X e te) (hi:X.N[i]?=some x:=by rfl) (hx:Loc X.env.scope x:=by exact Or.inl rfl) (hs:swapsWith e (some (.Name x pos')) pos.line X.env=pure false:=by rfl)
  (hf:Or (X.fn x=true) (X.env.scope.names.lookup x=some .local):=by walk_at "p"):PS X (.Assign [.Name x pos'] e pos) (tAsg te (gName i)):=J8 hN hi hx he hs hf
def qj (i:Nat) (hN:X.N.Nodup) (hi:X.N[i]?=some x:=by rfl) (hx:Loc X.env.scope x:=by exact Or.inl rfl) (hf:Or (X.fn x=true) (X.env.scope.names.lookup x=some .local):=by walk_at "p"):PG X (.Name x pos) (gName i):=Ze hN hi hx hf
def zn {a b:Expr} {ta tb:TE} (ha:PE X a ta) (hb:PE X b tb) (hs:zda b:=by intro _ _;rfl):PE X (.Subscript a b pos) (tOp (rIx X.K) ta tb):=zin zhI ha hb hs
end
section
variable {X:Cx}
end
section
variable {X:Cx} {G:GK} {x y:Str} {np mp pos hpos gpos:Pos} {body su sv:List Stmt} {b₀ c₀:Stmt} {tb:List (Addr × Obj)->GK->TS} {th ti:List (Addr × Obj)->Addr->TS}
end
section
variable {X:Cx}
end
section
variable {X:Cx}
def ziW (K:A0):R2:=λ x y H Q=>∃ p q xs,x=.ref p/\y=.ref q/\SqL K H p xs/\SqL K H q []/\Q (.bl (decide (xs.length=0))) H
def zhv (hu:X.A.units + 100 < cLine):OpR X (compareOp .Eq) (ziW X.K):=by
 intro m5 s σ H x y v u Q I rx ry h;obtain ⟨p,q,xs,rfl,rfl,h1,h2,k⟩:=h;by_cases hl:xs.length=0
 ·have e:xs=[]:=bw.mp hl;subst e;exact Wu (by omega) m5 s σ H _ _ _ _ Q I rx ry ⟨p,q,[],[],rfl,rfl,.inl ⟨h1,h2⟩,rfl,rfl,k⟩
 ·rw [aV hl] at k;cases rx;cases ry;obtain ⟨mX,r,p,_⟩:=I.list h1;obtain ⟨its2,r2,p2,_⟩:=I.list h2;have e1:=r.length;have e2:=r2.length;exact dE p.isList p2.isList (by simp only [av];simp at e2 ⊢;omega) (by omega) _ _ _ _ ⟨.bl false,H,I,rfl,k⟩
end
section
variable {κ:Type} [DecidableEq κ]
noncomputable def j6 (mW:List (κ × V)) (k:κ):Option V:=(mW.find? λ kv=>decide (kv.1=k)).map (·.2)
noncomputable def vA (mW:List (κ × V)) (k:κ) (v:V):List (κ × V) :=
 if (mW.any λ kv=>decide (kv.1=k))=true then mW.map (λ kv=>if kv.1=k then (kv.1,v) else kv) else mW ++ [(k,v)]
noncomputable def zgX (mW:List (κ × V)) (k:κ):List (κ × V):=mW.filter λ kv=>decide (kv.1≠k)
def qZ {p:κ × V} {r:List (κ × V)} {k:κ} (e:p.1=k):j6 (p :: r) k=some p.2:=by simp [j6,cS,e]
def ja {p:κ × V} {r:List (κ × V)} {k:κ} (e:¬ p.1=k):j6 (p :: r) k=j6 r k:=by simp [j6,cS,e]
theorem ZY (k:κ):∀ mW:List (κ × V),(mW.any λ kv=>decide (kv.1=k))=(j6 mW k).isSome
 | []=>rfl
 | p :: r=>by
  rw [any_cons];by_cases e:p.1=k
  ·simp only [qZ e,bp e,Bool.true_or,Option.isSome_some]
  ·rw [ja e,aV e,Bool.false_or];exact ZY k r
theorem V5 (k j:κ) (y:V):∀ mW:List (κ × V),j6 (mW.map λ kv=>if kv.1=k then (kv.1,y) else kv) j=(j6 mW j).map λ x=>if j=k then y else x
 | []=>rfl
 | p :: r=>by
  have ih:=V5 k j y r;rw [bM];by_cases h:p.1=k
  ·rw [ap h];by_cases e:p.1=j
   ·rw [qZ (p:=(p.1,y)) e,qZ e,cm,ap (e.symm.trans h)]
   ·rw [ja (p:=(p.1,y)) e,ja e,ih]
  ·rw [am h];by_cases e:p.1=j
   ·rw [qZ (p:=p) e,qZ e,cm,am (λ z=>h (e.trans z))]
   ·rw [ja (p:=p) e,ja e,ih]
theorem Wh (k j:κ) (y:V):∀ mW:List (κ × V),j6 mW k=none->j6 (mW ++ [(k,y)]) j=if j=k then some y else j6 mW j
 | [],_=>by
  by_cases e:k=j
  ·rw [ap e.symm];exact qZ (p:=(k,y)) e
  ·rw [am (λ z=>e z.symm)];exact ja (p:=(k,y)) e
 | p :: r,hn=>by
  rw [List.cons_append];have hk:¬ p.1=k:=λ z=>by rw [qZ z] at hn;cases hn
  rw [ja hk] at hn;have ih:=Wh k j y r hn;by_cases e:p.1=j
  ·rw [qZ e,qZ e,am (λ z=>hk (e.trans z))]
  ·rw [ja e,ja e,ih]
def V4 (mW:List (κ × V)) (k j:κ) (y:V):j6 (vA mW k y) j=if j=k then some y else j6 mW j:=by
 unfold vA;by_cases a:(mW.any λ kv=>decide (kv.1=k))=true
 ·rw [ap a,V5];rw [ZY] at a;by_cases e:j=k
  ·obtain ⟨x,hx⟩:=fe.mp a;rw [ap e,e,hx,cm,ap rfl]
  ·rw [am e];cases j6 mW j with
   | none=>rfl
   | some x=>rw [cm,am e]
 ·rw [am a];refine Wh k j y mW ?_;rw [ZY] at a;cases q:j6 mW k with
  | none=>rfl
  | some x=>rw [q] at a;exact (a rfl).elim
def Q1 (mW:List (κ × V)) (k:κ) (v:V):(vA mW k v).length<=mW.length + 1:=by
 unfold vA
 split
 ·rw [af];omega
 ·rw [aM,bz,cR];omega
def RelO.isSome_eq {o:Aq} {u:Option Value} (r:RelO o u):o.isSome=u.isSome:=by
 cases o with
 | none=>cases u with
  | none=>rfl
  | some _=>exact (show False from r).elim
 | some _=>cases u with
  | none=>exact (show False from r).elim
  | some _=>rfl
def RelO.getD {o:Aq} {u:Option Value} {d:V} {d':Am} (r:RelO o u) (rd:RelV d d'):RelV (o.getD d) (u.getD d'):=by
 cases o with
 | none=>cases u with
  | none=>exact rd
  | some _=>exact (show False from r).elim
 | some _=>cases u with
  | none=>exact (show False from r).elim
  | some _=>exact r
def KV.val {mW:List (κ × V)} {vs:List (κ × Value)} (r:KV mW vs) (k:κ):RelO (j6 mW k) (valueAt vs k):=by
 unfold KV at r
 induction r with
 | nil=>exact True.intro
 | @cons p q ps qs h t ih =>
  obtain ⟨h1,h2⟩:=h;by_cases e:p.1=k
  ·have e':q.1=k:=h1.symm.trans e;have b:valueAt (q :: qs) k=some q.2:=by simp [valueAt,cS,e']
   rw [qZ e,b];exact h2
  ·have e':¬ q.1=k:=λ z=>e (h1.trans z);have b:valueAt (q :: qs) k=valueAt qs k:=by simp [valueAt,cS,e']
   rw [ja e,b];exact ih
def KV.any {mW:List (κ × V)} {vs:List (κ × Value)} (r:KV mW vs) (k:κ):(mW.any λ kv=>decide (kv.1=k))=vs.any λ kv=>decide (kv.1=k):=by
 unfold KV at r
 induction r with
 | nil=>rfl
 | cons h t ih=>rw [any_cons,any_cons,ih,h.1]
theorem KV.repl {mW:List (κ × V)} {vs:List (κ × Value)} (r:KV mW vs) (k:κ) {y:V} (ry:RelV y u) :
  KV (mW.map λ kv=>if kv.1=k then (kv.1,y) else kv) (vs.map λ kv=>if kv.1=k then (kv.1,u) else kv):=by
 unfold KV at r ⊢
 induction r with
 | nil=>exact .nil
 | @cons p q ps qs h t ih =>
  rw [bM,bM];refine .cons ?_ ih;obtain ⟨h1,h2⟩:=h;by_cases e:p.1=k
  ·rw [ap e,ap (h1.symm.trans e)];exact ⟨h1,ry⟩
  ·rw [am e,am (λ z=>e (h1.trans z))];exact ⟨h1,h2⟩
def KV.put {mW:List (κ × V)} {vs:List (κ × Value)} (r:KV mW vs) (k:κ) {y:V} (ry:RelV y u):KV (vA mW k y) (stored vs k u):=by
 unfold vA stored;rw [r.any k];by_cases e:(vs.any λ kv=>decide (kv.1=k))=true
 ·rw [ap e,ap e];exact r.repl k ry
 ·rw [am e,am e];exact Paired.snoc r ⟨rfl,ry⟩
def KV.drop {mW:List (κ × V)} {vs:List (κ × Value)} (r:KV mW vs) (k:κ):KV (zgX mW k) (without vs k):=by
 unfold KV at r ⊢;unfold zgX without
 induction r with
 | nil=>exact .nil
 | @cons p q ps qs h t ih =>
  obtain ⟨h1,h2⟩:=h;rw [List.filter_cons,List.filter_cons];by_cases e:p.1=k
  ·have a:¬ decide (p.1≠k)=true:=by simp [e]
   have b:¬ decide (q.1≠k)=true:=by simp [h1.symm.trans e]
   rw [am a,am b];exact ih
  ·have e':¬ q.1=k:=λ z=>e (h1.trans z);have a:decide (p.1≠k)=true:=by simp [e]
   have b:decide (q.1≠k)=true:=by simp [e']
   rw [ap a,ap b];exact .cons ⟨h1,h2⟩ ih
def KV.keys {mW:List (κ × V)} {vs:List (κ × Value)} (r:KV mW vs):mW.map (·.1)=vs.map (·.1):=by
 unfold KV at r
 induction r with
 | nil=>rfl
 | cons h t ih=>rw [bM,bM,ih,h.1]
def KV.length {mW:List (κ × V)} {vs:List (κ × Value)} (r:KV mW vs):mW.length=vs.length:=cv r
end
def zcK {P:Af} {k:Key} (r:RelV (kV k) u):(qW P w).is k u=true:=by
 cases k with
 | inl i=>obtain ⟨t,e⟩:=(show ∃ t,u=Value.int i t from r);subst e;exact zaO P w i t
 | inr x=>obtain ⟨t,e⟩:=(show ∃ t,u=Value.str x t from r);subst e;exact zaN P w x t
theorem WG {P:Af} {w:World}:∀ {ks:List Key} {us:A7},Vals (ks.map kV) us->ItemsAre (qW P w) ks us
 | [],_,r=>by rw [map_nil] at r;cases r;exact .nil
 | k :: ks,_,r=>by
  rw [bM] at r;cases r with
  | cons h t=>exact .cons (zcK h) (WG t)
abbrev KT (H:Hp):List (List Key × V)->List (List Key × Addr × Value)->Prop:=Paired λ p q=>p.1=q.1/\H q.2.1=some (.tup (p.1.map kV))/\RelV p.2 q.2.2
def KT.val {xs:List (List Key × Addr × Value)} (r:KT H mW xs) (k:List Key):RelO (j6 mW k) ((atKey xs k).map (·.2)):=by
 induction r with
 | nil=>exact True.intro
 | @cons p q ps qs h t ih =>
  obtain ⟨h1,_,h2⟩:=h;by_cases e:p.1=k
  ·have e':q.1=k:=h1.symm.trans e;have b:atKey (q :: qs) k=some q.2:=by simp [atKey,cS,e']
   rw [qZ e,b];exact h2
  ·have e':¬ q.1=k:=λ z=>e (h1.trans z);have b:atKey (q :: qs) k=atKey qs k:=by simp [atKey,cS,e']
   rw [ja e,b];exact ih
theorem KT.repl {xs:List (List Key × Addr × Value)} (r:KT H mW xs) (k:List Key) {y:V} (ry:RelV y u) :
  KT H (mW.map λ kv=>if kv.1=k then (kv.1,y) else kv) (xs.map (putAt k u)):=by
 induction r with
 | nil=>exact .nil
 | @cons p q ps qs h t ih =>
  rw [bM,bM];refine .cons ?_ ih;obtain ⟨h1,h2,h3⟩:=h;unfold putAt;by_cases e:p.1=k
  ·rw [ap e,ap (h1.symm.trans e)];exact ⟨h1,h2,ry⟩
  ·rw [am e,am (λ z=>e (h1.trans z))];exact ⟨h1,h2,h3⟩
def KT.put {xs:List (List Key × Addr × Value)} (r:KT H mW xs) (k:List Key) {y:V} (hb:H b=some (.tup (k.map kV))) (ry:RelV y u) :
  KT H (vA mW k y) (storedH xs k b u):=by
 have e:(mW.any λ kv=>decide (kv.1=k))=(atKey xs k).isSome:=by
  rw [ZY,(r.val k).isSome_eq,dc]
 unfold vA storedH;rw [e];by_cases q:(atKey xs k).isSome=true
 ·rw [ap q,ap q];exact r.repl k ry
 ·rw [am q,am q];exact Paired.snoc r ⟨rfl,hb,ry⟩
def KT.keeps {H H':Hp} {xs:List (List Key × Addr × Value)} (r:KT H mW xs) (ht:∀ b ys,H b=some (.tup ys)->H' b=some (.tup ys)):KT H' mW xs :=
 Paired.mapP r λ _ _ z=>⟨z.1,ht _ _ z.2.1,z.2.2⟩
section
variable {P:Af} {w:World} {H:Hp} {h:Heap} {a:Addr}
def zgR {u:HO} (ok:HOk P w H h) (e:Rd H a u):ObjOk P w H h a u:=e.ok ok
def zcX {mW:List (Key × V)} (ok:HOk P w H h) (e:Rd H a (.dK mW)):mW.length<=sizeLine/\(a == sysModules)=false/\∃ vs,KV mW vs/\h.DictOf (qW P w) a vs :=
 show ObjOk P w H h a (.dK mW) from zgR ok e
def ziH {mW:List (Key × V)} (ok:HOk P w H h) (e:H a=some (.dK mW)):mW.length<=sizeLine/\(a == sysModules)=false/\∃ vs,KV mW vs/\h.DictOf (qW P w) a vs:=zcX ok (.inl e)
def VF {ks:List Key} (ok:HOk P w H h) (e:H a=some (.tup (ks.map kV))):(tupleKind (qW P w)).is h ks a:=by
 obtain ⟨_,mX,r,o,h1,h2,n,h3⟩:=(show ObjOk P w H h a (.tup (ks.map kV)) from ok a _ e);exact ⟨o,mX.toArray,n,h1,h2,h3,by simpa using WG r⟩
theorem zcV (ok:HOk P w H h) (e:Rd H a (.dT mW)):mW.length<=sizeLine/\(a == sysModules)=false /\
  ∃ xs,KT H mW xs/\h.DictOfH (tupleKind (qW P w)) a xs:=by
 obtain ⟨z,y,xs,r,o,es,ep,h1,h2,h3,h4,h5⟩:=(show ObjOk P w H h a (.dT mW) from zgR ok e);refine ⟨z,y,xs,r,o,es,ep,h1,h2,h3,h4,λ x hx=>?_,h5⟩;have all:∀ {l:As} {m:List (List Key × Addr × Value)},KT H l m->∀ x∈m,(tupleKind (qW P w)).is h x.1 x.2.1:=by
  intro l m q
  induction q with
  | nil=>intro x hx;exact nomatch hx
  | @cons p q ps qs hq t ih =>
   intro x hx;rcases aw.mp hx with e|hx
   ·subst e;exact VF ok (by rw [<- hq.1];exact hq.2.1)
   ·exact ih x hx
 exact all r x hx
def ziG (ok:HOk P w H h) (e:H a=some (.dT mW)):mW.length<=sizeLine/\(a == sysModules)=false /\
  ∃ xs,KT H mW xs/\h.DictOfH (tupleKind (qW P w)) a xs:=zcV ok (.inl e)
end
def DGet (H:Hp) (a:Addr) (y:V) (r:Aq):Prop :=
 (∃ mW k,Rd H a (.dK mW)/\y=kV k/\r=j6 mW k)\/∃ mW k b,Rd H a (.dT mW)/\y=.ref b/\H b=some (.tup (k.map kV))/\r=j6 mW k
def DPut (H:Hp) (a:Addr) (y v:V) (H':Hp):Prop :=
 (∃ mW k,H a=some (.dK mW)/\y=kV k/\mW.length < sizeLine/\H'=upd H a (.dK (vA mW k v))) \/
 ∃ mW k b,H a=some (.dT mW)/\y=.ref b/\H b=some (.tup (k.map kV))/\mW.length < sizeLine/\H'=upd H a (.dT (vA mW k v))
def DGet.k {a:Addr} {mW:List (Key × V)} {k:Key} (e:H a=some (.dK mW)):DGet H a (kV k) (j6 mW k):=.inl ⟨mW,k,.inl e,rfl,rfl⟩
def DGet.t {a b:Addr} {k:List Key} (e:H a=some (.dT mW)) (eb:H b=some (.tup (k.map kV))):DGet H a (.ref b) (j6 mW k):=.inr ⟨mW,k,b,.inl e,rfl,eb,rfl⟩
def DPut.k {a:Addr} {mW:List (Key × V)} {k:Key} (e:H a=some (.dK mW)) (hl:mW.length < sizeLine):DPut H a (kV k) v (upd H a (.dK (vA mW k v))):=.inl ⟨mW,k,e,rfl,hl,rfl⟩
def DPut.t {a b:Addr} {k:List Key} (e:H a=some (.dT mW)) (eb:H b=some (.tup (k.map kV))) (hl:mW.length < sizeLine) :
  DPut H a (.ref b) v (upd H a (.dT (vA mW k v))):=.inr ⟨mW,k,b,e,rfl,eb,hl,rfl⟩
section
variable {X:Cx} {m5:A2} {σ:St} {H:Hp} {s:An} {a:Addr} {y v:V} {u r:Am} {o:Aq} {A:Ao} {E:A3}
def Inv.big (I:Inv X m5 σ H s):sysModules < s.heap.objs.size:=by
 have h:mainGlobals < s.heap.objs.size:=(I.mod.glob.keeps I.bk).lt;exact d9 (by decide) h
def zdY {Q:A3} (hu:A.units + 1 < cLine) (I:Inv X m5 σ H s) (g:DGet H a y (some v)) (ry:RelV y u) (h:∀ w' s',Inv X m5 σ H s'->RelV v w'->Q w' s') :
  wpAny (model X.prog X.w) A (getItem (.ref a) u) Q E s:=by
 rcases g with ⟨mW,k,e,ey,l⟩|⟨mW,k,b,e,ey,eb,l⟩
 ·subst ey;obtain ⟨z,hd,vs,rel,dd⟩:=zcX I.hok e;obtain ⟨w',hw,rw'⟩:=RelO.some_of (v:=v) (o:=valueAt vs k) (by rw [l];exact rel.val k);exact wpAny_getItem_of (zcK ry) dd.mapOf hw (h w' _ (I.tok _) rw')
 ·subst ey;cases (show u=Value.ref b from ry);obtain ⟨z,hd,xs,rel,dd⟩:=zcV I.hok e;obtain ⟨w',hw,rw'⟩:=RelO.some_of (v:=v) (o:=(atKey xs k).map (·.2)) (by rw [l];exact rel.val k);obtain ⟨p,hp,hp2⟩:=au.mp hw;refine wpAny_getItem_heap (eI hu) (VF I.hok eb) dd hp ?_;rw [hp2];exact h w' _ (I.tok _) rw'
def zi1 {Q:A3} (hu:A.units + 1 < cLine) (I:Inv X m5 σ H s) (g:DGet H a y o) (ry:RelV y u) (h:∀ s',Inv X m5 σ H s'->Q (.bool o.isSome) s') :
  wpAny (model X.prog X.w) A (compareOp .In u (.ref a)) Q E s:=by
 rcases g with ⟨mW,k,e,ey,l⟩|⟨mW,k,b,e,ey,eb,l⟩
 ·subst ey;obtain ⟨z,hd,vs,rel,dd⟩:=zcX I.hok e;refine wpAny_in_of (zcK ry) hd dd.mapOf ?_;rw [<- (rel.val k).isSome_eq,<- l];exact h _ (I.tok _)
 ·subst ey;cases (show u=Value.ref b from ry);obtain ⟨z,hd,xs,rel,dd⟩:=zcV I.hok e;refine wpAny_in_heap (eI hu) (VF I.hok eb) hd dd ?_;have q:=(rel.val k).isSome_eq;rw [dc] at q;rw [<- q,<- l];exact h _ (I.tok _)
def VP {h':Heap} {t':Nat} {ob:HO} (I:Inv X m5 σ H s) (mu:Mut (H a)) (hs:Heap.SameBut a s.heap h') (he:∃ q,h'.get? a=some q) (new:ObjOk X.prog X.w (upd H a ob) h' a ob) :
  Inv X m5 σ (upd H a ob) { s with heap:=h',toks:=t' } :=
 I.write (x:=a) (e:=a) mu (.inl rfl) (λ b q hb z=>(hs.2 b hb).trans z) he new
def zhP {P:Af} {H':Hp} {h':Heap} {mW:List (Key × V)} {vs:List (Key × Value)} (z:mW.length<=sizeLine) (hd:(a == sysModules)=false) (rel:KV mW vs) (dd:h'.DictOf (qW P w) a vs) :
  ObjOk P w H' h' a (.dK mW):=⟨z,hd,vs,rel,dd⟩
def zdX {H':Hp} {Q:Ag} (hu:A.units + 1 < cLine) (I:Inv X m5 σ H s) (g:DPut H a y v H') (ry:RelV y u) (rv:RelV v r) (h:∀ s',Inv X m5 σ H' s'->Q () s') :
  wpAny (model X.prog X.w) A (setItem (.ref a) u r) Q E s:=by
 rcases g with ⟨mW,k,e,ey,l,eH⟩|⟨mW,k,b,e,ey,eb,l,eH⟩
 ·subst ey eH;obtain ⟨z,hd,vs,rel,dd⟩:=ziH I.hok e;have hz:vs.length<=sizeLine:=by rw [<- rel.length];exact z
  have hl:(vA mW k v).length<=sizeLine:=by have:=Q1 mW k v;omega
  refine wpAny_setItem_pairs (hsz:=hz) (zcK ry) dd λ h' dd' hs=>h _ ?_;have he:∃ q,h'.get? a=some q:=let ⟨q,_,_,hq,_⟩:=dd';⟨q,hq⟩
  exact VP I (by rw [e];exact True.intro) hs he (zhP hl hd (rel.put k rv) dd')
 ·subst ey eH;cases (show u=Value.ref b from ry);obtain ⟨z,hd,xs,rel,dd⟩:=ziG I.hok e;have hz:xs.length<=sizeLine:=by rw [<- cv rel];exact z
  have hl:(vA mW k v).length<=sizeLine:=by have:=Q1 mW k v;omega
  refine wpAny_setItem_heap (hsz:=hz) (eI hu) (VF I.hok eb) dd λ h' dd' hs=>h _ ?_;obtain ⟨q,es,ep,hq,h2,h3,h4,_,h5⟩:=dd';refine VP I (by rw [e];exact True.intro) hs ⟨q,hq⟩ ⟨hl,hd,_,(rel.put k eb rv).keeps λ c ys ec=>?_,q,es,ep,hq,h2,h3,h4,h5⟩;rw [nz (Z9 ec e (λ z=>nomatch z))];exact ec
end
section
variable {X:Cx} {m5:A2} {σ:St} {H:Hp} {s:An} {a:Addr} {mW:List (Key × V)} {k:Key} {u:Am} {A:Ao} {E:A3}
end
def zh4 (i:Expr):Prop:=∀ ov iv,subscripted i false ov iv=operate [ov,iv] (getItem ov iv)
theorem zct {prog:Af} {A:Ao} {E:A3} {s:An} {env:Env} {value slice:Expr} {pos:Pos} {T id:String} {Q:A3}
  (hl:typeLookup (.type T) "__getitem__"=pure (some (.builtin id))) (hs:zh4 slice)
  (h:wpAny (model prog w) A (eval value env) (λ o s₁=>wpAny (model prog w) A (eval slice env) (λ i s₂=>s₂.TypeIs o T/\wpAny (model prog w) A (getItem o i) Q E s₂) E s₁) E s) :
  wpAny (model prog w) A (eval (.Subscript value slice pos) env) Q E s:=by
 refine Subscript_ (aU h (λ o s₁ h₁=>aU h₁ (λ i s₂ h₂=>?_) λ _ _ x=>x) λ _ _ x=>x);obtain ⟨hT,h₂⟩:=h₂;unfold subscriptTail;refine ad ?_;rw [getitemInPython_of_ne hT.not_modules];refine ad (dQ hT hl ?_);have fin:wpAny (model prog w) A (subscripted slice false o i) (λ r s₃=>wpAny (model prog w) A (letTemporaryGo value o r >>= λ _=>pure r) Q E s₃) E s₂:=by
  rw [hs o i];exact wpAny_operating (aU h₂ (λ r s₃ h₃=>ad (wpAny_letTemporaryGo (aC h₃))) λ _ _ x=>x)
 first
  | exact aC (ad fin)
  | exact ad (aC (ad fin))
  | exact ad fin
def za3 {X:Cx} {m5:A2} {σ:St} {s:An} {a:Addr} {y:V} {o:Aq} (I:Inv X m5 σ H s) (g:DGet H a y o):s.TypeIs (.ref a) "dict":=by
 rcases g with ⟨mW,k,e,_,_⟩|⟨mW,k,b,e,_,_,_⟩
 ·obtain ⟨_,_,vs,_,dd⟩:=zcX I.hok e;exact dd.typeIs
 ·obtain ⟨_,_,xs,_,dd⟩:=zcV I.hok e;exact dd.typeIs
def tDGet (td ty:TE):TE:=λ σ H Q=>td σ H λ x H1=>ty σ H1 λ y H2=>∃ a v,x=.ref a/\DGet H2 a y (some v)/\Q v H2
def tDIn (ty td:TE):TE:=λ σ H Q=>ty σ H λ y H1=>td σ H1 λ x H2=>∃ a o,x=.ref a/\DGet H2 a y o/\Q (.bl o.isSome) H2
def sDPut (td ty tv:TE):TS:=λ D σ H=>tv σ H λ v H1=>td σ H1 λ x H2=>ty σ H2 λ y H3=>∃ a H4,x=.ref a/\DPut H3 a y v H4/\D.nx σ H4
section
variable {X:Cx} {o i e value:Expr} {pos pos' tpos:Pos} {td ty tv:TE}
def zcA (hu:X.A.units + 1 < cLine) (ho:PE X o td) (hi:PE X i ty) (hs:zh4 i):PE X (.Subscript o i pos) (tDGet td ty):=by
 intro m5 s σ H Q I h;refine zct eR.lookup hs (thn (ho m5 s σ H _ I h) λ u s1 ⟨x,H1,I1,rx,q1⟩=>thn (hi m5 s1 σ H1 _ I1 q1) λ iv s2 ⟨y,H2,I2,ry,a,v,ex,g,q2⟩=>?_);subst ex;obtain rfl:u=Value.ref a:=rx;exact ⟨za3 I2 g,zdY hu I2 g ry λ w' s3 I3 rw'=>⟨v,H2,I3,rw',q2⟩⟩
def zhp (hu:X.A.units + 1 < cLine) (hi:PE X i ty) (ho:PE X o td):PC X .In i o (tDIn ty td):=by
 intro m5 s σ H Q I h;refine thn (hi m5 s σ H _ I h) λ iv s1 ⟨y,H1,I1,ry,q1⟩=>thn (ho m5 s1 σ H1 _ I1 q1) λ u s2 ⟨x,H2,I2,rx,a,ov,ex,g,q2⟩=>?_;subst ex;obtain rfl:u=Value.ref a:=rx;exact zi1 hu I2 g ry λ s3 I3=>⟨.bl ov.isSome,H2,I3,rfl,q2⟩
def zf8 (hu:X.A.units + 1 < cLine) (ho:PE X o td) (hi:PE X i ty) (hv:PE X value tv) (hs:swapsWith value (some (.Subscript o i pos')) pos.line X.env=pure false) :
  PS X (.Assign [.Subscript o i pos'] value pos) (sDPut td ty tv):=by
 intro m5 s σ H D I h;refine wpAny_Assign_Subscript (thn (hv m5 s σ H _ I h) λ r s1 ⟨v,H1,I1,rv,q1⟩=>thn (ho m5 s1 σ H1 _ I1 q1) λ u s2 ⟨x,H2,I2,rx,q2⟩=>thn (hi m5 s2 σ H2 _ I2 q2) λ iv s3 ⟨y,H3,I3,ry,a,H4,ex,g,q3⟩=>?_) hs;subst ex;obtain rfl:u=Value.ref a:=rx;exact zdX hu I3 g ry rv λ s4 I4=>⟨σ,H4,I4,q3⟩
end
def zfp {P:Af} (h:Heap) (hb:sysModules < h.objs.size):ObjOk P w H (h.push { cls:=.type "dict",data:=.dict #[] }) h.objs.size (.dT []) :=
 ⟨bQ _,a7.mpr (aW (aK hb)),[],.nil,_,#[],0,aD _ rfl,⟨rfl,rfl,rfl⟩,rfl,rfl,nodup_nil⟩
def tDNewT:TE:=λ _ H Q=>∀ p,H p=none->Q (.ref p) (upd H p (.dT []))
section
variable {X:Cx} {pos:Pos}
def zeM:PE X (.Dict [] [] pos) tDNewT:=λ m5 s σ H Q I h =>
 wpAny_Dict_empty ⟨.ref s.heap.objs.size,_,I.laid (a:=s.heap.objs.size) (o:=.dT []) (t':=s.toks) (λ _ _ q=>ai _ q) (aq _) (zfp s.heap I.big),rfl,h _ (I.hok.fresh (aq _))⟩
end
section
variable {X:Cx} {m5:A2} {σ:St} {H:Hp} {s:An} {a:Addr} {y d:V} {u r:Am} {o:Aq} {A:Ao} {E:A3}
end
section
variable {X:Cx} {o e f:Expr} {apos cpos:Pos} {td ty tx:TE}
end
section
variable {κ:Type} [DecidableEq κ]
end
end L2
namespace L2
open PySem PySem.Spec PySem.Calls PyProof.Rows
section
variable {X:Cx}
end
end L2
namespace L2
open PySem PySem.Spec PyProof.Rows
variable {items:Ac}
section
variable {prog:Af} {w:World} {A:Ao} {E:A3} {s:An} {it d:Addr} {i ep:Nat} {es:Array DictEntry} {od:Obj}
end
theorem wx {α β:Type} {F:α->β->Prop}:∀ {l₁:List α} {l₂:List β},Paired F l₁ l₂->∀ {i:Nat} {x:α} {y:β},l₁[i]?=some x->l₂[i]?=some y->F x y
 | _,_,.nil,_,_,_,h,_=>nomatch h
 | _,_,.cons r t,0,_,_,h,h'=>by cases h;cases h';exact r
 | _,_,.cons r t,i + 1,_,_,h,h'=>wx t h h'
section
variable {prog:Af} {w:World}
structure KItem (prog:Af) (w:World) (κ:Type) [DecidableEq κ] (d:Nat) where
 is:Heap->κ->Value->Prop
 hash:κ->Int
 draws:κ->Nat
 inj:∀ {h:Heap} {v:Am} {x y:κ},is h x v->is h y v->x=y
 keeps:∀ {h h':Heap} {k:κ} {v:Am} {a:Addr} {o:Obj} {es:Array DictEntry} {ep:Nat},is h k v->h.get? a=some o->o.data=.dict es ep->Heap.SameBut a h h'->is h' k v
 pyHash:∀ {A:Ao} {E:A3} {s:An} {k:κ} {v:Am} {Q:Int->Shared->Prop},A.units + d < cLine->is s.heap k v->Q (hash k) { s with toks:=s.toks + draws k }->wpAny (model prog w) A (PySem.pyHash v) Q E s
 eq:∀ {A:Ao} {s:An} {x y:κ} {u v:Am},A.units + d < cLine->is s.heap x u->is s.heap y v->SeqAt.EqAt A s u v (decide (x=y))
 quiet:∀ {A:Ao} {E:A3} {s:An} {n:Nat} {k:κ} {v:Am} {Q:Bool->Shared->Prop},d<=n->is s.heap k v->Q true s->wpAny (model prog w) A (eqIsQuiet n v) Q E s
noncomputable def oiV:Option Int->V
 | none=>.non
 | some n=>.int n
def zaH (x:A9):vo (oiV x)=true:=by cases x <;> rfl
def zhu (x y:A9):eqV (oiV x) (oiV y)=decide (x=y):=by
 cases x with
 | none=>cases y <;> simp [oiV,eqV]
 | some a =>
  cases y with
  | none=>simp [oiV,eqV]
  | some b =>
   show (a == b)=decide (some a=some b)
   by_cases e:a=b <;> simp [e]
def zgh {x y:A9} {v:Am} (h1:RelV (oiV x) v) (h2:RelV (oiV y) v):x=y:=by
 cases x <;> cases y
 ·rfl
 ·cases h1;obtain ⟨t,e⟩:=h2;cases e
 ·cases h2;obtain ⟨t,e⟩:=h1;cases e
 ·obtain ⟨t,rfl⟩:=h1;obtain ⟨t,e⟩:=h2;cases e;rfl
noncomputable def zix:Option Int->Int
 | none=>reduceHash 0xFCA86420
 | some n=>hashInt n
def zaI {x:A9} {v:Am} (h:RelV (oiV x) v):carriedByValue v=true:=by
 cases x with
 | none=>cases h;rfl
 | some n=>obtain ⟨t,rfl⟩:=h;rfl
noncomputable def jJ (prog:Af) (w:World):KItem prog w A9 0 where
 is:=λ _ k v=>RelV (oiV k) v
 hash:=zix
 draws:=λ _=>1
 inj:=zgh
 keeps:=λ h _ _ _=>h
 pyHash:=by
  intro A E s k v Q hu h q;cases k with
  | none =>
   cases h;exact fQ (T:="NoneType") rfl F.slot_NoneType_hash F.entry_NoneType_hash (F.args_NoneType_hash_1 _) (beq_builtin_none _) (.inr (by omega)) (ad (aC (ad (wpAny_mkInt (aC ⟨_,_,rfl,q⟩)))))
  | some n =>
   obtain ⟨t,rfl⟩:=h;exact wpAny_pyHash_int q
 eq:=by
  intro A s x y u v hu h1 h2;rw [<- zhu];exact QU h1 h2 (zaH x) (zaH y)
 quiet:=by
  intro A E s n k v Q _ h q;rw [eqIsQuiet_byValue _ (zaI h)];exact aC q
inductive HashAll (prog:Af) (w:World) (d:Nat) (hp:Heap):List Value->List (Int × Nat)->Prop
 | nil:HashAll prog w d hp [] []
 | cons {v:Am} {h:Int × Nat} {vs:A7} {hs:List (Int × Nat)}:(∀ (A:Ao) (E:A3) (s:An) (Q:Int->Shared->Prop),s.heap=hp->A.units + d < cLine->Q h.1 { s with toks:=s.toks + h.2 }->wpAny (model prog w) A (PySem.pyHash v) Q E s)->HashAll prog w d hp vs hs->HashAll prog w d hp (v :: vs) (h :: hs)
theorem WH {d:Nat} {hp:Heap} {A:Ao} {E:A3} (hu:A.units + d < cLine):∀ {vs:A7} {hs:List (Int × Nat)} {s:An} {b:Array Int} {Q:Array Int->Shared->Prop},HashAll prog w d hp vs hs->s.heap=hp->(∀ b',b'.toList=b.toList ++ hs.map (·.1)->Q b' { s with toks:=s.toks + (hs.map (·.2)).sum }) ->
  wpAny (model prog w) A (forIn vs b λ x r=>do let h <- PySem.pyHash x;pure PUnit.unit;pure (ForInStep.yield (r.push h))) Q E s
 | _,_,s,b,Q,.nil,_,h=>aC (h b (by simp))
 | _,_,s,b,Q,.cons (h:=h0) x r,e,h=>by
  rw [fD];refine ad (ad (x A E s _ e hu ?_));refine ad (aC (aC ?_));refine WH hu r (by exact e) λ b' hb=>?_;have:=h b' (by simp [hb]);simpa [Nat.add_assoc] using this
def za0 {d:Nat} {a:Addr} {hs:List (Int × Nat)} {A:Ao} {E:A3} {s:An} {Q:Int->Shared->Prop} (hT:IsTup s.heap a items) (all:HashAll prog w d s.heap items.toList hs) (hu:A.units + (d + 1) < cLine)
  (h:Q (reduceHash (Builtin.Tuple.tupleHashOf (hs.map (·.1)))) { s with toks:=s.toks + ((hs.map (·.2)).sum + 1) }):wpAny (model prog w) A (PySem.pyHash (.ref a)) Q E s:=by
 obtain ⟨o,ho,hc,n,hd⟩:=hT;refine fQ (T:="tuple") ⟨_,ho,hc⟩ F.slot_tuple_hash F.entry_tuple_hash (F.args_tuple_hash_1 _) (beq_builtin_none _) (.inr (by omega)) ?_;show wpAny _ _ (Builtin.Tuple.tupleItemsOf (.ref a) >>= _) _ _ s
 refine ad (wpAny_tupleItemsOf ho hd ?_);refine ad ?_;rw [<- gk];refine WH (d:=d) (by simp only [fi];omega) all rfl λ b hb=>?_;show wpAny _ _ (retInt (Builtin.Tuple.tupleHashOf b.toList)) _ _ _
 rw [hb];exact ad (wpAny_mkInt (aC ⟨_,_,rfl,by simpa [Nat.add_assoc] using h⟩))
def Wo {d:Nat} {a:Addr} {A:Ao} {E:A3} {s:An} {Q:Bool->Shared->Prop} {n:Nat} (hT:IsTup s.heap a items) (all:∀ v∈items.toList,∀ (A:Ao) (E:A3) (Q:Bool->Shared->Prop),Q true s->wpAny (model prog w) A (eqIsQuiet n v) Q E s) (h:Q true s):wpAny (model prog w) A (eqIsQuiet (n + 1) (.ref a)) Q E s:=by
 obtain ⟨o,ho,hc,m,hd⟩:=hT;have hT:s.TypeIs (.ref a) "tuple":=⟨o,ho,hc⟩;unfold eqIsQuiet;refine ad (dQ hT F.slot_tuple_eq.lookup ?_);show wpAny _ _ (isInstance (.ref a) (.type "tuple") >>= _) _ _ s
 refine ad (eY hT isSubtype_tuple_tuple ?_);simp only [ff,cu,dL];refine ad (bB ho hd ?_);refine ad ?_;show wpAny _ _ (forIn items _ _) _ _ s
 rw [<- gk];refine wpAny_forIn_list _ (λ rest r s'=>r.1=none/\s'=s/\∀ v∈rest,v∈items.toList) _ ?_ ?_ _ _ ⟨rfl,rfl,λ v hv=>hv⟩
 ·rintro v rest r s' ⟨hr,rfl,hall⟩;refine ad (all v (hall v bT) _ _ _ ?_);simp only [ff,cu,dL];exact aC ⟨rfl,rfl,λ u hu'=>hall u (aB _ hu')⟩
 ·rintro ⟨r1,r2⟩ s' ⟨hr,rfl,_⟩;simp only at hr;subst hr;exact aC h
def Xy {h h':Heap} {b a:Addr} {o:Obj} {es:Array DictEntry} {ep:Nat} (x:IsTup h b items) (ho:h.get? a=some o) (hd:o.data=.dict es ep) (hs:Heap.SameBut a h h'):IsTup h' b items:=by
 obtain ⟨o',h1,h2,n,h3⟩:=x;have ne:b≠a:=λ z=>by
  subst z;rw [ho] at h1;cases h1;rw [hd] at h3;cases h3
 exact ⟨o',(hs.2 b ne).trans h1,h2,n,h3⟩
def Zj {h:Heap} {b:Addr} {xs ys:Ac} (x:IsTup h b xs) (y:IsTup h b ys):xs=ys:=by
 obtain ⟨o,h1,_,n,h3⟩:=x;obtain ⟨o',g1,_,m,g3⟩:=y;rw [h1] at g1;cases g1;rw [h3] at g3;injection g3
def zhY {κ:Type} [DecidableEq κ] {xs ys:List κ}:((List.range (min xs.length ys.length)).all (λ j=>decide (xs[j]?=ys[j]?)) && xs.length == ys.length)=decide (xs=ys):=by
 by_cases e:xs=ys
 ·subst e;simp
 ·rw [aV e];by_cases hl:xs.length=ys.length
  ·have:¬ (List.range (min xs.length ys.length)).all (λ j=>decide (xs[j]?=ys[j]?))=true:=λ z=>e (List.ext_getElem? λ j=>by
    rw [dj] at z;by_cases hj:j < xs.length
    ·exact bO (z j (dM.mpr (by omega)))
    ·rw [bt (by omega),bt (by omega)])
   simp only [Bool.not_eq_true] at this;rw [this]
   rfl
  ·have:(xs.length == ys.length)=false:=a7.mpr hl;rw [this,cz]
section
variable {κ:Type} [DecidableEq κ] {d:Nat}
theorem ZP {F:κ->Value->Prop} (f:∀ (x y:κ) (v:Am),F x v->F y v->x=y):∀ {xs ys:List κ} {vs:A7},Paired F xs vs->Paired F ys vs->xs=ys
 | _,_,_,.nil,h=>by cases h;rfl
 | _,_,_,.cons a t,h=>by
  cases h with
  | cons b u=>rw [f _ _ _ a b,ZP f t u]
def zaT {n d e c:Nat} (l:d<=e) (h:n + e < c):n + d < c:=bW (fT l n) h
def ziw {A:Ao} {e c:Nat} (h:A.units + (e + 1) < c):A.in1.units + e < c:=by
 simp only [fi];omega
def zel {n d:Nat} (h:d + 1<=n):∃ m,n=m + 1/\d<=m:=⟨n - 1,by omega,by omega⟩
noncomputable def vZ (I:KItem prog w κ d):KItem prog w (List κ) (d + 1) where
 is:=λ h ks v=>∃ a items,v=.ref a/\IsTup h a items/\Paired (I.is h) ks items.toList
 hash:=λ ks=>reduceHash (Builtin.Tuple.tupleHashOf (ks.map I.hash))
 draws:=λ ks=>(ks.map I.draws).sum + 1
 inj:=by
  rintro h v x y ⟨a,items,rfl,h1,h2⟩ ⟨b,items',e,g1,g2⟩;cases e;have:=Zj h1 g1;subst this;exact ZP (F:=I.is h) (λ _ _ _ p q=>I.inj p q) h2 g2
 keeps:=by
  rintro h h' k v a o es ep ⟨b,items,rfl,h1,h2⟩ ho hd hs;exact ⟨b,items,rfl,Xy h1 ho hd hs,Paired.mapP h2 λ p q z=>I.keeps z ho hd hs⟩
 pyHash:=by
  rintro A E s k v Q hu ⟨b,items,rfl,h1,h2⟩ q;have all:∀ {ks:List κ} {vs:A7},Paired (I.is s.heap) ks vs->HashAll prog w d s.heap vs (ks.map λ k=>(I.hash k,I.draws k)):=by
   intro ks vs p
   induction p with
   | nil=>exact .nil
   | cons z _ ih=>exact .cons (λ A E s' Q e hu q=>I.pyHash hu (by rw [e];exact z) q) ih
  refine za0 h1 (all h2) hu ?_;rw [eM,eM];exact q
 eq:=by
  rintro A s x y u v hu ⟨a,xs,rfl,h1,h2⟩ ⟨b,ys,rfl,g1,g2⟩;by_cases e:a=b
  ·subst e;have:=Zj h1 g1;subst this;rw [ZP (F:=I.is s.heap) (λ _ _ _ p q=>I.inj p q) h2 g2,bp rfl];exact dS _
  ·refine cB e ?_;have l1:x.length=xs.size:=by rw [cv h2,cT]
   have l2:y.length=ys.size:=by rw [cv g2,cT]
   have:=cM (A:=A) (s:=s) (e:=λ j=>decide (x[j]?=y[j]?)) h1 g1 (by omega) (λ j hj1 hj2=>by
    obtain ⟨k1,e1⟩:∃ k,x[j]?=some k:=⟨x[j]'(by omega),ac _⟩;obtain ⟨k2,e2⟩:∃ k,y[j]?=some k:=⟨y[j]'(by omega),ac _⟩;have p1:=wx h2 e1 (show xs.toList[j]?=some xs[j] by rw [cF,eX hj1]);have p2:=wx g2 e2 (show ys.toList[j]?=some ys[j] by rw [cF,eX hj2]);rw [e1,e2,show decide (some k1=some k2)=decide (k1=k2) by simp];exact I.eq (ziw hu) p1 p2)
   rw [<- l1,<- l2,zhY] at this;exact this
 quiet:=by
  rintro A E s n k v Q hn ⟨b,items,rfl,h1,h2⟩ q;obtain ⟨m,rfl,hm⟩:=zel hn;refine Wo (d:=d) h1 (λ v hv A E Q q=>?_) q;obtain ⟨j,hj⟩:=List.mem_iff_getElem?.mp hv;have hl:=(aa.mp hj).1;obtain ⟨k1,e1⟩:∃ x,k[j]?=some x:=⟨k[j]'(by rw [cv h2];exact hl),ac _⟩;exact I.quiet hm (wx h2 e1 hj) q
end
section
variable {κ1 κ2 κ3 κ4:Type} [DecidableEq κ1] [DecidableEq κ2] [DecidableEq κ3] [DecidableEq κ4] {d1 d2 d3 d4:Nat}
inductive QIs (I1:KItem prog w κ1 d1) (I2:KItem prog w κ2 d2) (I3:KItem prog w κ3 d3) (I4:KItem prog w κ4 d4) (h:Heap) (k:κ1 × κ2 × κ3 × κ4) (v:Am):Prop
 | i (a:Addr) (u1 u2 u3 u4:Am):v=.ref a->IsTup h a #[u1,u2,u3,u4]->I1.is h k.1 u1->I2.is h k.2.1 u2->I3.is h k.2.2.1 u3->I4.is h k.2.2.2 u4->QIs I1 I2 I3 I4 h k v
noncomputable def zeH (I1:KItem prog w κ1 d1) (I2:KItem prog w κ2 d2) (I3:KItem prog w κ3 d3) (I4:KItem prog w κ4 d4) (d:Nat) (l1:d1<=d) (l2:d2<=d) (l3:d3<=d) (l4:d4<=d):KItem prog w (κ1 × κ2 × κ3 × κ4) (d + 1) where
 is:=QIs I1 I2 I3 I4
 hash:=λ k=>reduceHash (Builtin.Tuple.tupleHashOf [I1.hash k.1,I2.hash k.2.1,I3.hash k.2.2.1,I4.hash k.2.2.2])
 draws:=λ k=>[I1.draws k.1,I2.draws k.2.1,I3.draws k.2.2.1,I4.draws k.2.2.2].sum + 1
 inj:=by
  rintro h v ⟨x1,x2,x3,x4⟩ ⟨y1,y2,y3,y4⟩ ⟨a,u1,u2,u3,u4,rfl,h1,i1,i2,i3,i4⟩ ⟨b,v1,v2,v3,v4,e,g1,j1,j2,j3,j4⟩;cases e;have:=Zj h1 g1;cases this;simp only at i1 i2 i3 i4 j1 j2 j3 j4;rw [I1.inj i1 j1,I2.inj i2 j2,I3.inj i3 j3,I4.inj i4 j4]
 keeps:=by
  rintro h h' k v a o es ep ⟨b,u1,u2,u3,u4,rfl,h1,i1,i2,i3,i4⟩ ho hd hs;exact ⟨b,u1,u2,u3,u4,rfl,Xy h1 ho hd hs,I1.keeps i1 ho hd hs,I2.keeps i2 ho hd hs,I3.keeps i3 ho hd hs,I4.keeps i4 ho hd hs⟩
 pyHash:=by
  rintro A E s k v Q hu ⟨b,u1,u2,u3,u4,rfl,h1,i1,i2,i3,i4⟩ q;refine za0 (d:=d) (hs:=[(I1.hash k.1,I1.draws k.1),(I2.hash k.2.1,I2.draws k.2.1),(I3.hash k.2.2.1,I3.draws k.2.2.1),(I4.hash k.2.2.2,I4.draws k.2.2.2)]) h1 ?_ hu q;exact .cons (λ A E s' Q e hu q=>I1.pyHash (zaT l1 hu) (by rw [e];exact i1) q) (.cons (λ A E s' Q e hu q=>I2.pyHash (zaT l2 hu) (by rw [e];exact i2) q) (.cons (λ A E s' Q e hu q=>I3.pyHash (zaT l3 hu) (by rw [e];exact i3) q) (.cons (λ A E s' Q e hu q=>I4.pyHash (zaT l4 hu) (by rw [e];exact i4) q) .nil)))
 eq:=by
  rintro A s ⟨x1,x2,x3,x4⟩ ⟨y1,y2,y3,y4⟩ u v hu ⟨a,u1,u2,u3,u4,rfl,h1,i1,i2,i3,i4⟩ ⟨b,v1,v2,v3,v4,rfl,g1,j1,j2,j3,j4⟩;simp only at i1 i2 i3 i4 j1 j2 j3 j4;by_cases e:a=b
  ·subst e;have:=Zj h1 g1;cases this;rw [I1.inj i1 j1,I2.inj i2 j2,I3.inj i3 j3,I4.inj i4 j4,bp rfl];exact dS _
  ·refine cB e ?_;have hu':=ziw hu;have:=cM (A:=A) (s:=s) (e:=λ j=>[decide (x1=y1),decide (x2=y2),decide (x3=y3),decide (x4=y4)].getD j true) h1 g1 (by omega) (λ j hj1 hj2=>by
    match j,hj1,hj2 with
    | 0,_,_=>exact I1.eq (zaT l1 hu') i1 j1
    | 1,_,_=>exact I2.eq (zaT l2 hu') i2 j2
    | 2,_,_=>exact I3.eq (zaT l3 hu') i3 j3
    | 3,_,_=>exact I4.eq (zaT l4 hu') i4 j4)
   have z:((List.range (min (#[u1,u2,u3,u4]:Ac).size (#[v1,v2,v3,v4]:Ac).size)).all (λ j=>[decide (x1=y1),decide (x2=y2),decide (x3=y3),decide (x4=y4)].getD j true) && (#[u1,u2,u3,u4]:Ac).size == (#[v1,v2,v3,v4]:Ac).size)=decide ((x1,x2,x3,x4)=(y1,y2,y3,y4)):=by
    show ((List.range 4).all _ && true)=_
    rw [show List.range 4=[0,1,2,3] from rfl];simp only [List.all_cons,List.all_nil,fh,List.getD_cons_zero,List.getD_cons_succ,Prod.mk.injEq,Bool.decide_and]
   rw [z] at this;exact this
 quiet:=by
  rintro A E s n k v Q hn ⟨b,u1,u2,u3,u4,rfl,h1,i1,i2,i3,i4⟩ q;obtain ⟨m,rfl,hm⟩:=zel hn;refine Wo (d:=d) h1 (λ v hv A E Q q=>?_) q;have hv:v=u1\/v=u2\/v=u3\/v=u4:=by simpa using hv
  rcases hv with rfl|rfl|rfl|rfl
  ·exact I1.quiet (ba l1 hm) i1 q
  ·exact I2.quiet (ba l2 hm) i2 q
  ·exact I3.quiet (ba l3 hm) i3 q
  ·exact I4.quiet (ba l4 hm) i4 q
end
abbrev ShK:=Option Int × List (List A9) × List A9 × List A9
noncomputable def jx (prog:Af) (w:World):KItem prog w ShK 3:=zeH (jJ prog w) (vZ (vZ (jJ prog w))) (vZ (jJ prog w)) (vZ (jJ prog w)) 2 (by decide) (by decide) (by decide) (by decide)
noncomputable def wo (prog:Af) (w:World):HeapKind prog w ShK where
 is:=λ h k a=>(jx prog w).is h k (.ref a)
 hash:=(jx prog w).hash
 draws:=(jx prog w).draws
 room:=λ A=>A.units + 3 < cLine
 inj:=λ hx hy=>(jx prog w).inj hx hy
 keeps:=λ x ho hd hs=>(jx prog w).keeps x ho hd hs
 pyHash:=λ hu hk h=>(jx prog w).pyHash hu hk h
 eqBool:=λ hu hx hy h=>(jx prog w).eq hu hx hy prog w _ _ h
 quiet:=λ hk h=>(jx prog w).quiet (by decide) hk h
end
noncomputable def oiD:Option Int->D
 | none=>.non
 | some n=>.int n
noncomputable def shD (k:ShK):D:=.tup [oiD k.1,.tup (k.2.1.map λ r=>.tup (r.map oiD)),.tup (k.2.2.1.map oiD),.tup (k.2.2.2.map oiD)]
theorem Ws {α β:Type} {F:α->β->Prop}:∀ {xs:List α} {ys:List β},xs.length=ys.length->(∀ (i:Nat) x y,xs[i]?=some x->ys[i]?=some y->F x y)->Paired F xs ys
 | [],[],_,_=>.nil
 | [],_ :: _,h,_=>by simp at h
 | _ :: _,[],h,_=>by simp at h
 | x :: xs,y :: ys,h,f=>.cons (f 0 x y rfl rfl) (Ws (by simpa using h) λ i a b e1 e2=>f (i + 1) a b e1 e2)
section
variable {P:Af} {w:World} {H:Hp} {h:Heap} {p:A5}
def Qm {x:A9} {v:V} {u:Am} (r:Rep H p v (oiD x)) (e:RelV v u):(jJ P w).is h x u:=by
 cases x with
 | none =>
  have r:Rep H p v .non:=r;cases r;exact e
 | some n =>
  have r:Rep H p v (.int n):=r;cases r;exact e
def Js {κ:Type} [DecidableEq κ] {d:Nat} (ok:HOk P w H h) {I:KItem P w κ d} {f:κ->D} (hI:∀ x v u,Rep H p v (f x)->RelV v u->I.is h x u) {xs:List κ} {v:V} {u:Am} (r:Rep H p v (.tup (xs.map f))) (e:RelV v u):(vZ I).is h xs u:=by
 obtain ⟨t,us,rfl,_,ht,rr⟩:=Rep.tup' r;obtain ⟨_,mX,vals,isT⟩:=(show ObjOk P w H h t (.tup us) from ok t _ ht);refine ⟨t,mX.toArray,e,isT,Ws ?_ λ i x y e1 e2=>?_⟩
 ·rw [fU,<- vals.length,rr.len,af]
 ·rw [fU] at e2;obtain ⟨v',hv',rv⟩:=rr.of (i:=i) (d:=f x) (by rw [aj,e1];rfl);exact hI x v' y rv (wx vals hv' e2)
theorem zc2 {α:Type} {n:Nat}:∀ {us:List α},us.length=n + 1->∃ v w,us=v :: w/\w.length=n
 | v :: w,h=>⟨v,w,rfl,by simpa using h⟩
def zcD {v:V} {vs:Ap} {us:A7} (h:Vals (v :: vs) us):∃ u ws,us=u :: ws/\RelV v u/\Vals vs ws:=by
 cases h with
 | cons a b=>exact ⟨_,_,rfl,a,b⟩
def Zb (ok:HOk P w H h) {k:ShK} {b:Addr} (r:Rep H p (.ref b) (shD k)):(wo P w).is h k b:=by
 obtain ⟨t,us,e,_,ht,rr⟩:=Rep.tup' r;cases e;obtain ⟨_,mX,vals,isT⟩:=(show ObjOk P w H h b (.tup us) from ok b _ ht);have g:=rr.g;obtain ⟨v1,w1,rfl,l1⟩:=zc2 rr.len;obtain ⟨v2,w2,rfl,l2⟩:=zc2 l1;obtain ⟨v3,w3,rfl,l3⟩:=zc2 l2;obtain ⟨v4,w4,rfl,l4⟩:=zc2 l3;cases bw.mp l4;obtain ⟨u1,z1,rfl,q1,vals⟩:=zcD vals;obtain ⟨u2,z2,rfl,q2,vals⟩:=zcD vals;obtain ⟨u3,z3,rfl,q3,vals⟩:=zcD vals;obtain ⟨u4,z4,rfl,q4,vals⟩:=zcD vals;cases vals;have k1:=Qm (P:=P) (w:=w) (h:=h) (g 0 v1 _ rfl rfl) q1;have k2:=Js ok (I:=vZ (jJ P w)) (λ x v u r e=>Js ok (I:=jJ P w) (λ x v u r e=>Qm r e) r e) (g 1 v2 _ rfl rfl) q2;have k3:=Js ok (I:=jJ P w) (λ x v u r e=>Qm r e) (g 2 v3 _ rfl rfl) q3;have k4:=Js ok (I:=jJ P w) (λ x v u r e=>Qm r e) (g 3 v4 _ rfl rfl) q4;exact ⟨b,u1,u2,u3,u4,rfl,isT,k1,k2,k3,k4⟩
end
noncomputable def toV (x:ShK × Addr × Addr):ShK × Addr × Value:=(x.1,x.2.1,.ref x.2.2)
noncomputable def sdO (P:Af) (w:World) (D:Addr) (xs:List (ShK × Addr × Addr)):HO:=.ext λ h=>((D == sysModules)=false/\xs.length<=sizeLine/\(xs.map (·.1)).Nodup)/\∃ o es ep,h.get? D=some o/\o.ExactDict/\o.data=.dict es ep/\es.toList=(xs.map toV).map (entryOfKey (wo P w))
def keysOk (H:Hp) (xs:List (ShK × Addr × Addr)):Prop:=∀ x∈xs,∃ p:Addr->Prop,Rep H p (.ref x.2.1) (shD x.1)
noncomputable def xZ (xs:List (ShK × Addr × Addr)) (k:ShK):Option Addr:=(xs.find? λ x=>decide (x.1=k)).map (·.2.2)
theorem Qf (k:ShK):∀ xs:List (ShK × Addr × Addr),(atKey (xs.map toV) k).map (·.2)=(xZ xs k).map Value.ref
 | []=>rfl
 | x :: xs=>by
  have ih:=Qf k xs;unfold atKey xZ at ih ⊢;rw [bM,cS,cS];show Option.map _ (Option.map _ (match decide (x.1=k) with|true=>some (toV x)|false=>_))=_
  by_cases e:x.1=k
  ·rw [bp e];rfl
  ·rw [aV e];exact ih
def keysOk.same {H H':Hp} {xs:List (ShK × Addr × Addr)} (h:keysOk H xs) (s:∀ b ys,H b=some (.tup ys)->H' b=some (.tup ys)) (t:∀ x∈xs,∃ p:Addr->Prop,Rep H p (.ref x.2.1) (shD x.1)/\∀ b o,p b->H b=some o->H' b=some o):keysOk H' xs:=λ x hx=>by
 obtain ⟨p,r,k⟩:=t x hx;exact ⟨p,r.keep λ b o pb hb=>⟨pb,k b o pb hb⟩⟩
def zcw {P:Af} {w:World} {H:Hp} {h:Heap} {D:Addr} {xs:List (ShK × Addr × Addr)} (ok:HOk P w H h) (e:H D=some (sdO P w D xs)) (ks:keysOk H xs):(D == sysModules)=false/\xs.length<=sizeLine/\(xs.map (·.1)).Nodup/\h.DictOfH (wo P w) D (xs.map toV):=by
 obtain ⟨⟨⟨h1,h2,h3⟩,o,es,ep,g1,g2,g3,g4⟩,_,_⟩:=(show ObjOk P w H h D (sdO P w D xs) from ok D _ e);refine ⟨h1,h2,h3,o,es,ep,g1,g2,g3,g4,λ x hx=>?_,by rw [eM];exact h3⟩;obtain ⟨y,hy,rfl⟩:=bc.mp hx;obtain ⟨p,r⟩:=ks y hy;exact Zb ok r
def zgQ {P:Af} {w:World} {H:Hp} {h:Heap} {D:Addr} {xs:List (ShK × Addr × Addr)} (h1:(D == sysModules)=false) (h2:xs.length<=sizeLine) (h3:(xs.map (·.1)).Nodup) (g:∃ o es ep,h.get? D=some o/\o.ExactDict/\o.data=.dict es ep/\es.toList=(xs.map toV).map (entryOfKey (wo P w))):ObjOk P w H h D (sdO P w D xs):=by
 refine ⟨⟨⟨h1,h2,h3⟩,g⟩,?_,?_⟩
 ·obtain ⟨o,_,_,g1,_⟩:=g;exact ⟨o,g1⟩
 ·rintro k1 k2 ⟨a,o,es,ep,g1,g2⟩ k;exact ⟨a,o,es,ep,k o g1,g2⟩
section
variable {X:Cx} {m5:A2} {σ:St} {H:Hp} {s:An} {D b y:Addr} {A:Ao} {E:A3} {xs:List (ShK × Addr × Addr)} {k:ShK} {p:A5}
def ZC (hu:A.units + 100 < cLine):(wo X.prog X.w).room A.in1:=by
 show A.in1.units + 3 < cLine
 simp only [fi];omega
def ziU {Q:A3} (hu:A.units + 100 < cLine) (I:Inv X m5 σ H s) (e:H D=some (sdO X.prog X.w D xs)) (ks:keysOk H xs) (r:Rep H p (.ref b) (shD k)) (h:∀ s',Inv X m5 σ H s'->Q (.bool (xZ xs k).isSome) s'):wpAny (model X.prog X.w) A (compareOp .In (.ref b) (.ref D)) Q E s:=by
 obtain ⟨h1,h2,h3,dd⟩:=zcw I.hok e ks;refine wpAny_in_heap (ZC hu) (Zb I.hok r) h1 dd ?_;have q:=bP Option.isSome (Qf k xs);rw [dc,dc] at q;rw [q];exact h _ (I.tok _)
def zif {Q:A3} (hu:A.units + 100 < cLine) (I:Inv X m5 σ H s) (e:H D=some (sdO X.prog X.w D xs)) (ks:keysOk H xs) (r:Rep H p (.ref b) (shD k)) (l:xZ xs k=some y) (h:∀ s',Inv X m5 σ H s'->Q (.ref y) s'):wpAny (model X.prog X.w) A (getItem (.ref D) (.ref b)) Q E s:=by
 obtain ⟨h1,h2,h3,dd⟩:=zcw I.hok e ks;have q:=Qf k xs;rw [l] at q;obtain ⟨z,hz,e2⟩:=au.mp q;refine wpAny_getItem_heap (ZC hu) (Zb I.hok r) dd hz ?_;rw [e2];exact h _ (I.tok _)
def zie {Q:Ag} (hu:A.units + 100 < cLine) (I:Inv X m5 σ H s) (e:H D=some (sdO X.prog X.w D xs)) (ks:keysOk H xs) (r:Rep H p (.ref b) (shD k)) (l:xZ xs k=none) (hl:xs.length < sizeLine) (h:∀ s',Inv X m5 σ (upd H D (sdO X.prog X.w D (xs ++ [(k,b,y)]))) s'->Q () s'):wpAny (model X.prog X.w) A (setItem (.ref D) (.ref b) (.ref y)) Q E s:=by
 obtain ⟨h1,h2,h3,dd⟩:=zcw I.hok e ks;have q:=Qf k xs;rw [l] at q;have q:atKey (xs.map toV) k=none:=by simpa using q
 refine wpAny_setItem_heap (hsz:=by rw [af];exact h2) (ZC hu) (Zb I.hok r) dd λ h' dd' hs=>h _ ?_;rw [storedH_new q] at dd';obtain ⟨o,es,ep,g1,g2,g3,g4,_,g5⟩:=dd';refine VP I (by rw [e];exact True.intro) hs ⟨o,g1⟩ (zgQ h1 (by simp;omega) ?_ ⟨o,es,ep,g1,g2,g3,?_⟩)
 ·have:(xs ++ [(k,b,y)]).map (·.1)=((xs.map toV ++ [(k,b,Value.ref y)]).map (·.1)):=by simp [toV]
  rw [this];exact g5
 ·rw [g4];simp [toV]
end
def tSIn (P:Af) (w:World) (ty td:TE):TE:=λ σ H Q=>ty σ H λ y H1=>td σ H1 λ x H2=>∃ D b xs k p,x=.ref D/\y=.ref b/\H2 D=some (sdO P w D xs)/\keysOk H2 xs/\Rep H2 p (.ref b) (shD k)/\Q (.bl (xZ xs k).isSome) H2
def tSGet (P:Af) (w:World) (td ty:TE):TE:=λ σ H Q=>td σ H λ x H1=>ty σ H1 λ y H2=>∃ D b xs k p z,x=.ref D/\y=.ref b/\H2 D=some (sdO P w D xs)/\keysOk H2 xs/\Rep H2 p (.ref b) (shD k)/\xZ xs k=some z/\Q (.ref z) H2
def sSPut (P:Af) (w:World) (td ty tv:TE):TS:=λ N σ H=>tv σ H λ v H1=>td σ H1 λ x H2=>ty σ H2 λ y H3=>∃ D b xs k p z,x=.ref D/\y=.ref b/\v=.ref z/\H3 D=some (sdO P w D xs)/\keysOk H3 xs/\Rep H3 p (.ref b) (shD k)/\xZ xs k=none/\xs.length < sizeLine/\N.nx σ (upd H3 D (sdO P w D (xs ++ [(k,b,z)])))
def tSNew (P:Af) (w:World):TE:=λ _ H Q=>∀ p,H p=none->Q (.ref p) (upd H p (sdO P w p []))
section
variable {X:Cx} {o i value:Expr} {pos pos':Pos} {td ty tv:TE}
def zho (hu:X.A.units + 100 < cLine) (hi:PE X i ty) (ho:PE X o td):PC X .In i o (tSIn X.prog X.w ty td):=by
 intro m5 s σ H Q I h;refine qM (hi m5 s σ H _ I h) λ iv s1 y H1 I1 ry q1=>qM (ho m5 s1 σ H1 _ I1 q1) λ u s2 x H2 I2 rx qq_=>?_;obtain ⟨D,b,xs,k,p,ex,ey,e,ks,r,q2⟩:=qq_;subst ex ey;obtain rfl:u=Value.ref D:=rx;obtain rfl:iv=Value.ref b:=ry;exact ziU hu I2 e ks r λ s3 I3=>⟨.bl _,H2,I3,rfl,q2⟩
def zgb (hu:X.A.units + 100 < cLine) (ho:PE X o td) (hi:PE X i ty) (hs:zh4 i):PE X (.Subscript o i pos) (tSGet X.prog X.w td ty):=by
 intro m5 s σ H Q I h;refine zct eR.lookup hs (qM (ho m5 s σ H _ I h) λ u s1 x H1 I1 rx q1=>qM (hi m5 s1 σ H1 _ I1 q1) λ iv s2 y H2 I2 ry qq_=>?_);obtain ⟨D,b,xs,k,p,z,ex,ey,e,ks,r,l,q2⟩:=qq_;subst ex ey;obtain rfl:u=Value.ref D:=rx;obtain rfl:iv=Value.ref b:=ry;exact ⟨(zcw I2.hok e ks).2.2.2.typeIs,zif hu I2 e ks r l λ s3 I3=>⟨.ref z,H2,I3,rfl,q2⟩⟩
def zf7 (hu:X.A.units + 100 < cLine) (ho:PE X o td) (hi:PE X i ty) (hv:PE X value tv) (hs:swapsWith value (some (.Subscript o i pos')) pos.line X.env=pure false) :
  PS X (.Assign [.Subscript o i pos'] value pos) (sSPut X.prog X.w td ty tv):=by
 intro m5 s σ H N I h;refine wpAny_Assign_Subscript (qM (hv m5 s σ H _ I h) λ r s1 v H1 I1 rv q1=>qM (ho m5 s1 σ H1 _ I1 q1) λ u s2 x H2 I2 rx q2=>qM (hi m5 s2 σ H2 _ I2 q2) λ iv s3 y H3 I3 ry qq_=>?_) hs;obtain ⟨D,b,xs,k,p,z,ex,ey,ez,e,ks,r',l,hl,q3⟩:=qq_;subst ex ey ez;obtain rfl:u=Value.ref D:=rx;obtain rfl:iv=Value.ref b:=ry;obtain rfl:r=Value.ref z:=rv;exact zie hu I3 e ks r' l hl λ s4 I4=>⟨σ,_,I4,q3⟩
def zga:PE X (.Dict [] [] pos) (tSNew X.prog X.w):=λ m5 s σ H Q I h =>
 wpAny_Dict_empty ⟨.ref s.heap.objs.size,_,I.laid (a:=s.heap.objs.size) (o:=sdO X.prog X.w s.heap.objs.size []) (t':=s.toks) (λ _ _ q=>ai _ q) (aq _) (zgQ (a7.mpr (aW (aK I.big))) (bQ _) nodup_nil ⟨_,#[],0,aD _ rfl,⟨rfl,rfl,rfl⟩,rfl,rfl⟩),rfl,h _ (I.hok.fresh (aq _))⟩
end
section
variable {X:Cx} {G:GK} {x:Str} {np pos hpos:Pos} {body su:List Stmt} {b₀:Stmt} {tb:List (Addr × Obj)->GK->TS} {th:List (Addr × Obj)->Addr->TS}
def zgM (X:Cx) (x:Str) (tb:List (Addr × Obj)->GK->TS) (th:List (Addr × Obj)->Addr->TS):TS:=λ D σ H=>∃ Dc,X.mg x=some (.ref Dc)/\subIn X.K (.ref Dc) (.type "BaseException")=some true /\
 ∀ pn,tb pn (λ cls σ' H'=>∃ C,cls=.ref C/\kitCls X.K (.ref C) (.ref Dc)=some true/\∀ a,H' a=none->th pn a D σ' H') D σ H
theorem zhi (B:Bod X) (hc:X.calm=true)
  (hb:∀ pn G',PSs ((X.pinned pn).exg G') body (tb pn G')) (hs:∀ pn a,PSs (X.suite pn a) (b₀ :: su) (th pn a)) (hg:Gl X x:=by rfl) (hdb:(x == ("__debug__":Str))=false:=by decide) :
  PS (X.exg G) (.Try body [.ExceptHandler (some (.Name x np)) none (b₀ :: su) hpos] [] [] pos) (zgM X x tb th):=by
 intro m5 s σ H D I h;obtain ⟨Dc,hm,hsub,h⟩:=h;have I1:=I.unwish.topn;refine wpAny_Try_except (aU (hb (X.pn ++ m5) _ [] s σ H D (I1.wish _) (h (X.pn ++ m5))) (λ f s1 q=>?_) λ e s1 q=>?_)
 ·cases f with
  | next =>
   obtain ⟨σ',H',J,q⟩:=q;exact cZ ⟨σ',H',J.unwish.ofpn.wish _,q⟩
  | brk=>obtain ⟨σ',H',J,q⟩:=q;exact ⟨σ',H',J.unwish.ofpn.wish _,q⟩
  | cont=>obtain ⟨σ',H',J,q⟩:=q;exact ⟨σ',H',J.unwish.ofpn.wish _,q⟩
  | ret u=>obtain ⟨v,σ',H',J,r,q⟩:=q;exact ⟨v,σ',H',J.unwish.ofpn.wish _,r,q⟩
 ·refine aU (show wpAny _ _ _ _ _ _ from q) (λ _ s2 q2=>aU q2 (λ _ s3 q3=>?_) λ _ _ z=>z.elim) λ _ _ z=>z.elim;obtain ⟨a,cls,σ',H',rfl,J,xx,C,rfl,hk,hth⟩:=q3;have J2:Inv (X.suite (X.pn ++ m5) a) [] σ' H' s3:=J.tosuite;obtain ⟨oe,vs,he,hcls,_,_⟩:=xx.obj;refine wpAny_handleBy_cons (codeAny_handlers_test (x8 J2 hg hm (za1 J2.kIn he hcls hk hsub ?_) hdb)) (by intro z;cases z);refine codeAny_handlers_suite ?_;refine zce J2 (xx.less λ p hp=>by rwa [bU] at hp) λ s4 J4 x4=>?_;refine aU (hs (X.pn ++ m5) a [] s4 _ _ _ J4 (hth a xx.Ha)) (λ f s6 q6=>?_) λ _ _ z=>False.elim z;cases f with
  | next=>obtain ⟨σ7,H7,J7,q7⟩:=q6;exact ⟨σ7,H7,(J7.ofsuite I.ok.hd).ofpn.wish _,q7⟩
  | brk=>obtain ⟨σ7,H7,J7,q7⟩:=q6;exact ⟨σ7,H7,(J7.ofsuite I.ok.hd).ofpn.wish _,q7⟩
  | cont=>obtain ⟨σ7,H7,J7,q7⟩:=q6;exact ⟨σ7,H7,(J7.ofsuite I.ok.hd).ofpn.wish _,q7⟩
  | ret u=>obtain ⟨v,σ7,H7,J7,r7,q7⟩:=q6;exact ⟨v,σ7,H7,(J7.ofsuite I.ok.hd).ofpn.wish _,r7,q7⟩
end
def Qp {X:Cx}:CallR X (.type "tuple") (λ xs H Q=>∃ p ys,xs=[.ref p]/\((SqL X.K H p ys/\∀ l,H l=none->Q (.ref l) (upd H l (.tup ys)))\/(SqT X.K H p ys/\Q (.ref p) H))):=We
end L2
namespace L2
section
variable {G:Prop} {A B C D E F H I:Type}
def iE2 {k:A->B->Prop} (a:A) (b:B) (p:k a b):∃ a b,k a b:=⟨a,b,p⟩
def iE3 {k:A->B->C->Prop} (a:A) (b:B) (c:C) (p:k a b c):∃ a b c,k a b c:=⟨a,b,c,p⟩
def iE4 {k:A->B->C->D->Prop} (a:A) (b:B) (c:C) (d:D) (p:k a b c d):∃ a b c d,k a b c d:=⟨a,b,c,d,p⟩
def iE5 {k:A->B->C->D->E->Prop} (a:A) (b:B) (c:C) (d:D) (e:E) (p:k a b c d e):∃ a b c d e,k a b c d e:=⟨a,b,c,d,e,p⟩
def iE6 {k:A->B->C->D->E->F->Prop} (a:A) (b:B) (c:C) (d:D) (e:E) (f:F) (p:k a b c d e f):∃ a b c d e f,k a b c d e f:=⟨a,b,c,d,e,f,p⟩
def iE7 {k:A->B->C->D->E->F->H->Prop} (a:A) (b:B) (c:C) (d:D) (e:E) (f:F) (g:H) (p:k a b c d e f g):∃ a b c d e f g,k a b c d e f g:=⟨a,b,c,d,e,f,g,p⟩
def iE8 {k:A->B->C->D->E->F->H->I->Prop} (a:A) (b:B) (c:C) (d:D) (e:E) (f:F) (g:H) (i:I) (p:k a b c d e f g i):∃ a b c d e f g i,k a b c d e f g i:=⟨a,b,c,d,e,f,g,i,p⟩
def oE1 {k:A->Prop} (h:∃ a,k a) (w:∀ a,k a->G):G:=by obtain ⟨a,p⟩:=h;exact w a p
def oE2 {k:A->B->Prop} (h:∃ a b,k a b) (w:∀ a b,k a b->G):G:=by obtain ⟨a,b,p⟩:=h;exact w a b p
def oE3 {k:A->B->C->Prop} (h:∃ a b c,k a b c) (w:∀ a b c,k a b c->G):G:=by obtain ⟨a,b,c,p⟩:=h;exact w a b c p
def oE4 {k:A->B->C->D->Prop} (h:∃ a b c d,k a b c d) (w:∀ a b c d,k a b c d->G):G:=by obtain ⟨a,b,c,d,p⟩:=h;exact w a b c d p
def oE5 {k:A->B->C->D->E->Prop} (h:∃ a b c d e,k a b c d e) (w:∀ a b c d e,k a b c d e->G):G:=by obtain ⟨a,b,c,d,e,p⟩:=h;exact w a b c d e p
def oE6 {k:A->B->C->D->E->F->Prop} (h:∃ a b c d e f,k a b c d e f) (w:∀ a b c d e f,k a b c d e f->G):G:=by obtain ⟨a,b,c,d,e,f,p⟩:=h;exact w a b c d e f p
def oE7 {k:A->B->C->D->E->F->H->Prop} (h:∃ a b c d e f g,k a b c d e f g) (w:∀ a b c d e f g,k a b c d e f g->G):G:=by obtain ⟨a,b,c,d,e,f,g,p⟩:=h;exact w a b c d e f g p
def oE8 {k:A->B->C->D->E->F->H->I->Prop} (h:∃ a b c d e f g i,k a b c d e f g i) (w:∀ a b c d e f g i,k a b c d e f g i->G):G:=by obtain ⟨a,b,c,d,e,f,g,i,p⟩:=h;exact w a b c d e f g i p
end
section
variable {G A B C D E F H I J:Prop}
def iA3 (a:A) (b:B) (c:C):A/\B/\C:=⟨a,b,c⟩
def iA4 (a:A) (b:B) (c:C) (d:D):A/\B/\C/\D:=⟨a,b,c,d⟩
def iA5 (a:A) (b:B) (c:C) (d:D) (e:E):A/\B/\C/\D/\E:=⟨a,b,c,d,e⟩
def iA6 (a:A) (b:B) (c:C) (d:D) (e:E) (f:F):A/\B/\C/\D/\E/\F:=⟨a,b,c,d,e,f⟩
def iA7 (a:A) (b:B) (c:C) (d:D) (e:E) (f:F) (g:H):A/\B/\C/\D/\E/\F/\H:=⟨a,b,c,d,e,f,g⟩
def iA8 (a:A) (b:B) (c:C) (d:D) (e:E) (f:F) (g:H) (i:I):A/\B/\C/\D/\E/\F/\H/\I:=⟨a,b,c,d,e,f,g,i⟩
def iA9 (a:A) (b:B) (c:C) (d:D) (e:E) (f:F) (g:H) (i:I) (j:J):A/\B/\C/\D/\E/\F/\H/\I/\J:=⟨a,b,c,d,e,f,g,i,j⟩
def oA2 (h:A/\B) (k:A->B->G):G:=by obtain ⟨a,b⟩:=h;exact k a b
def oA3 (h:A/\B/\C) (k:A->B->C->G):G:=by obtain ⟨a,b,c⟩:=h;exact k a b c
def oA4 (h:A/\B/\C/\D) (k:A->B->C->D->G):G:=by obtain ⟨a,b,c,d⟩:=h;exact k a b c d
def oA5 (h:A/\B/\C/\D/\E) (k:A->B->C->D->E->G):G:=by obtain ⟨a,b,c,d,e⟩:=h;exact k a b c d e
def oA6 (h:A/\B/\C/\D/\E/\F) (k:A->B->C->D->E->F->G):G:=by obtain ⟨a,b,c,d,e,f⟩:=h;exact k a b c d e f
def oA7 (h:A/\B/\C/\D/\E/\F/\H) (k:A->B->C->D->E->F->H->G):G:=by obtain ⟨a,b,c,d,e,f,g⟩:=h;exact k a b c d e f g
def oA8 (h:A/\B/\C/\D/\E/\F/\H/\I) (k:A->B->C->D->E->F->H->I->G):G:=by obtain ⟨a,b,c,d,e,f,g,i⟩:=h;exact k a b c d e f g i
def oA9 (h:A/\B/\C/\D/\E/\F/\H/\I/\J) (k:A->B->C->D->E->F->H->I->J->G):G:=by obtain ⟨a,b,c,d,e,f,g,i,j⟩:=h;exact k a b c d e f g i j
end
end L2
namespace Mine
def zfj {p r:Int} (hp:0<=p) (hr:0 < r):Int.gcd r (p % r)=Int.gcd p r:=by
 have e:(p % r).natAbs=p.natAbs % r.natAbs:=by
  have h1:p=(p.natAbs:Int):=by omega
  have h2:r=(r.natAbs:Int):=by omega
  rw [h1,h2,<- dl,be,be,be]
 show Nat.gcd r.natAbs (p % r).natAbs=Nat.gcd p.natAbs r.natAbs
 rw [e,Nat.gcd_comm p.natAbs,Nat.gcd_rec r.natAbs p.natAbs,Nat.gcd_comm]
def zgu {p:Int} (hp:0<=p):(Int.gcd p 0:Int)=p:=by
 rw [Int.gcd_zero_right];omega
def VJ {a b:Int} (h:¬ (a=0/\b=0)):1<=(Int.gcd a b:Int):=by
 have:0 < Int.gcd a b:=Int.gcd_pos_iff.mpr (by omega);omega
end Mine
namespace Mine
structure IsLcm (ns:A6) (l:Int):Prop where
 pos:0 < l
 dv:∀ n∈ns,n ∣ l
 least:∀ m:Int,(∀ n∈ns,n ∣ m)->l ∣ m
def IsLcm.nil:IsLcm [] 1:=⟨by decide,(λ _ h=>nomatch h),λ m _=>Int.one_dvd m⟩
def zhy {a b:Int} (ha:0 < a) (hb:0 < b):a / (Int.gcd a b:Int) * b=(Nat.lcm a.natAbs b.natAbs:Int):=by
 have g:(Int.gcd a b:Int) ∣ a:=Int.gcd_dvd_left ..;obtain ⟨k,hk⟩:=g;have gp:0 < (Int.gcd a b:Int):=by have:=VJ (a:=a) (b:=b) (by omega);omega
 have e1:a / (Int.gcd a b:Int)=k:=by
  conv=>lhs;rw [hk]
  have hk':=hk;rw [dr (Int.gcd a b:Int) k];have e2:Int.gcd (k * (Int.gcd a b:Int)) b=Int.gcd a b:=by rw [dr,<- hk]
  rw [e2];exact Int.mul_ediv_cancel _ (by omega)
 have hkn:0 < k:=by
  rcases (by omega:k<=0\/0 < k) with h|h
  ·have:=dY (cV gp) h;omega
  ·exact h
 have hg:Nat.gcd a.natAbs b.natAbs * Nat.lcm a.natAbs b.natAbs=a.natAbs * b.natAbs:=Nat.gcd_mul_lcm ..;have ea:a.natAbs=Nat.gcd a.natAbs b.natAbs * k.natAbs:=by
  have:=bP Int.natAbs hk;rw [Int.natAbs_mul,be] at this;exact this
 have gp':0 < Nat.gcd a.natAbs b.natAbs:=by
  have:(Nat.gcd a.natAbs b.natAbs:Int)=(Int.gcd a b:Int):=rfl;omega
 have e3:Nat.lcm a.natAbs b.natAbs=k.natAbs * b.natAbs:=by
  apply eT gp';rw [hg,<- Nat.mul_assoc,<- ea]
 rw [e1,e3];rw [dB];have h1:k=(k.natAbs:Int):=by omega
 have h2:b=(b.natAbs:Int):=by omega
 rw [<- h1,<- h2]
def wl {a b:Int} (h:a ∣ b):a.natAbs ∣ b.natAbs:=cE.mpr h
def IsLcm.step {ns:A6} {l p:Int} (x:IsLcm ns l) (hp:0 < p):IsLcm (ns ++ [p]) (l / (Int.gcd l p:Int) * p):=by
 rw [zhy x.pos hp];have lp:0 < l.natAbs:=by have:=x.pos;omega
 have pp:0 < p.natAbs:=by omega
 refine ⟨?_,λ n hn=>?_,λ m hm=>?_⟩
 ·have:=Nat.lcm_pos lp pp;omega
 ·rcases aF.mp hn with h|h
  ·have h1:=x.dv n h;refine Int.dvd_trans h1 ?_;rw [<- cE,be];exact Nat.dvd_lcm_left ..
  ·rw [ar.mp h,<- cE,be];exact Nat.dvd_lcm_right ..
 ·have h1:=x.least m λ n hn=>hm n (bF _ hn);have h2:=hm p (aX _ (ar.mpr rfl));rw [<- cE,be];exact Nat.lcm_dvd (wl h1) (wl h2)
def VL {a b:Int} (hb:0 < b):(Int.gcd a b:Int)<=b:=Int.le_of_dvd hb (ef ..)
end Mine
namespace Mine
def Jg (top bottom:Int):Int:=if bottom < 0 then -(Int.gcd top bottom:Int) else (Int.gcd top bottom:Int)
def vy (top bottom:Int):Int:=top.fdiv (Jg top bottom)
def vz (top bottom:Int):Int:=bottom.fdiv (Jg top bottom)
def w9 {p t:Int} (h:p≠0):(p * t).fdiv p=t:=by
 rw [dr];exact Int.mul_fdiv_cancel t h
def ZO {top bottom:Int} (h:bottom≠0):∃ p t b,Jg top bottom=p/\p≠0/\top=p * t/\bottom=p * b/\1<=b/\Int.gcd t b=1/\p.natAbs<=bottom.natAbs:=by
 have gp:=VJ (a:=top) (b:=bottom) (by omega);obtain ⟨t,ht⟩:=Int.gcd_dvd_left (a:=top) (b:=bottom);obtain ⟨b,hb⟩:=ef (a:=top) (b:=bottom);have hg:Int.gcd t b=1:=by
  have e:Int.gcd ((Int.gcd top bottom:Int) * t) ((Int.gcd top bottom:Int) * b)=(Int.gcd top bottom:Int).natAbs * Int.gcd t b:=Int.gcd_mul_left ..;rw [<- ht,<- hb,be] at e;have gp':0 < Int.gcd top bottom:=by omega
  exact (eT gp' (by rw [Nat.mul_one];exact e)).symm
 have hle:(Int.gcd top bottom:Int).natAbs<=bottom.natAbs:=by
  rw [be];exact Nat.le_of_dvd (by omega) (wl (ef ..) |> λ z=>by rwa [be] at z)
 unfold Jg;by_cases hs:bottom < 0
 ·rw [ap hs];refine ⟨_,-t,-b,rfl,by omega,by rw [Int.neg_mul_neg];exact ht,by rw [Int.neg_mul_neg];exact hb,?_,by rw [Int.gcd_neg,Int.neg_gcd];exact hg,by rw [Int.natAbs_neg];exact hle⟩;rcases (by omega:b < 0\/0<=b) with z|z
  ·omega
  ·have:=Int.mul_nonneg (bI (Int.gcd top bottom)) z;omega
 ·rw [am hs];refine ⟨_,t,b,rfl,by omega,ht,hb,?_,hg,hle⟩;rcases (by omega:b<=0\/0 < b) with z|z
  ·have:=dY (bI (Int.gcd top bottom)) z;omega
  ·omega
structure Low (top bottom t b:Int):Prop where
 b1:1<=b
 v:t * bottom=top * b
 g:Int.gcd t b=1
def zf2 {top bottom:Int} (h:bottom≠0):Low top bottom (vy top bottom) (vz top bottom):=by
 obtain ⟨p,t,b,e,hp,ht,hb,b1,g,_⟩:=ZO (top:=top) h;unfold vy vz;rw [e];have e1:top.fdiv p=t:=by rw [ht];exact w9 hp
 have e2:bottom.fdiv p=b:=by rw [hb];exact w9 hp
 rw [e1,e2];refine ⟨b1,?_,g⟩;rw [ht,hb,<- Int.mul_assoc,dr t p]
def wy {p t:Int} (h:p≠0):t.natAbs<=(p * t).natAbs:=by
 rw [Int.natAbs_mul];exact Nat.le_mul_of_pos_left _ (by omega)
def zdx {top bottom:Int} (h:bottom≠0):(vy top bottom).natAbs<=top.natAbs/\(vz top bottom).natAbs<=bottom.natAbs:=by
 obtain ⟨p,t,b,e,hp,ht,hb,_⟩:=ZO (top:=top) h;unfold vy vz;rw [e];have e1:top.fdiv p=t:=by rw [ht];exact w9 hp
 have e2:bottom.fdiv p=b:=by rw [hb];exact w9 hp
 rw [e1,e2,ht,hb];exact ⟨wy hp,wy hp⟩
def zbz {n:Nat} (h:n < 10 ^ 61):n < 2 ^ 8000 :=
 d9 h (d9 (show 10 ^ 61 < 2 ^ 250 by decide +kernel) (fJ (by decide) (by decide)))
def zge {top bottom:Int} (h:bottom≠0):Jg top bottom≠0/\(Jg top bottom).natAbs<=bottom.natAbs:=by
 obtain ⟨p,t,b,e,hp,ht,hb,_,_,hl⟩:=ZO (top:=top) h;rw [e];exact ⟨hp,hl⟩
def zgI (a b:Int):Int.gcd (if a < 0 then -a else a) (if b < 0 then -b else b)=Int.gcd a b:=by
 have e1:(if a < 0 then -a else a).natAbs=a.natAbs:=by split <;> omega
 have e2:(if b < 0 then -b else b).natAbs=b.natAbs:=by split <;> omega
 show Nat.gcd _ _=Nat.gcd _ _
 rw [e1,e2]
end Mine
namespace L2
open PySem PySem.Spec PyProof.Rows
variable {i:Int} {xs:Ap} {v:V} {CX:CXT} {P:Af} {w:World} {mg:A4} {base:Heap} {N:A8} {qual:Str} {scope:Scope} {f:Addr} {cd:Am} {A:Ao} {s:An} {E:XK}
section
variable {X:Cx} {K:A0} {σ:St} {H:Hp} {Q:VK} {D:Ends}
def rd_iq {P:Int->Prop}:iq (.int i) P=P i:=rfl
def rd_bq {b:Bool} {P:Bool->Prop}:bq (.bl b) P=P b:=rfl
def rd_nq {P:Prop}:nq .non P=P:=rfl
def rd_lq {P:V->Prop}:lq [v] P=P v:=rfl
def rd_vq {P:V->Prop}:vq (some (some v)) P=P v:=rfl
def rd_addI {i j:Int}:zaA K (.int i) (.int j) H Q=Q (.int (i + j)) H:=rfl
def rd_addS {i j:Str}:zaA K (.str i) (.str j) H Q=(i.length + j.length<=sizeLine/\Q (.str (i ++ j)) H):=rfl
def rd_mc {α β:Type} {f:α->β} {a:α} {l:List α}:List.map f (a :: l)=f a :: List.map f l:=rfl
def rd_mn {α β:Type} {f:α->β}:List.map f []=[]:=rfl
def rd_itT {A B:Prop}:(if true=true then A else B)=A:=rfl
def rd_itF {A B:Prop}:(if false=true then A else B)=B:=rfl
def rd_is0 {A B:Prop}:(if V.non=V.non then A else B)=A:=rfl
def rd_is1 {a:Addr} {A B:Prop}:(if V.ref a=V.non then A else B)=B:=rfl
def rd_is2 {a:Int} {A B:Prop}:(if V.int a=V.non then A else B)=B:=rfl
def rd_in0 {A B:Prop}:(if ¬ V.non=V.non then A else B)=B:=rfl
def rd_in1 {a:Addr} {A B:Prop}:(if ¬ V.ref a=V.non then A else B)=A:=rfl
def rd_in2 {a:Int} {A B:Prop}:(if ¬ V.int a=V.non then A else B)=A:=rfl
def rd_sz0 {P:Prop}:szl [] P=P:=rfl
section
variable {P:Prop} {a b c d e f g h i:V}
def rd_sz1:szl [a] P=P:=rfl
def rd_sz2:szl [a,b] P=P:=rfl
def rd_sz3:szl [a,b,c] P=P:=rfl
def rd_sz4:szl [a,b,c,d] P=P:=rfl
def rd_sz5:szl [a,b,c,d,e] P=P:=rfl
def rd_sz6:szl [a,b,c,d,e,f] P=P:=rfl
def rd_sz7:szl [a,b,c,d,e,f,g] P=P:=rfl
def rd_sz8:szl [a,b,c,d,e,f,g,h] P=P:=rfl
def rd_sz9:szl [a,b,c,d,e,f,g,h,i] P=P:=rfl
end
noncomputable def zcT:Nat->List Stmt->Bool
 | 0,_=>false
 | n + 1,b=>match b.getLast? with
  | some (.Return ..)=>true
  | some (.Raise ..)=>true
  | some (.Continue ..)=>true
  | some (.Break ..)=>true
  | some (.If _ b e _)=>zcT n b && zcT n e
  | _=>false
noncomputable def ziD:Stmt->Bool
 | .For ..=>true
 | .While ..=>true
 | .Try ..=>true
 | .If _ b e _=>!zcT 9 b && !zcT 9 e
 | _=>false
def fa {X:Cx} {st:Stmt} {t:TS} (_:ziD st=true) (p:PS X st t):PS X st t:=p
structure Vr (X:Cx) (i:Nat) (x:Str):Prop where
 n:X.N[i]?=some x
 v:Vis X.env.scope x
 d:(x == ("__debug__":Str))=false
 c:(x == ("__classdict__":Str))=false
def pq {X:Cx} (i:Nat) {x:Str} {pos:Pos} (h:Vr X i x:=by walk_at "v"):PE X (.Name x pos) (tVar i):=zhl h.n h.v h.d h.c
def rd_trB {b:Bool} {P:Bool->Hp->Prop}:trq K (.bl b) H P=P b H:=rfl
def rd_trI {P:Bool->Hp->Prop}:trq K (.int i) H P=∃ k,zec K (.int i) H k/\P k H:=rfl
def rd_trR {a:Addr} {P:Bool->Hp->Prop}:trq K (.ref a) H P=∃ k,zec K (.ref a) H k/\P k H:=rfl
def rd_trS {x:Str} {P:Bool->Hp->Prop}:trq K (.str x) H P=∃ k,zec K (.str x) H k/\P k H:=rfl
def rd_eqI {i j:Int}:zaz K (.int i) (.int j) H Q=Q (.bl (decide (i=j))) H:=rfl
def rd_neI {i j:Int}:zbP K (.int i) (.int j) H Q=Q (.bl (!decide (i=j))) H:=rfl
def rd_eqS {i j:Str}:zaz K (.str i) (.str j) H Q=Q (.bl (decide (i=j))) H:=rfl
def rd_eqB {i j:Bool}:zaz K (.bl i) (.bl j) H Q=Q (.bl (decide (i=j))) H:=rfl
def rd_eTI {i j:Int}:zdz K (.int i) (.int j) H Q=if i=j then Q (.bl true) H else Q (.bl false) H:=rfl
def rd_eTS {i j:Str}:zdz K (.str i) (.str j) H Q=if i=j then Q (.bl true) H else Q (.bl false) H:=rfl
def rd_eTB {i j:Bool}:zdz K (.bl i) (.bl j) H Q=if i=j then Q (.bl true) H else Q (.bl false) H:=rfl
def rd_nTI {i j:Int}:zdy K (.int i) (.int j) H Q=if ¬ i=j then Q (.bl true) H else Q (.bl false) H:=rfl
def rd_nTS {i j:Str}:zdy K (.str i) (.str j) H Q=if ¬ i=j then Q (.bl true) H else Q (.bl false) H:=rfl
def rd_nTB {i j:Bool}:zdy K (.bl i) (.bl j) H Q=if ¬ i=j then Q (.bl true) H else Q (.bl false) H:=rfl
def rd_eTR {a b:Addr}:zdz K (.ref a) (.ref b) H Q=zaz K (.ref a) (.ref b) H Q:=rfl
def rd_nTR {a b:Addr}:zdy K (.ref a) (.ref b) H Q=zbP K (.ref a) (.ref b) H Q:=rfl
def rd_fvI {P:Str->Prop} {R:Str->Prop}:((∃ j,V.int i=V.int j/\j.natAbs.log2 < 1920/\P (toString j))\/(∃ y,V.int i=V.str y/\y.length<=sizeLine/\R y)) ↔ i.natAbs.log2 < 1920/\P (toString i) :=
 ⟨λ h=>h.elim (λ ⟨_,e,h⟩=>by cases e;exact h) (λ ⟨_,e,_⟩=>nomatch e),λ h=>.inl ⟨i,rfl,h⟩⟩
def rd_strS {y:Str} {P:Str->Prop}:(∃ z,V.str y=V.str z/\P z) ↔ P y:=⟨λ ⟨_,e,h⟩=>by cases e;exact h,λ h=>⟨y,rfl,h⟩⟩
def rd_c0:((0:Nat):Int)=0:=rfl
def rd_c1:((1:Nat):Int)=1:=rfl
def rd_c2:((2:Nat):Int)=2:=rfl
def rd_c3:((3:Nat):Int)=3:=rfl
def rd_c4:((4:Nat):Int)=4:=rfl
def rd_c5:((5:Nat):Int)=5:=rfl
def rd_c6:((6:Nat):Int)=6:=rfl
def Zc {p:Addr} {k:Int} {j:Nat} {R:Hp->Prop} (h:H p=some (.lst xs)) (e:ixN xs.length k=some j) (q:R (upd H p (.lst (xs.set j v)))):zgS (.ref p) (.int k) v H R:=⟨p,xs,k,j,rfl,rfl,h,e,q⟩
def Xw {n:Nat} {k:Int} (h0:0<=k) (h1:k < n):ixN n k=some k.toNat:=by unfold ixN;rw [ap h0,ap h1]
def cx_K {K:A0} {outer:List Env} {H:Hp}:(Jo CX P w K mg base N qual scope f cd A outer s H E).K=K:=rfl
def cx_mg {K:A0} {outer:List Env} {H:Hp}:(Jo CX P w K mg base N qual scope f cd A outer s H E).mg=mg:=rfl
def cx_prog {K:A0} {outer:List Env} {H:Hp}:(Jo CX P w K mg base N qual scope f cd A outer s H E).prog=P:=rfl
def cx_w {K:A0} {outer:List Env} {H:Hp}:(Jo CX P w K mg base N qual scope f cd A outer s H E).w=w:=rfl
def cx_base {K:A0} {outer:List Env} {H:Hp}:(Jo CX P w K mg base N qual scope f cd A outer s H E).base=base:=rfl
def rd_cpow {n:Int}:ziO 10 n ↔ 0<=n/\n<=1000000:=⟨λ h=>⟨h.1,h.2.1⟩,λ h=>⟨h.1,h.2,by decide⟩⟩
def rd_isiI:zeF K [.int i,.ty "int"] H Q ↔ Q (.bl true) H:=by
 refine ⟨λ h=>?_,λ q=>⟨_,_,_,_,rfl,.old (.int i),.inl ⟨_,rfl,Q3⟩,q⟩⟩;obtain ⟨x,c,t,b,e,ty,k,q⟩:=h;cases e;rcases k with ⟨u,hu,k⟩|⟨_,_,_,e,_⟩
 ·cases hu;cases ty with|old ty=>cases ty;rw [Q3] at k;cases k;exact q
 ·cases e
def rd_isiIB:zeF K [.int i,.ty "bool"] H Q ↔ Q (.bl false) H:=by
 refine ⟨λ h=>?_,λ q=>⟨_,_,_,_,rfl,.old (.int i),.inl ⟨_,rfl,Qg⟩,q⟩⟩;obtain ⟨x,c,t,b,e,ty,k,q⟩:=h;cases e;rcases k with ⟨u,hu,k⟩|⟨_,_,_,e,_⟩
 ·cases hu;cases ty with|old ty=>cases ty;rw [Qg] at k;cases k;exact q
 ·cases e
def rd_isiB {i:Bool}:zeF K [.bl i,.ty "bool"] H Q ↔ Q (.bl true) H:=by
 refine ⟨λ h=>?_,λ q=>⟨_,_,_,_,rfl,.old (.bl i),.inl ⟨_,rfl,Zs⟩,q⟩⟩;obtain ⟨x,c,t,b,e,ty,k,q⟩:=h;cases e;rcases k with ⟨u,hu,k⟩|⟨_,_,_,e,_⟩
 ·cases hu;cases ty with|old ty=>cases ty;rw [Zs] at k;cases k;exact q
 ·cases e
def rd_isiS {i:Str}:zeF K [.str i,.ty "str"] H Q ↔ Q (.bl true) H:=by
 refine ⟨λ h=>?_,λ q=>⟨_,_,_,_,rfl,.old (.str i),.inl ⟨_,rfl,Q2⟩,q⟩⟩;obtain ⟨x,c,t,b,e,ty,k,q⟩:=h;cases e;rcases k with ⟨u,hu,k⟩|⟨_,_,_,e,_⟩
 ·cases hu;cases ty with|old ty=>cases ty;rw [Q2] at k;cases k;exact q
 ·cases e
def Vu {a b:Addr} {xs ys:Ap} (h1:SqL K H a xs) (h2:SqL K H b ys) (hl:xs.length + ys.length<=sizeLine) (q:∀ p,H p=none->Q (.ref p) (upd H p (.lst (xs ++ ys)))):zaA K (.ref a) (.ref b) H Q :=
 show zeG K _ _ H Q from ⟨a,b,xs,ys,rfl,rfl,h1,h2,hl,q⟩
def Za {n:Nat} (h:n<=1000):n<=sizeLine:=bn (zk h)
def qS {a:Addr} {DN:St->Hp->Prop} {B:(St->Hp->Prop)->V->St->Hp->Prop} (Pv:Nat->St->Hp->Prop) (h0:Pv 0 σ H) (hl:∀ i σ H,i<=xs.length->Pv i σ H->SqL K H a xs)
  (hs:∀ i x σ H,xs[i]?=some x->Pv i σ H->B (Pv (i + 1)) x σ H) (hd:∀ σ H,Pv xs.length σ H->DN σ H) :
  ∃ W:Nat->Nat->St->Hp->Prop,(∃ m,W 0 m σ H)/\∀ i m σ H,W i m σ H ->
   ((Itl K a).stop i H/\DN σ H)\/((Itl K a).go i H/\∃ N:St->Hp->Prop,(∀ σ' H',N σ' H'->∃ m',m' < m/\W (i + 1) m' σ' H')/\∀ x H',(Itl K a).yld i H x H'->B N x σ H'):=by
 refine ⟨λ i m σ H=>m=xs.length - i/\i<=xs.length/\Pv i σ H,⟨xs.length,by simp,bQ _,h0⟩,?_⟩;rintro i m σ H ⟨rfl,hi,p⟩;have q:=hl i σ H hi p;by_cases hlt:i < xs.length
 ·refine .inr ⟨⟨xs,xs[i],q,by simp [hlt]⟩,Pv (i + 1),λ σ' H' p'=>⟨xs.length - (i + 1),by omega,rfl,hlt,p'⟩,λ x H' y=>?_⟩;obtain ⟨e,y⟩:=y;subst e;exact hs i x σ _ (y xs q) p
 ·have e:i=xs.length:=by omega
  subst e;exact .inl ⟨⟨xs,q,aq _⟩,hd σ H p⟩
def ziy {a:Addr} {DN:St->Hp->Prop} {B:(St->Hp->Prop)->V->St->Hp->Prop} (Pv:Nat->St->Hp->Prop) (h0:Pv 0 σ H) (hl:∀ i σ H,i<=xs.length->Pv i σ H->SqT K H a xs)
  (hs:∀ i x σ H,xs[i]?=some x->Pv i σ H->B (Pv (i + 1)) x σ H) (hd:∀ σ H,Pv xs.length σ H->DN σ H) :
  ∃ W:Nat->Nat->St->Hp->Prop,(∃ m,W 0 m σ H)/\∀ i m σ H,W i m σ H ->
   ((Itt K a).stop i H/\DN σ H)\/((Itt K a).go i H/\∃ N:St->Hp->Prop,(∀ σ' H',N σ' H'->∃ m',m' < m/\W (i + 1) m' σ' H')/\∀ x H',(Itt K a).yld i H x H'->B N x σ H'):=by
 refine ⟨λ i m σ H=>m=xs.length - i/\i<=xs.length/\Pv i σ H,⟨xs.length,by simp,bQ _,h0⟩,?_⟩;rintro i m σ H ⟨rfl,hi,p⟩;have q:=hl i σ H hi p;by_cases hlt:i < xs.length
 ·refine .inr ⟨⟨xs,xs[i],q,by simp [hlt]⟩,Pv (i + 1),λ σ' H' p'=>⟨xs.length - (i + 1),by omega,rfl,hlt,p'⟩,λ x H' y=>?_⟩;obtain ⟨e,y⟩:=y;subst e;exact hs i x σ _ (y xs q) p
 ·have e:i=xs.length:=by omega
  subst e;exact .inl ⟨⟨xs,q,aq _⟩,hd σ H p⟩
def wz {lo:Int} {n:Nat} {DN:St->Hp->Prop} {B:(St->Hp->Prop)->V->St->Hp->Prop} (Pv:Nat->St->Hp->Prop) (h0:Pv 0 σ H)
  (hs:∀ i σ H,i < n->Pv i σ H->B (Pv (i + 1)) (.int (lo + i)) σ H) (hd:∀ σ H,Pv n σ H->DN σ H) :
  ∃ W:Nat->Nat->St->Hp->Prop,(∃ m,W 0 m σ H)/\∀ i m σ H,W i m σ H ->
   ((Itr lo n).stop i H/\DN σ H)\/((Itr lo n).go i H/\∃ N:St->Hp->Prop,(∀ σ' H',N σ' H'->∃ m',m' < m/\W (i + 1) m' σ' H')/\∀ x H',(Itr lo n).yld i H x H'->B N x σ H'):=by
 refine ⟨λ i m σ H=>m=n - i/\i<=n/\Pv i σ H,⟨n,by simp,bQ _,h0⟩,?_⟩;rintro i m σ H ⟨rfl,hi,p⟩;by_cases hlt:i < n
 ·refine .inr ⟨hlt,Pv (i + 1),λ σ' H' p'=>⟨n - (i + 1),by omega,rfl,hlt,p'⟩,λ x H' y=>?_⟩;obtain ⟨e,y⟩:=y;subst e y;exact hs i σ _ hlt p
 ·have e:i=n:=by omega
  subst e;exact .inl ⟨aq _,hd σ H p⟩
def ZM {a:Addr} {lo hi:A9} (h:SqL K H a xs) (q:∀ p,H p=none->Q (.ref p) (upd H p (.lst (Zq xs lo hi)))):zhf K (.ref a) lo hi H Q:=⟨a,xs,rfl,h,q⟩
def upd_keep {a b:Addr} {o u:HO} (h:H b=some u) (ha:H a=none):upd H a o b=some u:=by rw [nz (nA h ha)];exact h
def nB:=@upd_keep
def zf {a:Addr} {o:HO} (ha:H a=none):Same H (upd H a o):=λ _ _ h=>nB h ha
def rd_ixT {a:Addr} (h:H a=some (.tup xs)) (e:atI xs i=some v) (q:Q v H):rIx K (.ref a) (.int i) H Q:=.inr (.inl ⟨a,xs,i,v,rfl,rfl,SqT.of h,e,q⟩)
def nC:=@rd_ixT
def zq {a:Addr} (h:SqL K H a xs) (e:atI xs i=some v) (q:Q v H):rIx K (.ref a) (.int i) H Q:=.inl ⟨a,xs,i,v,rfl,rfl,h,e,q⟩
def zih {N0:St->Hp->Prop} {B:(St->Hp->Prop)->Prop} (h:B N0):∃ N:St->Hp->Prop,(∀ σ' H',N σ' H'->N0 σ' H')/\B N:=⟨N0,λ _ _ h=>h,h⟩
end
end L2
set_option hygiene false
local macro_rules | `(tactic| walk_at "v")=>`(tactic| exact ⟨rfl,by first|exact Or.inl rfl|exact Or.inr (Or.inl rfl)|exact Or.inr (Or.inr rfl),by decide,by decide⟩)
local macro_rules | `(tactic| walk_at "g") => do
 let a ← ("L2.start L2.tDNewT L2.sDPut L2.tDIn L2.tDGet L2.tSIn L2.tSGet L2.sSPut L2.tSNew L2.tB L2.rd_mc L2.rd_mn bz cR List.cons_append List.nil_append L2.tSeq L2.tAsg L2.gName L2.tC L2.tOp L2.tUn L2.tTest L2.tIfS L2.tRet L2.tNext L2.tDrop L2.tNot L2.tAnd L2.tOr L2.tCons L2.tNil L2.tTup L2.tLst L2.tBi L2.tVar ↓L2.rd_vq L2.rd_vq ↓L2.rd_iq L2.rd_iq ↓L2.rd_bq L2.rd_bq ↓L2.rd_nq L2.rd_nq ↓L2.rd_lq L2.rd_lq ↓L2.rd_itT L2.rd_itT ↓L2.rd_itF L2.rd_itF ↓L2.rd_is0 L2.rd_is0 ↓L2.rd_is1 L2.rd_is1 ↓L2.rd_is2 L2.rd_is2 ↓L2.rd_in0 L2.rd_in0 ↓L2.rd_in1 L2.rd_in1 ↓L2.rd_in2 L2.rd_in2 L2.rI L2.rI0 L2.rU L2.rT L2.ipI L2.tTru L2.rd_trB L2.rd_trI L2.rd_trR L2.rd_trS L2.tAug L2.rd_addI L2.rd_addS L2.rd_eqI L2.rd_neI L2.rd_eqS L2.rd_eqB L2.rd_eTI L2.rd_eTS L2.rd_eTB L2.rd_eTR L2.rd_nTI L2.rd_nTR L2.rd_nTS L2.rd_nTB L2.rd_fvI L2.rd_strS L2.rd_sz0 L2.rd_sz1 L2.rd_sz2 L2.rd_sz3 L2.rd_sz4 L2.rd_sz5 L2.rd_sz6 L2.rd_sz7 L2.gSub L2.rd_sz8 L2.rd_sz9 L2.cx_K L2.cx_mg L2.cx_prog L2.cx_w L2.cx_base L2.gTup L2.gCons L2.gNil L2.tCl L2.tGl L2.tChain L2.tRaise L2.sFld L2.tFld L2.tMk L2.tMth L2.tBM L2.tSl L2.tNoPart L2.tPart L2.tClN L2.tMkN L2.tMthN L2.tBase L2.tYes L2.tRg1 L2.tIf L2.cxC_K L2.cxC_mg L2.cxC_prog L2.cxC_w L2.cxC_base eq_self reduceCtorEq decide_false aS eC List.getElem?_cons_zero List.getElem?_cons_succ List.set_cons_zero List.set_cons_succ List.replicate Nat.reduceSub Nat.reduceAdd true_and and_true L2.rd_cpow Int.reduceToNat Int.reducePow Int.reduceLT Int.reduceLE Int.reduceNeg L2.fdiv_pos L2.rd_isiI L2.rd_isiIB L2.rd_isiB L2.rd_isiS ff Bool.not_false cu reduceIte decide_true da Bool.true_eq_false Bool.not_eq_true' decide_eq_false_iff_not L2.rd_c0 L2.rd_c1 L2.rd_c2 L2.rd_c3 L2.rd_c4 L2.rd_c5 L2.rd_c6 Int.reduceEq not_true_eq_false not_false_eq_true Int.reduceMul Int.reduceAdd Int.reduceSub".splitOn " ").toArray.mapM fun s=>if s.front == '↓' then `(Lean.Parser.Tactic.simpLemma| ↓$(Lean.mkIdent (s.drop 1).toString.toName):term) else `(Lean.Parser.Tactic.simpLemma| $(Lean.mkIdent s.toName):term)
 `(tactic| (simp only [$a,*]))
local macro_rules | `(tactic| walk_at "r")=>`(tactic| try walk_at "g")
local macro_rules | `(tactic| walk_at "n")=>`(tactic| (refine L2.rd_ixT (by assumption) rfl ?_;try walk_at "g"))
local macro_rules | `(tactic| walk_at "l")=>`(tactic| first|assumption|exact L2.mul_okR (by decide) (by decide)|exact L2.mul_okL (by decide) (by decide)|exact L2.mul_okR (by omega) (by omega)|exact L2.mul_okL (by omega) (by omega)|exact L2.fd_ok (by decide) (by decide +kernel)|decide|omega|exact L2.fd_small (by omega) (by omega))
local macro_rules | `(tactic| walk_at "f")=>`(tactic| repeat (refine And.intro (by walk_at "l") ?_))
local macro_rules | `(tactic| walk_at "d")=>`(tactic| (walk_at "a";(try simp only [L2.tFor,L2.iSeq,L2.iRng1,L2.iRng3,L2.iEnum,L2.iZip]);try walk_at "g"))
local macro_rules | `(tactic| walk_at "e")=>`(tactic| (walk_at "a";(try simp only [L2.tLc,L2.iSeq,L2.stC,L2.iRng1,L2.iRng3,L2.iEnum,L2.iZip]);try walk_at "g"))
local macro_rules | `(tactic| walk_at "a")=>`(tactic| repeat (first|walk_at "g" | refine And.intro (by assumption) ?_|refine L2.nxt λ Nq_ hNq_=>?_|refine L2.useN (by assumption) ?_))
local macro_rules | `(tactic| walk_at "m")=>`(tactic| first|assumption|exact aW (by assumption)|exact L2.ne_of_none (by assumption) (by assumption)|exact aW (L2.ne_of_none (by assumption) (by assumption)))
local macro_rules | `(tactic| walk_at "h")=>`(tactic| first|assumption|exact L2.upd_same|(refine L2.upd_keep ?_ (by assumption);walk_at "h")|(rw [L2.upd_ne (by walk_at "m")];walk_at "h"))
set_option hygiene false
local macro_rules | `(tactic| walk_at "i")=>`(tactic| (intro vs H Q E h;first|(cases h;subst_vars;rfl)|repeat (first|(obtain ⟨rfl,_⟩:=h;rfl)|obtain ⟨_,h⟩:=h)))
local macro_rules | `(tactic| walk_at "j")=>`(tactic| intro cdv A outer s H vs Q EX hr h)
local macro_rules | `(tactic| walk_at "k")=>`(tactic| intro cdv A outer s H vs Q E hr h)
seal L2.PE L2.PT L2.PA L2.PS L2.PSs L2.PC L2.PG L2.PGs L2.PI L2.PO L2.PK
namespace K34
open PySem L2 Mine
variable {H:Hp} {p:A5} {bs:A1} {v:V} {i k j:Nat} {vs xs:Ap} {b x C l:Addr} {n L:Int} {K:A0} {fs:Ar} {o:HO} {ns outs:A6} {ps:A8} {wd:Wd}
noncomputable def top (i:Nat):Stmt:=PySem.Challenge.pw_beltshares_k34_whole_shares_for_ever.main.body.getD i (.Pass ⟨0,0,0,0⟩)
local macro_rules | `(tactic| walk_at "c")=>`(tactic| exact ⟨rfl,rfl,rfl,by decide +kernel,rfl,by decide +kernel,by decide +kernel⟩)
noncomputable abbrev Z2:Stmt:=top 9
def zdo:FnScope ["one","other","part","rest","left"] ["one","other"] (ze Z2):=by walk_at "c"
noncomputable abbrev Jt:Stmt:=top 10
def zeA:FnScope ["top","bottom","part"] ["top","bottom"] (ze Jt):=by walk_at "c"
noncomputable abbrev QC:Stmt:=top 11
def zbB:FnScope ["paces","number","pace"] ["paces"] (ze QC):=by walk_at "c"
noncomputable abbrev jk:Stmt:=zM (top 13) 0
def X3:FnScope ["self","turn","cells","sides","gone"] ["self","turn","cells","sides","gone"] (ze jk):=by walk_at "c"
noncomputable abbrev QD:Stmt:=top 14
def zbC:FnScope ["work","ware","kinds"] ["work","ware"] (ze QD):=by walk_at "c"
noncomputable abbrev vG:Stmt:=top 15
def Vk:FnScope ["knot"] ["knot"] (ze vG):=by walk_at "c"
noncomputable abbrev jp:Stmt:=top 16
def JS:FnScope ["work","cells","sides"] ["work"] (ze jp):=by walk_at "c"
noncomputable abbrev xD:Stmt:=top 17
def Q9:FnScope ["state"] ["state"] (ze xD):=by walk_at "c"
noncomputable abbrev wM:Stmt:=top 19
def zan:FnScope ["work","cells"] ["work","cells"] (ze wM):=by walk_at "c"
noncomputable abbrev wO:Stmt:=top 20
def XY:FnScope ["work","state","number"] ["work","state","number"] (ze wO):=by walk_at "c"
noncomputable abbrev xB:Stmt:=top 21
def zak:FnScope ["work","state","beat_place","kinds","places"] ["work","state"] (ze xB):=by walk_at "c"
noncomputable abbrev xV:Stmt:=zM (top 25) 0
def Vq:FnScope ["self","room","pace"] ["self","room","pace"] (ze xV):=by walk_at "c"
noncomputable abbrev wR:Stmt:=top 30
def X1:FnScope ["pace","least"] ["pace","least"] (ze wR):=by walk_at "c"
noncomputable abbrev wS:Stmt:=top 31
def X2:FnScope ["kind"] ["kind"] (ze wS):=by walk_at "c"
noncomputable abbrev wP:Stmt:=top 32
def XZ:FnScope ["belts"] ["belts"] (ze wP):=by walk_at "c"
noncomputable abbrev wj:Stmt:=top 33
def JR:FnScope ["wanted","side","step","place"] ["wanted","side"] (ze wj):=by walk_at "c"
noncomputable abbrev jM:Stmt:=top 34
def ZZ:FnScope ["head","free","side"] ["head","free","side"] (ze jM):=by walk_at "c"
noncomputable abbrev jb:Stmt:=zM (top 35) 0
def Vp:FnScope ["self","ins","outs"] ["self","ins","outs"] (ze jb):=by walk_at "c"
noncomputable abbrev jT:Stmt:=zM (top 36) 0
def JU:FnScope ["self","out","pace","kinds","kind"] ["self","out","pace","kinds"] (ze jT):=by walk_at "c"
noncomputable abbrev xf:Stmt:=zM (top 36) 1
def Qx:FnScope ["self","heads","free","turn","side"] ["self","heads","free","turn","side"] (ze xf):=by walk_at "c"
noncomputable abbrev j9:Stmt:=zM (top 36) 2
def Qw:FnScope ["self"] ["self"] (ze j9):=by walk_at "c"
noncomputable abbrev xt:Stmt:=zM (top 37) 0
def X5:FnScope ["self","into","pace"] ["self","into","pace"] (ze xt):=by walk_at "c"
noncomputable abbrev xI:Stmt:=zM (top 37) 1
def Jf:FnScope ["self","heads","free","turn","side"] ["self","heads","free","turn","side"] (ze xI):=by walk_at "c"
noncomputable abbrev xH:Stmt:=zM (top 37) 2
def Je:FnScope ["self"] ["self"] (ze xH):=by walk_at "c"
noncomputable abbrev jU:Stmt:=zM (top 38) 0
def JV:FnScope ["self","into","outs"] ["self","into","outs"] (ze jU):=by walk_at "c"
noncomputable abbrev xk:Stmt:=zM (top 38) 1
def Qz:FnScope ["self","heads","free","turn","side","place"] ["self","heads","free","turn","side"] (ze xk):=by walk_at "c"
noncomputable abbrev xh:Stmt:=zM (top 38) 2
def Qy:FnScope ["self"] ["self"] (ze xh):=by walk_at "c"
noncomputable abbrev qO:Stmt:=zM (top 39) 0
def Zn:FnScope ["self","into","outs"] ["self","into","outs"] (ze qO):=by walk_at "c"
noncomputable abbrev jd:Stmt:=zM (top 39) 1
def vx:FnScope ["self","heads","free","turn","side","place"] ["self","heads","free","turn","side"] (ze jd):=by walk_at "c"
noncomputable abbrev jc:Stmt:=zM (top 39) 2
def vv:FnScope ["self"] ["self"] (ze jc):=by walk_at "c"
noncomputable abbrev xr:Stmt:=zM (top 40) 0
def X4:FnScope ["self","into","outs","kind"] ["self","into","outs","kind"] (ze xr):=by walk_at "c"
noncomputable abbrev xF:Stmt:=zM (top 40) 1
def Jc:FnScope ["self","heads","free","turn","side","place"] ["self","heads","free","turn","side"] (ze xF):=by walk_at "c"
noncomputable abbrev jD:Stmt:=zM (top 40) 2
def ZF:FnScope ["self","kind"] ["self","kind"] (ze jD):=by walk_at "c"
noncomputable abbrev xE:Stmt:=zM (top 40) 3
def Jb:FnScope ["self"] ["self"] (ze xE):=by walk_at "c"
noncomputable abbrev jV:Stmt:=zM (top 41) 0
def JW:FnScope ["self","ins","out"] ["self","ins","out"] (ze jV):=by walk_at "c"
noncomputable abbrev jr:Stmt:=zM (top 41) 1
def QB:FnScope ["self","heads","free","turn","side","place"] ["self","heads","free","turn","side"] (ze jr):=by walk_at "c"
noncomputable abbrev xl:Stmt:=zM (top 41) 2
def QA:FnScope ["self"] ["self"] (ze xl):=by walk_at "c"
noncomputable abbrev xC:Stmt:=top 43
def zao:FnScope ["work","state","knot","ends"] ["work","state","knot"] (ze xC):=by walk_at "c"
noncomputable abbrev wJ:Stmt:=top 44
def XV:FnScope ["state","number","from_belt","ware"] ["state","number","from_belt"] (ze wJ):=by walk_at "c"
noncomputable abbrev QE:Stmt:=top 45
def zbD:FnScope ["belts","place"] ["belts","place"] (ze QE):=by walk_at "c"
noncomputable abbrev j7:Stmt:=top 46
def Qu:FnScope ["knot","chosen"] ["knot","chosen"] (ze j7):=by walk_at "c"
noncomputable abbrev zau:Stmt:=top 47
def zhd:FnScope ["work","state","number","knot","free","chosen","from_belt","to_belt","ware"] ["work","state","number"] (ze zau):=by walk_at "c"
noncomputable abbrev QF:Stmt:=top 48
def zbE:FnScope ["work","state","moves","number","move"] ["work","state"] (ze QF):=by walk_at "c"
noncomputable abbrev vH:Stmt:=top 49
def Vl:FnScope ["cells","place"] ["cells"] (ze vH):=by walk_at "c"
noncomputable abbrev xS:Stmt:=top 50
def Vi:FnScope ["work","state","moves","number","belt"] ["work","state"] (ze xS):=by walk_at "c"
noncomputable abbrev ZI:Stmt:=top 51
def zam:FnScope ["work","state","after"] ["work","state"] (ze ZI):=by walk_at "c"
noncomputable abbrev wK:Stmt:=top 53
def XW:FnScope ["work","limit","state","state_by_shape","turn","shape"] ["work","limit"] (ze wK):=by walk_at "c"
noncomputable abbrev jt:Stmt:=top 54
def zal:FnScope ["work","limit","ends"] ["work","limit"] (ze jt):=by walk_at "c"
noncomputable abbrev xT:Stmt:=top 55
def Vm:FnScope ["before","after","growth","old","new"] ["before","after"] (ze xT):=by walk_at "c"
noncomputable abbrev qN:Stmt:=top 57
def Vh:FnScope ["work","limit","ends","length","shares","counts"] ["work","limit"] (ze qN):=by walk_at "c"
noncomputable abbrev wQ:Stmt:=top 61
def X0:FnScope ["belts","knots"] ["belts","knots"] (ze wQ):=by walk_at "c"
noncomputable abbrev jB:Stmt:=top 62
def ZE:FnScope ["named","size"] ["named","size"] (ze jB):=by walk_at "c"
noncomputable abbrev jy:Stmt:=zM (top 63) 0
def Vn:FnScope ["self","belts","knots","fed","taken","knot"] ["self","belts","knots"] (ze jy):=by walk_at "c"
noncomputable abbrev jS:Stmt:=zM (top 63) 3
def JT:FnScope ["self"] ["self"] (ze jS):=by walk_at "c"
noncomputable abbrev jC:Stmt:=zM (top 63) 4
def Ja:FnScope ["self"] ["self"] (ze jC):=by walk_at "c"
noncomputable abbrev xU:Stmt:=zM (top 63) 5
def Vo:FnScope ["self","paces","number","pace"] ["self"] (ze xU):=by walk_at "c"
noncomputable abbrev JX:Stmt:=top 65
def zdn:FnScope ["work","turns","state","turn"] ["work","turns"] (ze JX):=by walk_at "c"
noncomputable abbrev j8:Stmt:=top 67
def Qv:FnScope ["state","found","belt","cells","place","ware"] ["state"] (ze j8):=by walk_at "c"
noncomputable abbrev vF:Stmt:=top 68
def Vj:FnScope ["ware","lay","before"] ["ware","lay","before"] (ze vF):=by walk_at "c"
noncomputable abbrev xq:Stmt:=top 69
def XX:FnScope ["before","after","lay","origins","cells"] ["before","after"] (ze xq):=by walk_at "c"
noncomputable abbrev wT:Stmt:=zM (top 70) 0
def zap:FnScope ["self","before","after"] ["self","before","after"] (ze wT):=by walk_at "c"
noncomputable abbrev xG:Stmt:=zM (top 70) 1
def Jd:FnScope ["self","origin","rounds","source","given"] ["self","origin","rounds"] (ze xG):=by walk_at "c"
noncomputable abbrev jN:Stmt:=zM (top 70) 2
def Z0:FnScope ["self","first","rounds","cell","left","origin"] ["self","first","rounds"] (ze jN):=by walk_at "c"
noncomputable abbrev qV:Stmt:=zM (top 70) 3
def ZH:FnScope ["self","rounds","cells","belt","old"] ["self","rounds"] (ze qV):=by walk_at "c"
noncomputable abbrev jm:Stmt:=zM (top 70) 4
def Z1:FnScope ["self","rounds","gone","old","more"] ["self","rounds"] (ze jm):=by walk_at "c"
noncomputable abbrev jE:Stmt:=zM (top 70) 5
def ZG:FnScope ["self","rounds","turn"] ["self","rounds"] (ze jE):=by walk_at "c"
noncomputable abbrev wL:Stmt:=top 71
def zeB:FnScope ["work","turns","limit","ends","lap","begin","state","turn"] ["work","turns","limit"] (ze wL):=by walk_at "c"
noncomputable abbrev zbJ:Stmt:=top 73
def zfV:FnScope ["_law_script","_law_k"] ["_law_script","_law_k"] (ze zbJ):=by walk_at "c"
noncomputable abbrev ZJ:Stmt:=top 74
def zaq:FnScope ["_law_cell","_law_factor"] ["_law_cell","_law_factor"] (ze ZJ):=by walk_at "c"
noncomputable abbrev J3:Stmt:=top 76
def zdt:FnScope ["_law_belts","_law_number","_law_span","_law_room"] ["_law_belts","_law_number","_law_span"] (ze J3):=by walk_at "c"
noncomputable abbrev wU:Stmt:=top 77
def zar:FnScope ["_law_out","_law_cell","_law_number","_law_span","_law_many","_law_kinds"] ["_law_out","_law_cell","_law_number","_law_span"] (ze wU):=by walk_at "c"
noncomputable abbrev QI:Stmt:=top 78
def zbH:FnScope ["_law_into","_law_number","_law_span"] ["_law_into","_law_number","_law_span"] (ze QI):=by walk_at "c"
noncomputable abbrev JZ:Stmt:=top 79
def zdq:FnScope ["_law_knots","_law_cell","_law_number","_law_known","_law_knot"] ["_law_knots","_law_cell","_law_number"] (ze JZ):=by walk_at "c"
noncomputable abbrev ZL:Stmt:=top 80
def zat:FnScope ["_law_belts","_law_ends","_law_loops","_law_into","_law_cell","_law_span","_law_number","_law_ins","_law_k"] ["_law_belts","_law_ends","_law_loops","_law_into","_law_cell","_law_span"] (ze ZL):=by walk_at "c"
noncomputable abbrev ZK:Stmt:=top 81
def zas:FnScope ["_law_into","_law_outs","_law_kind_here","_law_what"] ["_law_into","_law_outs","_law_kind_here","_law_what"] (ze ZK):=by walk_at "c"
noncomputable abbrev J0:Stmt:=top 82
def zdr:FnScope ["_law_belts","_law_knots","_law_ends","_law_loops","_law_cell","_law_span","_law_number","_law_what","_law_into","_law_outs","_law_many","_law_k","_law_factor"] ["_law_belts","_law_knots","_law_ends","_law_loops","_law_cell","_law_span"] (ze J0):=by walk_at "c"
noncomputable abbrev QJ:Stmt:=top 83
def zbI:FnScope ["_law_belts","_law_knots","_law_ends","_law_loops","_law_cell","_law_span","_law_k","_law_loop","_law_number","_law_into","_law_outs","_law_end"] ["_law_belts","_law_knots","_law_ends","_law_loops","_law_cell","_law_span"] (ze QJ):=by walk_at "c"
noncomputable abbrev Z3:Stmt:=top 84
def zdp:FnScope ["_law_script","_law_first","_law_number","_law_span","_law_many","_law_ring","_law_counts","_law_kinds","_law_lanes","_law_belts","_law_knots","_law_ends","_law_loops","_law_cell","_law_cut"] ["_law_script"] (ze Z3):=by walk_at "c"
noncomputable abbrev QH:Stmt:=top 85
def zbG:FnScope ["_law_script","_law_work_here","_law_number"] ["_law_script","_law_work_here"] (ze QH):=by walk_at "c"
noncomputable abbrev QG:Stmt:=top 86
def zbF:FnScope ["_law_work_here","_law_limit_here","_law_told"] ["_law_work_here","_law_limit_here"] (ze QG):=by walk_at "c"
noncomputable abbrev J1:Stmt:=top 87
def zds:FnScope ["_law_script","_law_bound","_law_number","_law_cell"] ["_law_script","_law_bound"] (ze J1):=by walk_at "c"
noncomputable abbrev JY:Stmt:=top 88
def zhc:FnScope ["_law_script","_law_work_here","_law_limit_here","_law_found","_law_number","_law_turn","_law_turns","_law_more","_law_before","_law_after","_law_later","_law_shares","_law_k","_law_knot","_law_b","_law_share","_law_grown","_law_rest"] ["_law_script"] (ze JY):=by walk_at "c"
local macro_rules | `(tactic| walk_at "T")=>`(tactic| (have kx:=T.kx;have mB:=T.mB;have gJ:=T.gJ;have mq:=T.mq;have lX:=T.lX;have ke:=T.ke;have iD:=T.iD;have i9:=T.i9;have mP:=T.mP;have lJ:=T.lJ;have ky:=T.ky;have mQ:=T.mQ))
structure Ad where
 b:Addr
 c:Addr
 d:Addr
 e:Addr
 f:Addr
 g:Addr
 h:Addr
 i:Addr
 j:Addr
 k:Addr
 l:Addr
 m:Addr
 n:Addr
 o:Addr
 p:Addr
 q:Addr
 r:Addr
abbrev KOy (K:A0) (c d:Addr) (b:Bool):Prop:=kitOne K (.ref c) (.ref d)=some b
structure Txt (K:A0) (mg:A4) (a:Ad):Prop where
 mr:FA K mg "common" Z2 ["one","other"]
 mG:FA K mg "ratio" Jt ["top","bottom"]
 lZ:FA K mg "lasting" QC ["paces"]
 l5:FA K mg "kind_of" QD ["work","ware"]
 ly:FA K mg "no_counts" vG ["knot"]
 kA:FA K mg "empty_state" jp ["work"]
 kb:FA K mg "copied_state" xD ["state"]
 lM:FA K mg "kinds_in" wM ["work","cells"]
 kK:FA K mg "kind_place" wO ["work","state","number"]
 lO:FA K mg "shape_of" xB ["work","state"]
 kM:FA K mg "check_pace" wR ["pace","least"]
 kN:FA K mg "check_kind" wS ["kind"]
 kO:FA K mg "check_ways" wP ["belts"]
 kB:FA K mg "first_place" wj ["wanted","side"]
 iC:FA K mg "place_for_ware" jM ["head","free","side"]
 lP:FA K mg "heads_of" xC ["work","state","knot"]
 kP:FA K mg "taken_ware" wJ ["state","number","from_belt"]
 l7:FA K mg "belt_at" QE ["belts","place"]
 iO:FA K mg "counted_place" j7 ["knot","chosen"]
 mU:FA K mg "act" zau ["work","state","number"]
 l8:FA K mg "act_all" QF ["work","state"]
 lz:FA K mg "move_belt" vH ["cells"]
 lA:FA K mg "pass_turn" xS ["work","state"]
 lQ:FA K mg "one_turn" ZI ["work","state"]
 kR:FA K mg "round_ends" wK ["work","limit"]
 ku:FD K mg "round_of" jt ["work","limit"] [.int 200]
 lB:FA K mg "growth_of" xT ["before","after"]
 lC:FD K mg "shares_of" qN ["work","limit"] [.int 200]
 kS:FA K mg "check_size" wQ ["belts","knots"]
 iy:FA K mg "check_each_once" jB ["named","size"]
 mt:FA K mg "played" JX ["work","turns"]
 iP:FA K mg "cells_by_ware" j8 ["state"]
 lD:FA K mg "origin_of" vF ["ware","lay","before"]
 kT:FA K mg "origins_of" xq ["before","after"]
 mH:FD K mg "leapt" wL ["work","turns","limit"] [.int 200]
 mR:FA K mg "_law_at" zbJ ["_law_script","_law_k"]
 lS:FA K mg "_law_spread" ZJ ["_law_cell","_law_factor"]
 mv:FA K mg "_law_belt" J3 ["_law_belts","_law_number","_law_span"]
 lT:FA K mg "_law_source" wU ["_law_out","_law_cell","_law_number","_law_span"]
 l9:FA K mg "_law_drain" QI ["_law_into","_law_number","_law_span"]
 mw:FA K mg "_law_kind" JZ ["_law_knots","_law_cell","_law_number"]
 lU:FA K mg "_law_joined" ZL ["_law_belts","_law_ends","_law_loops","_law_into","_law_cell","_law_span"]
 lV:FA K mg "_law_parted" ZK ["_law_into","_law_outs","_law_kind_here","_law_what"]
 mx:FA K mg "_law_grow" J0 ["_law_belts","_law_knots","_law_ends","_law_loops","_law_cell","_law_span"]
 ma:FA K mg "_law_close" QJ ["_law_belts","_law_knots","_law_ends","_law_loops","_law_cell","_law_span"]
 my:FA K mg "_law_work" Z3 ["_law_script"]
 md:FA K mg "_law_limit" QH ["_law_script","_law_work_here"]
 me:FA K mg "_law_round" QG ["_law_work_here","_law_limit_here"]
 mz:FA K mg "_law_fold" J1 ["_law_script","_law_bound"]
 kx:mg "abs"=none
 mB:mg "list"=none
 gJ:mg "len"=none
 mq:mg "max"=none
 lX:mg "tuple"=none
 ke:mg "range"=none
 iD:mg "isinstance"=none
 i9:mg "enumerate"=none
 mP:mg "zip"=none
 lJ:mg "sorted"=none
 ky:mg "reversed"=none
 mQ:mg "min"=none
 iQ:mg "NoRatio"=some (.ref a.c)
 mf:mg "BadBelt"=some (.ref a.d)
 g9:mg "BadKnot"=some (.ref a.e)
 kU:mg "BadWork"=some (.ref a.f)
 kX:mg "TooLong"=some (.ref a.g)
 mJ:mg "State"=some (.ref a.h)
 mS:mg "Belt"=some (.ref a.i)
 kz:mg "Source"=some (.ref a.k)
 lY:mg "Drain"=some (.ref a.l)
 mC:mg "Parter"=some (.ref a.m)
 kC:mg "FirstParter"=some (.ref a.n)
 mK:mg "Sieve"=some (.ref a.o)
 lK:mg "Joiner"=some (.ref a.p)
 mT:mg "Work"=some (.ref a.q)
 mV:mg "Lap"=some (.ref a.r)
 gq:Cls K a.h
 gu:NoAttr K a.h "turn"
 gw:NoAttr K a.h "cells"
 gF:NoAttr K a.h "sides"
 gx:NoAttr K a.h "gone"
 kY:FK K a.h "State.__init__" jk ["self","turn","cells","sides","gone"]
 iu:Cls K a.i
 io:NoAttr K a.i "room"
 g6:NoAttr K a.i "pace"
 lE:FK K a.i "Belt.__init__" xV ["self","room","pace"]
 gD:FB K mg "Knot" "__init__" "Knot.__init__" jb ["self","ins","outs"]
 gG:Cls K a.k
 gQ:NoAttr K a.k "pace"
 gI:NoAttr K a.k "kinds"
 iE:NoAttr K a.k "ins"
 g7:NoAttr K a.k "outs"
 mD:WI K a.k
 kD:FK K a.k "Source.__init__" jT ["self","out","pace","kinds"]
 iR:FM K a.k "choice" "Source.choice" xf ["self","heads","free","turn","side"]
 iS:FM K a.k "copied" "Source.copied" j9 ["self"]
 gS:Cls K a.l
 gO:NoAttr K a.l "pace"
 ip:NoAttr K a.l "ins"
 iF:NoAttr K a.l "outs"
 mL:WI K a.l
 kZ:FK K a.l "Drain.__init__" xt ["self","into","pace"]
 kg:FM K a.l "choice" "Drain.choice" xI ["self","heads","free","turn","side"]
 kh:FM K a.l "copied" "Drain.copied" xH ["self"]
 gU:Cls K a.m
 ia:NoAttr K a.m "ins"
 gR:NoAttr K a.m "outs"
 mE:WI K a.m
 kF:FK K a.m "Parter.__init__" jU ["self","into","outs"]
 iT:FM K a.m "choice" "Parter.choice" xk ["self","heads","free","turn","side"]
 iU:FM K a.m "copied" "Parter.copied" xh ["self"]
 gH:Cls K a.n
 gM:NoAttr K a.n "ins"
 gL:NoAttr K a.n "outs"
 kG:WI K a.n
 iw:FK K a.n "FirstParter.__init__" qO ["self","into","outs"]
 ib:FM K a.n "choice" "FirstParter.choice" jd ["self","heads","free","turn","side"]
 ic:FM K a.n "copied" "FirstParter.copied" jc ["self"]
 gP:Cls K a.o
 ie:NoAttr K a.o "kind"
 ir:NoAttr K a.o "ins"
 ig:NoAttr K a.o "outs"
 mM:WI K a.o
 k8:FK K a.o "Sieve.__init__" xr ["self","into","outs","kind"]
 ki:FM K a.o "choice" "Sieve.choice" xF ["self","heads","free","turn","side"]
 iz:FM K a.o "place_for" "Sieve.place_for" jD ["self","kind"]
 kj:FM K a.o "copied" "Sieve.copied" xE ["self"]
 gW:Cls K a.p
 gX:NoAttr K a.p "ins"
 g8:NoAttr K a.p "outs"
 mF:WI K a.p
 kH:FK K a.p "Joiner.__init__" jV ["self","ins","out"]
 iV:FM K a.p "choice" "Joiner.choice" jr ["self","heads","free","turn","side"]
 iW:FM K a.p "copied" "Joiner.copied" xl ["self"]
 gz:Cls K a.q
 gA:NoAttr K a.q "belts"
 gy:NoAttr K a.q "knots"
 lF:FK K a.q "Work.__init__" jy ["self","belts","knots"]
 kI:FM K a.q "drains" "Work.drains" jS ["self"]
 km:FM K a.q "sources" "Work.sources" jC ["self"]
 lG:FM K a.q "beat" "Work.beat" xU ["self"]
 gC:Cls K a.r
 gE:NoAttr K a.r "before"
 gY:NoAttr K a.r "length"
 ix:NoAttr K a.r "origins"
 ij:NoAttr K a.r "growth"
 lW:FK K a.r "Lap.__init__" wT ["self","before","after"]
 ko:FM K a.r "new_ware" "Lap.new_ware" xG ["self","origin","rounds"]
 iG:FM K a.r "ware_after" "Lap.ware_after" jN ["self","first","rounds"]
 iA:FM K a.r "cells_after" "Lap.cells_after" qV ["self","rounds"]
 iH:FM K a.r "gone_after" "Lap.gone_after" jm ["self","rounds"]
 iB:FM K a.r "state_after" "Lap.state_after" jE ["self","rounds"]
 lH:∃ t,mg "MOST_ROOM"=some (.int 6 t)
 ka:∃ t,mg "MOST_PACE"=some (.int 4 t)
 k9:∃ t,mg "MOST_KINDS"=some (.int 6 t)
 kJ:∃ t,mg "FEWEST_WAYS"=some (.int 2 t)
 lI:∃ t,mg "MOST_WAYS"=some (.int 4 t)
 lh:∃ t,mg "MOST_BELTS"=some (.int 24 t)
 lj:∃ t,mg "MOST_KNOTS"=some (.int 24 t)
 mh:XC K a.c
 mi:XC K a.d
 hJ:XC K a.e
 mj:XC K a.g
 ll:XC K a.f
 ml:subIn K (.ref a.g) (.type "BaseException")=some true
 gZ:kitCls K (.ref a.g) (.ref a.g)=some true
 iI:KOy K a.k a.p false
 iX:KOy K a.l a.p false
 iJ:KOy K a.m a.p false
 hW:KOy K a.n a.p false
 iY:KOy K a.o a.p false
 iK:KOy K a.p a.p true
 iZ:KOy K a.k a.l false
 kq:KOy K a.l a.l true
 i5:KOy K a.m a.l false
 ik:KOy K a.n a.l false
 kr:KOy K a.o a.l false
 i6:KOy K a.p a.l false
 iL:KOy K a.k a.k true
 i7:KOy K a.l a.k false
 iM:KOy K a.m a.k false
 hX:KOy K a.n a.k false
 i8:KOy K a.o a.k false
 iN:KOy K a.p a.k false
section
variable {P:Af} {w:World} {K:A0} {mg:A4} {base:Heap} {a:Ad} {f:Addr} {fd:FuncData}
def at0 {α:Type} {x:α} {xs:List α}:atI (x :: xs) 0=some x:=by
 have:=zz (xs:=x :: xs) (j:=0) rfl;simpa using this
noncomputable def iv (ns:A6):List V:=ns.map V.int
noncomputable def kf (l1 l2:Addr):List (Str × V):=zP "outs" (.ref l2) (zP "ins" (.ref l1) [])
def zhA {l1 l2:Addr}:(kf l1 l2).lookup ("ins":Str)=some (.ref l1):=by
 unfold kf;rw [zA,am (by decide +kernel),zA,ap rfl]
def zgq {l1 l2:Addr}:(kf l1 l2).lookup ("outs":Str)=some (.ref l2):=by
 unfold kf;rw [zA,ap rfl]
def zb4 {l1 l2:Addr}:(kf l1 l2).length < 1000:=by
 unfold kf;have:=x6 "outs" (V.ref l2) (zP "ins" (.ref l1) []);have:=x6 "ins" (V.ref l1) [];simp at *;omega
def ziu {l1 l2:Addr} {m:Str} (h1:m≠"ins") (h2:m≠"outs"):(kf l1 l2).lookup m=none:=by
 unfold kf;rw [zA,am h2,zA,am h1];rfl
def Own (H H':Hp) (y:Addr):Prop:=∀ b o,b≠y->H b=some o->H' b=some o
def Same.own {H H':Hp} {y:Addr} (s:Same H H'):Own H H' y:=λ b o _ h=>s b o h
def Own.trans {H1 H2 H3:Hp} {y:Addr} (s:Own H1 H2 y) (t:Own H2 H3 y):Own H1 H3 y:=λ b o hb h=>t b o hb (s b o hb h)
def js {y:Addr}:Own H (upd H y o) y:=λ b u hb h=>by rw [nz hb];exact h
def Own.of_new {H H':Hp} {y dx:Addr} {o p:HO} (hy:H y=none) (hd:H dx=none) (s:Own (upd (upd H dx o) y p) H' y):Same H H':=λ b u h =>
 s b u (nA h hy) (by rw [nz (nA h hy),nz (nA h hd)];exact h)
def zT {p b:Addr} (h:upd H p o b=none):H b=none:=by
 by_cases e:b=p
 ·subst e;rw [nk] at h;cases h
 ·rw [nz e] at h;exact h
def JL (K:A0):Sp:=λ vs H Q _=>∃ (y C dx i o:Addr) (xs ys:Ap),vs=[.ref y,.ref i,.ref o]/\H y=some (.ins C dx [])/\Cls K C/\NoAttr K C "ins"/\NoAttr K C "outs"/\SqL K H i xs/\SqL K H o ys/\i≠y/\o≠y /\
 ∀ H' l1 l2,Own H H' y->H' y=some (.ins C dx (kf l1 l2))->H' l1=some (.lst xs)->H' l2=some (.lst ys)->H l1=none->H l2=none->Q .non H'
def zcu {H H':Hp} {y l:Addr} (h:SqL K H l xs) (s:Own H H' y) (hl:l≠y):SqL K H' l xs:=by
 rcases h with h|h
 ·refine .inl ?_;rcases h with h|⟨ob,h⟩
  ·exact .inl (s _ _ hl h)
  ·exact .inr ⟨ob,s _ _ hl h⟩
 ·exact .inr h
def VA (T:Txt K mg a) (F:Fun K "__init__" "Knot.__init__" jb f fd):FnOk P w K mg base (CXr P w) 1 f fd ["self","ins","outs"] (JL K):=by
 refine F.okx Vp ?_ ?_
 ·walk_at "i"
 walk_at "k";refine oE7 h λ y C dx i o xs ys m7=>oA6 m7 λ m8 hy hC hN1 hN2 n6=>oA5 n6 λ hi ho hiy hoy k=>?_;clear m7 n6 h;subst m8;walk_at "T";refine ⟨_,(zg (qT (pq 0) (vL Zk we (za (pq 1) zb)) rfl)  (zc (qT (pq 0) (vL Zk we (za (pq 2) zb)) rfl))),?_⟩;walk_at "a";refine iE2 i xs (iA3 rfl (.inl hi) (λ l1 h1=>?_));walk_at "a";have y1:y≠l1:=nA hy h1;refine iE4 y C dx ([]) (iA6 rfl (nB hy h1) hC hN1 (by decide) ?_);walk_at "a";have s1:Own H (upd (upd H l1 (.lst xs)) y (.ins C dx (zP "ins" (.ref l1) []))) y:=(Same.own (zf h1)).trans js;refine iE2 o ys (iA3 rfl (.inl (zcu ho s1 hoy)) (λ l2 h2=>?_));walk_at "a";have y2:y≠l2:=nA nk h2;have l12:l1≠l2:=λ z=>by
  rw [<- z,nz (aW y1),nk] at h2;cases h2
 refine iE4 y C dx _ (iA6 rfl (nB nk h2) hC hN2 (by show 1 < 1000;decide) ?_);refine k _ l1 l2 (s1.trans ((Same.own (zf h2)).trans js)) nk ?_ ?_ h1 ?_
 ·rw [nz (aW y1),nz l12,nz (aW y1),nk]
 ·rw [nz (aW y2),nk]
 ·rw [nz (aW y2),nz (aW l12)] at h2;exact h2
def gD (T:Txt K mg a):BCal P w K mg base "Knot" "__init__" 1 ["self","ins","outs"] [] (JL K):=T.gD.cal (VA T)
def zag (K:A0) (a:Ad):Sp:=λ vs H Q E=>∃ (l:Addr) (xs:Ap),vs=[.ref l]/\SqL K H l xs/\if 2<=xs.length/\xs.length<=4 then Q .non H else E (.ref a.e) none H
def vj (T:Txt K mg a):Cal P w K mg base "check_ways" 1 ["belts"] [] (zag K a):=T.kO.cal λ F=>by
 refine F.okx XZ ?_ ?_
 ·walk_at "i"
 walk_at "k";refine oE2 h λ l xs m7=>oA3 m7 λ m8 hl k=>?_;clear m7 h;subst m8;walk_at "T";refine ⟨_,(zc (zD (xK (jZ xO xO vn (z6 zY zX (za (pq 0) zb)) vn))  (zc (qR ⟨rfl,rfl,rfl⟩ rfl (za ju zb)))  zp)),?_⟩;walk_at "a";obtain ⟨t1,g1⟩:=T.kJ;obtain ⟨t2,g2⟩:=T.lI;have bad:¬ (2<=xs.length/\xs.length<=4)->∃ C,mg "BadKnot"=some (Value.ref C)/\XC K C/\E (Value.ref C) none H:=λ h=>by
  rw [am h] at k;exact ⟨a.e,iA3 T.g9 T.hJ k⟩
 refine iE2 (.int 2) _ (iA3 g1 ⟨_,rfl⟩ ?_);walk_at "a";refine ⟨_,.inl ⟨_,hl,rfl⟩,?_⟩;walk_at "r";refine zJ (λ h1=>?_) (λ h1=>bad (by omega));refine iE2 (.int 4) _ (iA3 g2 ⟨_,rfl⟩ ?_);walk_at "r";refine zJ (λ h2=>?_) (λ h2=>bad (by omega));rw [ap (by omega)] at k;exact k
def zai (a:Ad):Sp:=λ vs H Q E=>∃ p q:Int,vs=[.int p,.int q]/\if q<=p/\p<=4 then Q .non H else E (.ref a.e) none H
def Qn (T:Txt K mg a):Cal P w K mg base "check_pace" 1 ["pace","least"] [] (zai a):=T.kM.cal λ F=>by
 refine F.okx X1 ?_ ?_
 ·walk_at "i"
 walk_at "k";refine oE2 h λ p q m7=>oA2 m7 λ m8 k=>?_;clear m7 h;subst m8;walk_at "T";refine ⟨_,(zc (zD (xK (jZ xO xO (pq 1) (pq 0) vn))  (zc (qR ⟨rfl,rfl,rfl⟩ rfl (za ju zb)))  zp)),?_⟩;walk_at "a";obtain ⟨t1,g1⟩:=T.ka;have bad:¬ (q<=p/\p<=4)->∃ C,mg "BadKnot"=some (Value.ref C)/\XC K C/\E (Value.ref C) none H:=λ h=>by
  rw [am h] at k;exact ⟨a.e,iA3 T.g9 T.hJ k⟩
 refine zJ (λ h1=>?_) (λ h1=>bad (by omega));refine iE2 (.int 4) _ (iA3 g1 ⟨_,rfl⟩ ?_);walk_at "a";refine zJ (λ h2=>?_) (λ h2=>bad (by omega));rw [ap (by omega)] at k;walk_at "a";exact k
noncomputable abbrev jH:Int:=1000000000000000000000000000000
def zaj (a:Ad):Sp:=λ vs H Q E=>∃ n:Int,vs=[.int n]/\if 0<=n/\n < jH then Q .non H else E (.ref a.e) none H
def Qo (T:Txt K mg a):Cal P w K mg base "check_kind" 1 ["kind"] [] (zaj a):=T.kN.cal λ F=>by
 refine F.okx X2 ?_ ?_
 ·walk_at "i"
 walk_at "k";obtain ⟨n,rfl,k⟩:=h;walk_at "T";refine ⟨_,(zc (zD (xK (jZ xO Zr zd (pq 0) Vv))  (zc (qR ⟨rfl,rfl,rfl⟩ rfl (za ju zb)))  zp)),?_⟩;walk_at "a";have bad:¬ (0<=n/\n < jH)->∃ C,mg "BadKnot"=some (Value.ref C)/\XC K C/\E (Value.ref C) none H:=λ h=>by
  rw [am h] at k;exact ⟨a.e,iA3 T.g9 T.hJ k⟩
 refine zJ (λ h1=>?_) (λ h1=>bad (by omega));walk_at "a";refine zJ (λ h2=>?_) (λ h2=>bad (by unfold jH;omega));rw [ap (by unfold jH;omega)] at k;walk_at "a";exact k
noncomputable def VN (bs:Ai) (side:Nat):Nat->Nat->Option Nat
 | 0,_=>none
 | n + 1,k=>if bs.getD ((side + k) % bs.length) false=true then some ((side + k) % bs.length) else VN bs side n (k + 1)
noncomputable def jQ (bs:Ai) (side:Nat):Option Nat:=VN bs side bs.length 0
noncomputable def Zo:Option Nat->V
 | none=>.non
 | some n=>.int n
theorem zcR {bs:Ai} {side:Nat} (h:0 < bs.length):∀ {n k p:Nat},VN bs side n k=some p->p < bs.length
 | 0,_,_,e=>by simp [VN] at e
 | n + 1,k,p,e=>by
  unfold VN at e
  split at e
  ·cases e;exact cW _ h
  ·exact zcR h e
def wB {bs:Ai} {side p:Nat} (e:jQ bs side=some p):p < bs.length:=by
 by_cases h:0 < bs.length
 ·exact zcR h e
 ·unfold jQ at e;rw [show bs.length=0 by omega] at e;simp [VN] at e
def Vc (K:A0):Sp:=λ vs H Q _=>∃ (l:Addr) (bs:Ai) (side:Nat),vs=[.ref l,.int side]/\SqL K H l (bs.map V.bl)/\bs.length<=1000/\Q (Zo (jQ bs side)) H
theorem Zw (T:Txt K mg a):Cal P w K mg base "first_place" 1 ["wanted","side"] [] (Vc K):=T.kB.cal λ F=>by
 refine F.okx JR ?_ ?_
 ·walk_at "i"
 walk_at "k";obtain ⟨l,bs,side,rfl,hl,hb,k⟩:=h;walk_at "T";refine ⟨_,(zg (qo qC rfl (jP (za (z6 zY zX (za (pq 0) zb)) zb)) (qj 2 JR.nd)  (zg (zo 3 JR.nd (zr qu (zr zN (pq 1) (pq 2)) (z6 zY zX (za (pq 0) zb))))  (zc (zD (jY (zn (pq 0) (pq 3)) (λ _=>rfl))  (zc (zl (pq 3)))  zp))))  (zc (zl zG))),?_⟩;walk_at "d";walk_at "a";refine ⟨_,.inl ⟨_,hl,rfl⟩,by omega,by rw [af];omega,?_⟩;refine wz (λ i σ H'=>∃ v2 v3,σ=[some (.ref l),some (.int side),v2,v3]/\H'=H/\Q (Zo (VN bs side (bs.length - i) i)) H) ⟨_,_,rfl,rfl,k⟩ ?_ ?_
 ·rintro i σ H' hi ⟨v2,v3,rfl,rfl,k⟩;have hi:i < bs.length:=by simpa using hi
  walk_at "a";refine ⟨_,.inl ⟨_,hl,rfl⟩,?_⟩;walk_at "r";rw [af];refine And.intro (by omega) ?_;have e:((side:Int) + (0 + (i:Int))) % (bs.length:Int)=(((side + i) % bs.length:Nat):Int):=by push_cast;rw [cU]
  rw [e];have hlt:(side + i) % bs.length < bs.length:=cW _ (by omega);refine zq hl (zz (by rw [aj,ac hlt];rfl)) ?_;walk_at "r";have em:bs.length - i=(bs.length - (i + 1)) + 1:=by omega
  rw [em,VN] at k;have eg:bs.getD ((side + i) % bs.length) false=bs[(side + i) % bs.length]:=by simp [hlt]
  rw [eg] at k;cases hbb:bs[(side + i) % bs.length] with
  | true =>
   rw [hbb,ap rfl] at k;walk_at "r";exact k
  | false =>
   rw [hbb,am (by decide)] at k;walk_at "r"
   first|exact ⟨_,_,rfl,rfl,k⟩|exact ⟨_,_,rfl,k⟩|exact k
 ·rintro σ H' ⟨v2,v3,rfl,rfl,k⟩;walk_at "r";simpa [VN,Zo] using k
def zbu (K:A0):Sp:=λ vs H Q _=>∃ (v:V) (l:Addr) (bs:Ai) (side:Nat),vs=[v,.ref l,.int side]/\SqL K H l (bs.map V.bl)/\bs.length<=1000/\Q (if v=.non then .non else Zo (jQ bs side)) H
def wE (T:Txt K mg a):Cal P w K mg base "place_for_ware" 2 ["head","free","side"] [] (zbu K):=T.iC.cal λ F=>by
 refine F.okx ZZ ?_ ?_
 ·walk_at "i"
 walk_at "k";refine oE4 h λ v l bs side m7=>oA4 m7 λ m8 hl hb k=>?_;clear m7 h;subst m8;walk_at "T";refine ⟨_,(zc (zl (ww (zm jo (pq 0) zG (zt _)) zG (zx ⟨rfl,rfl,rfl⟩ hr (za (pq 1) (za (pq 2) zb)))))),?_⟩;walk_at "a";refine zJ (λ h=>?_) (λ h=>?_)
 ·rw [ap h] at k;walk_at "r";exact k
 ·rw [am h] at k;walk_at "r";exact iE3 _ _ _ ⟨Zw T,⟨l,bs,side,rfl,hl,hb,k⟩⟩
def ji (K:A0) (C CB:Addr):Sp:=λ vs H Q E=>∃ (y dx o:Addr) (into:V) (ys:Ap),vs=[.ref y,into,.ref o]/\H y=some (.ins C dx [])/\SqL K H o ys/\o≠y /\
 if 2<=ys.length/\ys.length<=4 then ∀ H' l1 l2,Own H H' y->H' y=some (.ins C dx (kf l1 l2))->H' l1=some (.lst [into])->H' l2=some (.lst ys)->H l1=none->H l2=none->Q .non H' else E (.ref CB) none H
def Xg (T:Txt K mg a) (F:Fun K "__init__" "Parter.__init__" jU f fd):FnOk P w K mg base (CXr P w) 2 f fd ["self","into","outs"] (ji K a.m a.e):=by
 refine F.okx JV ?_ ?_
 ·walk_at "i"
 walk_at "k";refine oE5 h λ y dx o into ys m7=>oA5 m7 λ m8 hy ho hoy k=>?_;clear m7 h;subst m8;walk_at "T";refine ⟨_,(zg (zu (zx ⟨rfl,rfl,rfl⟩ hr (za (pq 2) zb)))  (zc (zu (Zf ⟨rfl,rfl,rfl⟩ hr (za (pq 0) (za (zI (za (pq 1) zb)) (za (pq 2) zb))))))),?_⟩;walk_at "a";refine iE3 _ _ _ ⟨vj T,⟨o,ys,rfl,ho,zJ (λ hok=>?_) (λ hok=>?_)⟩⟩
 ·rw [ap hok] at k;walk_at "a";refine iE3 _ _ _ ⟨gD T,λ p hp=>(iE7 y a.m dx p o ([into]) ys (iA6 rfl (nB hy hp) T.gU T.ia T.gR (iA5 (SqL.of nk) ((zf hp).seq ho) ((nA hy hp).symm) hoy (λ H' l1 l2 s h1 h2 h3 h4 h5=>?_))))⟩;exact k H' l1 l2 ((Same.own (zf hp)).trans s) h1 h2 h3 (zT h4) (zT h5)
 ·rw [am hok] at k;exact k
def Xu (T:Txt K mg a):KCal P w K mg base "Parter" a.m 2 ["self","into","outs"] [] (ji K a.m a.e):=T.kF.cal T.mC (Xg T)
def Zp (T:Txt K mg a) (F:Fun K "__init__" "FirstParter.__init__" qO f fd):FnOk P w K mg base (CXr P w) 2 f fd ["self","into","outs"] (ji K a.n a.e):=by
 refine F.okx Zn ?_ ?_
 ·walk_at "i"
 walk_at "k";refine oE5 h λ y dx o into ys m7=>oA5 m7 λ m8 hy ho hoy k=>?_;clear m7 h;subst m8;walk_at "T";refine ⟨_,(zg (zu (zx ⟨rfl,rfl,rfl⟩ hr (za (pq 2) zb)))  (zc (zu (Zf ⟨rfl,rfl,rfl⟩ hr (za (pq 0) (za (zI (za (pq 1) zb)) (za (pq 2) zb))))))),?_⟩;walk_at "a";refine iE3 _ _ _ ⟨vj T,⟨o,ys,rfl,ho,zJ (λ hok=>?_) (λ hok=>?_)⟩⟩
 ·rw [ap hok] at k;walk_at "a";refine iE3 _ _ _ ⟨gD T,λ p hp=>(iE7 y a.n dx p o ([into]) ys (iA6 rfl (nB hy hp) T.gH T.gM T.gL (iA5 (SqL.of nk) ((zf hp).seq ho) ((nA hy hp).symm) hoy (λ H' l1 l2 s h1 h2 h3 h4 h5=>?_))))⟩;exact k H' l1 l2 ((Same.own (zf hp)).trans s) h1 h2 h3 (zT h4) (zT h5)
 ·rw [am hok] at k;exact k
def Zt (T:Txt K mg a):KCal P w K mg base "FirstParter" a.n 2 ["self","into","outs"] [] (ji K a.n a.e):=T.iw.cal T.kC (Zp T)
noncomputable def vf (l1 l2:Addr) (n:Int):List (Str × V):=zP "kind" (.int n) (kf l1 l2)
def zfL {l1 l2:Addr}:(vf l1 l2 n).lookup ("kind":Str)=some (.int n):=by
 unfold vf;rw [zA,ap rfl]
def zh7 {l1 l2:Addr} {m:Str} (h1:m≠"ins") (h2:m≠"outs") (h3:m≠"kind"):(vf l1 l2 n).lookup m=none:=by
 unfold vf;rw [zA,am h3];exact ziu h1 h2
def vD (K:A0) (C CB:Addr):Sp:=λ vs H Q E=>∃ (y dx o:Addr) (into:V) (ys:Ap) (n:Int),vs=[.ref y,into,.ref o,.int n]/\H y=some (.ins C dx [])/\SqL K H o ys/\o≠y /\
 if ys.length=2/\0<=n/\n < jH then ∀ H' l1 l2,Own H H' y->H' y=some (.ins C dx (vf l1 l2 n))->H' l1=some (.lst [into])->H' l2=some (.lst ys)->H l1=none->H l2=none->Q .non H' else E (.ref CB) none H
def X7 (T:Txt K mg a) (F:Fun K "__init__" "Sieve.__init__" xr f fd):FnOk P w K mg base (CXr P w) 2 f fd ["self","into","outs","kind"] (vD K a.o a.e):=by
 refine F.okx X4 ?_ ?_
 ·walk_at "i"
 walk_at "k";refine oE6 h λ y dx o into ys n m7=>oA5 m7 λ m8 hy ho hoy k=>?_;clear m7 h;subst m8;walk_at "T";refine ⟨_,(zg (zD (zm (Xe hr.units1) (z6 zY zX (za (pq 2) zb)) zd (zt _))  (zc (qR ⟨rfl,rfl,rfl⟩ rfl (za ju zb)))  zp)  (zg (zu (zx ⟨rfl,rfl,rfl⟩ hr (za (pq 3) zb)))  (zg (zu (Zf ⟨rfl,rfl,rfl⟩ hr (za (pq 0) (za (zI (za (pq 1) zb)) (za (pq 2) zb)))))  (zc (qT (pq 0) (pq 3) rfl))))),?_⟩;walk_at "a";refine ⟨_,.inl ⟨_,ho,rfl⟩,?_⟩;walk_at "a";refine zJ (λ h1=>?_) (λ h1=>?_)
 ·rw [am (by omega)] at k;exact ⟨a.e,iA3 T.g9 T.hJ k⟩
 ·refine iE3 _ _ _ ⟨Qo T,⟨n,rfl,zJ (λ hok=>?_) (λ hok=>?_)⟩⟩
  ·rw [ap ⟨by omega,hok⟩] at k;walk_at "a";refine iE3 _ _ _ ⟨gD T,λ p hp=>(iE7 y a.o dx p o ([into]) ys (iA6 rfl (nB hy hp) T.gP T.ir T.ig (iA5 (SqL.of nk) ((zf hp).seq ho) ((nA hy hp).symm) hoy (λ H' l1 l2 s h1 h2 h3 h4 h5=>?_))))⟩;walk_at "a";refine iE4 y a.o dx _ (iA6 rfl h1 T.gP T.ie zb4 ?_);exact k _ l1 l2 (((Same.own (zf hp)).trans s).trans js) nk (by rw [nz (Z9 h2 h1 (by intro z;cases z))];exact h2) (by rw [nz (Z9 h3 h1 (by intro z;cases z))];exact h3) (zT h4) (zT h5)
  ·rw [am (λ z=>hok z.2)] at k;exact k
def zcJ (T:Txt K mg a):KCal P w K mg base "Sieve" a.o 2 ["self","into","outs","kind"] [] (vD K a.o a.e):=T.k8.cal T.mK (X7 T)
def wH (K:A0) (C CB:Addr):Sp:=λ vs H Q E=>∃ (y dx o:Addr) (out:V) (ys:Ap),vs=[.ref y,.ref o,out]/\H y=some (.ins C dx [])/\SqL K H o ys/\o≠y /\
 if 2<=ys.length/\ys.length<=4 then ∀ H' l1 l2,Own H H' y->H' y=some (.ins C dx (kf l1 l2))->H' l1=some (.lst ys)->H' l2=some (.lst [out])->H l1=none->H l2=none->Q .non H' else E (.ref CB) none H
def Xh (T:Txt K mg a) (F:Fun K "__init__" "Joiner.__init__" jV f fd):FnOk P w K mg base (CXr P w) 2 f fd ["self","ins","out"] (wH K a.p a.e):=by
 refine F.okx JW ?_ ?_
 ·walk_at "i"
 walk_at "k";refine oE5 h λ y dx o out ys m7=>oA5 m7 λ m8 hy ho hoy k=>?_;clear m7 h;subst m8;walk_at "T";refine ⟨_,(zg (zu (zx ⟨rfl,rfl,rfl⟩ hr (za (pq 1) zb)))  (zc (zu (Zf ⟨rfl,rfl,rfl⟩ hr (za (pq 0) (za (pq 1) (za (zI (za (pq 2) zb)) zb))))))),?_⟩;walk_at "a";refine iE3 _ _ _ ⟨vj T,⟨o,ys,rfl,ho,zJ (λ hok=>?_) (λ hok=>?_)⟩⟩
 ·rw [ap hok] at k;walk_at "a";refine iE3 _ _ _ ⟨gD T,λ p hp=>(iE7 y a.p dx o p ys ([out]) (iA6 rfl (nB hy hp) T.gW T.gX T.g8 (iA5 ((zf hp).seq ho) (SqL.of nk) hoy ((nA hy hp).symm) (λ H' l1 l2 s h1 h2 h3 h4 h5=>?_))))⟩;exact k H' l1 l2 ((Same.own (zf hp)).trans s) h1 h2 h3 (zT h4) (zT h5)
 ·rw [am hok] at k;exact k
def Xv (T:Txt K mg a):KCal P w K mg base "Joiner" a.p 2 ["self","ins","out"] [] (wH K a.p a.e):=T.kH.cal T.lK (Xh T)
noncomputable def df (l1 l2:Addr) (p:Int):List (Str × V):=zP "pace" (.int p) (kf l1 l2)
def VO {l1 l2:Addr} {p:Int}:(df l1 l2 p).lookup ("pace":Str)=some (.int p):=by
 unfold df;rw [zA,ap rfl]
theorem Z5 (f:Str) (v:V):∀ fs:List (Str × V),(zP f v fs).length<=fs.length + 1
 | []=>by simp [zP]
 | (g,x) :: r=>by
  unfold zP
  split
  ·simp
  ·have:=Z5 f v r;simp;omega
def zgr {l1 l2:Addr}:(kf l1 l2).length<=2:=by
 unfold kf;have h1:=Z5 "outs" (V.ref l2) (zP "ins" (.ref l1) []);have h2:=Z5 "ins" (V.ref l1) [];simp only [cR] at h2;omega
def zhQ {l1 l2:Addr} {p:Int}:(df l1 l2 p).length < 1000:=by
 unfold df;have h1:=Z5 "pace" (V.int p) (kf l1 l2);have h2:=zgr (l1:=l1) (l2:=l2);omega
def vE (C CB:Addr):Sp:=λ vs H Q E=>∃ (y dx:Addr) (into:V) (p:Int),vs=[.ref y,into,.int p]/\H y=some (.ins C dx []) /\
 if 0<=p/\p<=4 then ∀ H' l1 l2,Own H H' y->H' y=some (.ins C dx (df l1 l2 p))->H' l1=some (.lst [into])->H' l2=some (.lst [])->H l1=none->H l2=none->Q .non H' else E (.ref CB) none H
def X8 (T:Txt K mg a) (F:Fun K "__init__" "Drain.__init__" xt f fd):FnOk P w K mg base (CXr P w) 2 f fd ["self","into","pace"] (vE a.l a.e):=by
 refine F.okx X5 ?_ ?_
 ·walk_at "i"
 walk_at "k";refine oE4 h λ y dx into p m7=>oA3 m7 λ m8 hy k=>?_;clear m7 h;subst m8;walk_at "T";refine ⟨_,(zg (zu (zx ⟨rfl,rfl,rfl⟩ hr (za (pq 2) (za zd zb))))  (zg (zu (Zf ⟨rfl,rfl,rfl⟩ hr (za (pq 0) (za (zI (za (pq 1) zb)) (za (zI zb) zb)))))  (zc (qT (pq 0) (pq 2) rfl)))),?_⟩;walk_at "a";refine iE3 _ _ _ ⟨Qn T,⟨p,0,rfl,zJ (λ hok=>?_) (λ hok=>?_)⟩⟩
 ·rw [ap hok] at k;walk_at "a";refine iE3 _ _ _ ⟨gD T,λ q1 hq1 q2 hq2=>?_⟩;have n12:q1≠q2:=nA nk hq2;have hy2:=nB (o:=.lst []) (nB (o:=.lst [into]) hy hq1) hq2;refine iE7 y a.l dx q1 q2 ([into]) ([]) (iA6 rfl hy2 T.gS T.ip T.iF (iA5 (SqL.of (nB nk hq2)) (SqL.of nk) ((nA hy hq1).symm) ((nA (nB hy hq1) hq2).symm) (λ H' l1 l2 s h1 h2 h3 h4 h5=>?_)));walk_at "a";refine iE4 y a.l dx _ (iA6 rfl h1 T.gS T.gO zb4 ?_);exact k _ l1 l2 (((Same.own ((zf hq1).trans (zf hq2))).trans s).trans js) nk (by rw [nz (Z9 h2 h1 (by intro z;cases z))];exact h2) (by rw [nz (Z9 h3 h1 (by intro z;cases z))];exact h3) (zT (zT h4)) (zT (zT h5))
 ·rw [am hok] at k;exact k
def Qi (T:Txt K mg a):KCal P w K mg base "Drain" a.l 2 ["self","into","pace"] [] (vE a.l a.e):=T.kZ.cal T.lY (X8 T)
noncomputable def sf (l1 l2:Addr) (p:Int) (l3:Addr):List (Str × V):=zP "kinds" (.ref l3) (df l1 l2 p)
def zfT {l1 l2 l3:Addr} {p:Int}:(sf l1 l2 p l3).lookup ("pace":Str)=some (.int p):=by
 unfold sf;rw [zA,am (by decide +kernel)];exact VO
def xR (ks:A6):Prop:=∀ n∈ks,0<=n/\n < jH
def wG (K:A0) (C CB:Addr):Sp:=λ vs H Q E=>∃ (y dx l:Addr) (out:V) (p:Int) (ks:A6),vs=[.ref y,out,.int p,.ref l]/\H y=some (.ins C dx [])/\SqL K H l (ks.map V.int)/\l≠y /\
 ((1<=p/\p<=4/\1<=ks.length/\ks.length<=6/\xR ks->∀ H' l1 l2 l3,Own H H' y->H' y=some (.ins C dx (sf l1 l2 p l3))->H' l1=some (.lst [])->H' l2=some (.lst [out])->H' l3=some (.lst (ks.map V.int))->H l1=none->H l2=none->H l3=none->Q .non H') /\
   (¬ (1<=p/\p<=4/\1<=ks.length/\ks.length<=6/\xR ks)->E (.ref CB) none H))
def Xf (T:Txt K mg a) (F:Fun K "__init__" "Source.__init__" jT f fd):FnOk P w K mg base (CXr P w) 2 f fd ["self","out","pace","kinds"] (wG K a.k a.e):=by
 refine F.okx JU ?_ ?_
 ·walk_at "i"
 walk_at "k";refine oE6 h λ y dx l out p ks m7=>oA6 m7 λ m8 hy hl hly kok kbad=>?_;clear m7 h;subst m8;obtain ⟨t1,g1⟩:=T.k9;walk_at "T";refine ⟨_,(zg (zu (zx ⟨rfl,rfl,rfl⟩ hr (za (pq 2) (za zd zb))))  (zg (zD (xK (jZ xO xO zd (z6 zY zX (za (pq 3) zb)) vn))  (zc (qR ⟨rfl,rfl,rfl⟩ rfl (za ju zb)))  zp)  (zg (qo qC rfl (qp (pq 3)) (qj 4 JU.nd)  (zc (zu (zx ⟨rfl,rfl,rfl⟩ hr (za (pq 4) zb)))))  (zg (zu (Zf ⟨rfl,rfl,rfl⟩ hr (za (pq 0) (za (zI zb) (za (zI (za (pq 1) zb)) zb)))))  (zg (qT (pq 0) (pq 2) rfl)  (zc (qT (pq 0) (vL Zk we (za (pq 3) zb)) rfl))))))),?_⟩;walk_at "a";refine iE3 _ _ _ ⟨Qn T,⟨p,1,rfl,zJ (λ hp=>?_) (λ hp=>kbad λ z=>hp ⟨z.1,z.2.1⟩)⟩⟩;walk_at "a";refine ⟨_,.inl ⟨_,hl,rfl⟩,?_⟩;rw [af];walk_at "a";have bad:¬ (1<=ks.length/\ks.length<=6)->∃ C,mg "BadKnot"=some (Value.ref C)/\XC K C/\E (Value.ref C) none H:=λ h=>⟨a.e,T.g9,T.hJ,kbad λ z=>h ⟨z.2.2.1,z.2.2.2.1⟩⟩;refine zJ (λ h1=>?_) (λ h1=>bad (by omega));refine iE2 (.int 6) _ (iA3 g1 ⟨_,rfl⟩ ?_);walk_at "a";refine zJ (λ h2=>?_) (λ h2=>bad (by omega));walk_at "d";refine ⟨l,rfl,.inl ⟨⟨_,hl⟩,?_⟩⟩;refine qS (K:=K) (a:=l) (xs:=ks.map V.int) (λ i σ H'=>∃ v4,σ=[some (.ref y),some out,some (.int p),some (.ref l),v4]/\H'=H/\xR (ks.take i)) ⟨_,iA3 rfl rfl (λ _ h=>nomatch h)⟩ (λ i σ H' _ ⟨_,_,e,_⟩=>e ▸ hl) ?_ ?_
 ·intro i x σ H' hi m9;refine oE1 m9 λ v4 m7=>oA3 m7 λ m8 n6 hk=>?_;clear m7 m9;subst m8 n6;rw [aj,au] at hi;obtain ⟨n,hn,rfl⟩:=hi;walk_at "a";refine iE3 _ _ _ ⟨Qo T,⟨n,rfl,zJ (λ hok=>?_) (λ hok=>kbad λ z=>hok (z.2.2.2.2 n (ah hn)))⟩⟩;walk_at "a";have:xR (ks.take (i + 1)):=λ m hm=>by
   rw [fZ,hn] at hm;rcases aF.mp hm with z|z
   ·exact hk m z
   ·have e:m=n:=by simpa using z
    rw [e];exact hok
  first|exact ⟨_,rfl,rfl,this⟩|exact ⟨_,rfl,this⟩
 ·intro σ H' m9;refine oE1 m9 λ v4 m7=>oA3 m7 λ m8 n6 hk=>?_;clear m7 m9;subst m8 n6;rw [af,aQ] at hk;have kok:=kok ⟨hp.1,hp.2,by omega,by omega,hk⟩;walk_at "a";refine iE3 _ _ _ ⟨gD T,λ q1 hq1 q2 hq2=>?_⟩;have hy2:=nB (o:=.lst [out]) (nB (o:=.lst []) hy hq1) hq2;have s12:Same H' (upd (upd H' q1 (.lst [])) q2 (.lst [out])):=(zf hq1).trans (zf hq2);refine iE7 y a.k dx q1 q2 ([]) ([out]) (iA6 rfl hy2 T.gG T.iE T.g7 (iA5 (SqL.of (nB nk hq2)) (SqL.of nk) ((nA hy hq1).symm) ((nA (nB hy hq1) hq2).symm) (λ H2 l1 l2 s h1 h2 h3 h4 h5=>?_)));walk_at "a";refine iE4 y a.k dx _ (iA6 rfl h1 T.gG T.gQ zb4 ?_);walk_at "a";have s3:Own H' (upd H2 y (.ins a.k dx (df l1 l2 p))) y:=((Same.own s12).trans s).trans js;have h2':upd H2 y (.ins a.k dx (df l1 l2 p)) l1=some (.lst []):=by rw [nz (Z9 h2 h1 (by intro z;cases z))];exact h2
  have h3':upd H2 y (.ins a.k dx (df l1 l2 p)) l2=some (.lst [out]):=by rw [nz (Z9 h3 h1 (by intro z;cases z))];exact h3
  refine iE2 l _ (iA3 rfl (.inl (zcu hl s3 hly)) (λ l3 hl3=>?_));walk_at "a";have hy3:upd (upd H2 y (.ins a.k dx (df l1 l2 p))) l3 (.lst (ks.map V.int)) y=some (.ins a.k dx (df l1 l2 p)):=nB nk hl3;refine iE4 y a.k dx _ (iA6 rfl hy3 T.gG T.gI zhQ ?_);have n1:l1≠y:=Z9 h2 h1 (by intro z;cases z);have n2:l2≠y:=Z9 h3 h1 (by intro z;cases z);have n3:l3≠y:=(nA (nk (H:=H2)) hl3).symm;refine kok _ l1 l2 l3 ((s3.trans (Same.own (zf hl3))).trans js) nk ?_ ?_ ?_ (zT (zT h4)) (zT (zT h5)) ?_
  ·rw [nz n1];exact nB h2' hl3
  ·rw [nz n2];exact nB h3' hl3
  ·rw [nz n3];exact nk
  ·cases e:H' l3 with
   | none=>rfl
   | some o=>exact absurd (hl3.symm.trans (s3 l3 o n3 e)) (by intro z;cases z)
def Qh (T:Txt K mg a):KCal P w K mg base "Source" a.k 2 ["self","out","pace","kinds"] [] (wG K a.k a.e):=T.kD.cal T.kz (Xf T)
noncomputable def bf (rm pc:Int):List (Str × V):=zP "pace" (.int pc) (zP "room" (.int rm) [])
abbrev zC (rm pc:Int):Prop:=1<=rm/\rm<=6/\1<=pc/\pc<=4
def ZA (C CB:Addr):Sp:=λ vs H Q E=>∃ (y dx:Addr) (rm pc:Int),vs=[.ref y,.int rm,.int pc]/\H y=some (.ins C dx [])/\if zC rm pc then Q .non (upd H y (.ins C dx (bf rm pc))) else E (.ref CB) none H
def VB (T:Txt K mg a) (F:Fun K "__init__" "Belt.__init__" xV f fd):FnOk P w K mg base (CXr P w) 1 f fd ["self","room","pace"] (ZA a.i a.d):=by
 refine F.okx Vq ?_ ?_
 ·walk_at "i"
 walk_at "k";refine oE4 h λ y dx rm pc m7=>oA3 m7 λ m8 hy k=>?_;clear m7 h;subst m8;obtain ⟨t1,g1⟩:=T.lH;obtain ⟨t2,g2⟩:=T.ka;walk_at "T";refine ⟨_,(zg (zD (xK (jZ xO xO zd (pq 1) vn))  (zc (qR ⟨rfl,rfl,rfl⟩ rfl (za ju zb)))  zp)  (zg (zD (xK (jZ xO xO zd (pq 2) vn))  (zc (qR ⟨rfl,rfl,rfl⟩ rfl (za ju zb)))  zp)  (zg (qT (pq 0) (pq 1) rfl)  (zc (qT (pq 0) (pq 2) rfl))))),?_⟩;walk_at "a";have bad:¬ zC rm pc->∃ C,mg "BadBelt"=some (Value.ref C)/\XC K C/\E (Value.ref C) none H:=λ h=>by
  rw [am h] at k;exact ⟨a.d,iA3 T.mf T.mi k⟩
 refine zJ (λ h1=>?_) (λ h1=>bad (by unfold zC;omega));refine iE2 (.int 6) _ (iA3 g1 ⟨_,rfl⟩ ?_);walk_at "a";refine zJ (λ h2=>?_) (λ h2=>bad (by unfold zC;omega));walk_at "a";refine zJ (λ h3=>?_) (λ h3=>bad (by unfold zC;omega));refine iE2 (.int 4) _ (iA3 g2 ⟨_,rfl⟩ ?_);walk_at "a";refine zJ (λ h4=>?_) (λ h4=>bad (by unfold zC;omega));rw [ap (by unfold zC;omega)] at k;walk_at "a";refine iE4 y a.i dx ([]) (iA6 rfl hy T.iu T.io (by decide) ?_);walk_at "a";refine iE4 y a.i dx _ (iA6 rfl nk T.iu T.g6 (by show 1 < 1000;decide) ?_);rw [vY];exact k
def ZS (T:Txt K mg a):KCal P w K mg base "Belt" a.i 1 ["self","room","pace"] [] (ZA a.i a.d):=T.lE.cal T.mS (VB T)
def qx {y dx b C:Addr} {u:HO} (hy:H y=none) (hdx:H dx=none) (h:H b=some u):upd (upd H dx (.own y)) y (.ins C dx []) b=some u:=by
 rw [nz (nA h hy),nz (nA h hdx)];exact h
def zK {y dx b:Addr} {o p:HO} (h:upd (upd H dx o) y p b=none):H b=none:=zT (zT h)
def zB {H H':Hp} (s:Same H H') (h:H' b=none):H b=none:=by
 cases e:H b with
 | none=>rfl
 | some o=>rw [s b o e] at h;cases h
inductive Wd|source|drain|parter|first|sieve|joiner
deriving DecidableEq
noncomputable def vb (a:Ad):Wd->Addr
 | .source=>a.k
 | .drain=>a.l
 | .parter=>a.m
 | .first=>a.n
 | .sieve=>a.o
 | .joiner=>a.p
structure Row where
 wd:Wd
 ins:List Int
 outs:List Int
 pace:Int
 kinds:List Int
abbrev At:=List Row
def Row.ok (r:Row):Prop:=match r.wd with
 | .source=>r.ins=[]/\(∃ o,r.outs=[o])/\1<=r.pace/\r.pace<=4/\1<=r.kinds.length/\r.kinds.length<=6/\xR r.kinds
 | .drain=>(∃ i,r.ins=[i])/\r.outs=[]/\0<=r.pace/\r.pace<=4
 | .parter=>(∃ i,r.ins=[i])/\2<=r.outs.length/\r.outs.length<=4
 | .first=>(∃ i,r.ins=[i])/\2<=r.outs.length/\r.outs.length<=4
 | .sieve=>(∃ i,r.ins=[i])/\r.outs.length=2/\∃ k,r.kinds=[k]/\0<=k/\k < jH
 | .joiner=>(∃ o,r.outs=[o])/\2<=r.ins.length/\r.ins.length<=4
noncomputable def zaM (r:Row):List (Str × D):=match r.wd with
 | .source=>[("pace",.int r.pace),("kinds",.ints r.kinds)]
 | .drain=>[("pace",.int r.pace)]
 | .sieve=>[("kind",.int (r.kinds.headD 0))]
 | _=>[]
noncomputable def Xs (r:Row):List (Str × D):=("ins",.ints r.ins) :: ("outs",.ints r.outs) :: zaM r
noncomputable def vp (a:Ad) (r:Row):D:=.ob (vb a r.wd) (Xs r)
noncomputable def Zu (a:Ad) (b:Int × Int):D:=.ob a.i [("room",.int b.1),("pace",.int b.2)]
def je {α:Type} {f:Str} {x:α} {r:List (Str × α)}:((f,x) :: r).lookup f=some x:=by simp [List.lookup]
def zV {α:Type} {f g:Str} {x:α} {r:List (Str × α)} (h:f≠g):((g,x) :: r).lookup f=r.lookup f:=by
 have hb:(f == g)=false:=a7.mpr h;simp [List.lookup,hb]
def zgp (r:Row):(Xs r).lookup ("ins":Str)=some (.ints r.ins):=je
def ze6 (r:Row):(Xs r).lookup ("outs":Str)=some (.ints r.outs):=(zV (by decide +kernel)).trans je
def ze5 {r:Row} (h:r.wd=.source\/r.wd=.drain):(Xs r).lookup ("pace":Str)=some (.int r.pace):=by
 refine (zV (by decide +kernel)).trans ((zV (by decide +kernel)).trans ?_);unfold zaM;rcases h with h|h <;> (rw [h];exact je)
def zdL {r:Row} (h:r.wd=.source):(Xs r).lookup ("kinds":Str)=some (.ints r.kinds):=by
 refine (zV (by decide +kernel)).trans ((zV (by decide +kernel)).trans ?_);unfold zaM;rw [h];exact (zV (by decide +kernel)).trans je
def ze8 {r:Row} {k:Int} (h:r.wd=.sieve) (e:r.kinds=[k]):(Xs r).lookup ("kind":Str)=some (.int k):=by
 refine (zV (by decide +kernel)).trans ((zV (by decide +kernel)).trans ?_);unfold zaM;rw [h,e];exact je
def ze7 {r:Row} {f:Str} (h1:f≠"ins") (h2:f≠"outs") (h3:f≠"pace") (h4:f≠"kinds") (h5:f≠"kind"):(Xs r).lookup f=none:=by
 refine (zV h1).trans ((zV h2).trans ?_);unfold zaM
 split
 ·exact (zV h3).trans (zV h4)
 ·exact zV h3
 ·exact zV h5
 ·rfl
def KnP (a:Ad) (H:Hp) (p:A5) (v:V) (r:Row):Prop:=Rep H p v (vp a r)
def KnP.keep {H H':Hp} {p q:A5} {r:Row} (h:KnP a H p v r) (s:∀ b o,p b->H b=some o->q b/\H' b=some o):KnP a H' q v r:=Rep.keep s h
def KnP.inv {r:Row} (h:KnP a H p v r):∃ y dx l1 l2 l3 fs,v=.ref y/\p y/\p l1/\p l2/\(r.wd=.source->p l3)/\H y=some (.ins (vb a r.wd) dx fs)/\fs.lookup ("ins":Str)=some (.ref l1)/\fs.lookup ("outs":Str)=some (.ref l2) /\
  fs.lookup ("copied":Str)=none/\H l1=some (.lst (iv r.ins))/\H l2=some (.lst (iv r.outs))/\(r.wd=.source->fs.lookup ("kinds":Str)=some (.ref l3)/\H l3=some (.lst (iv r.kinds)))/\((r.wd=.source\/r.wd=.drain)->fs.lookup ("pace":Str)=some (.int r.pace)):=by
 refine oE3 (Rep.ob' h) λ y dx fs m7=>oA5 m7 λ m8 py hy g1 g2=>?_;clear m7;subst m8;obtain ⟨u1,e1,r1⟩:=g1 _ _ (zgp r);refine oE1 r1.ints' λ l1 m7=>oA3 m7 λ m8 p1 h1=>?_;clear m7;subst m8;obtain ⟨u2,e2,r2⟩:=g1 _ _ (ze6 r);refine oE1 r2.ints' λ l2 m7=>oA3 m7 λ m8 p2 h2=>?_;clear m7;subst m8;have e3:=g2 ("copied":Str) (ze7 (by decide +kernel) (by decide +kernel) (by decide +kernel) (by decide +kernel) (by decide +kernel));have pc:(r.wd=.source\/r.wd=.drain)->fs.lookup ("pace":Str)=some (.int r.pace):=λ z=>by
  obtain ⟨u,e,ru⟩:=g1 _ _ (ze5 z);cases ru;exact e
 by_cases hs:r.wd=.source
 ·obtain ⟨u3,e4,r3⟩:=g1 _ _ (zdL hs);refine oE1 r3.ints' λ l3 m7=>oA3 m7 λ m8 p3 h3=>?_;clear m7;subst m8;exact iE6 y dx l1 l2 l3 fs (iA9 rfl py p1 p2 (λ _=>p3) hy e1 e2 (iA5 e3 h1 h2 (λ _=>⟨e4,h3⟩) pc))
 ·exact iE6 y dx l1 l2 l1 fs (iA9 rfl py p1 p2 (λ z=>absurd z hs) hy e1 e2 (iA5 e3 h1 h2 (λ z=>absurd z hs) pc))
def Xt {l1 l2:Addr}:kf l1 l2=([(("ins":Str),V.ref l1),(("outs":Str),V.ref l2)]:Ar):=by
 unfold kf;simp only [zP];rw [am (by decide +kernel)]
def zfq {l1 l2:Addr}:df l1 l2 n=([(("ins":Str),V.ref l1),(("outs":Str),V.ref l2),(("pace":Str),V.int n)]:Ar):=by
 unfold df;rw [Xt];simp only [zP];rw [am (by decide +kernel),am (by decide +kernel)]
def zgP {l1 l2 l3:Addr}:sf l1 l2 n l3=([(("ins":Str),V.ref l1),(("outs":Str),V.ref l2),(("pace":Str),V.int n),(("kinds":Str),V.ref l3)]:Ar):=by
 unfold sf;rw [zfq];simp only [zP];rw [am (by decide +kernel),am (by decide +kernel),am (by decide +kernel)]
def zgL {l1 l2:Addr}:vf l1 l2 n=([(("ins":Str),V.ref l1),(("outs":Str),V.ref l2),(("kind":Str),V.int n)]:Ar):=by
 unfold vf;rw [Xt];simp only [zP];rw [am (by decide +kernel),am (by decide +kernel)]
def wV {l C dx:Addr} {gs:List (Str × D)} (pl:p l) (e:H l=some (.ins C dx fs)) (n:fs.map (·.1)=gs.map (·.1)) (r:Reps H p (fs.map (·.2)) (gs.map (·.2))):Rep H p (.ref l) (.ob C gs) :=
 .ob pl e n λ i f g hf hg=>r.g i f.2 g.2 (by rw [aj,hf];rfl) (by rw [aj,hg];rfl)
section
variable {H:Hp} {p:A5} {z dz m1 m2 m3:Addr} {ins outs kinds:A6} {pace:Int}
def WB (q0:p z) (q1:p m1) (q2:p m2) (q3:p m3) (h0:H z=some (.ins a.k dz (sf m1 m2 pace m3))) (h1:H m1=some (.lst (iv ins))) (h2:H m2=some (.lst (iv outs))) (h3:H m3=some (.lst (iv kinds))):KnP a H p (.ref z) ⟨.source,ins,outs,pace,kinds⟩:=by
 rw [zgP] at h0;exact wV q0 h0 rfl (.cons (qm q1 h1) (.cons (qm q2 h2) (.cons .int (.cons (qm q3 h3) .nil))))
def zaX (q0:p z) (q1:p m1) (q2:p m2) (h0:H z=some (.ins a.l dz (df m1 m2 pace))) (h1:H m1=some (.lst (iv ins))) (h2:H m2=some (.lst (iv outs))):KnP a H p (.ref z) ⟨.drain,ins,outs,pace,kinds⟩:=by
 rw [zfq] at h0;exact wV q0 h0 rfl (.cons (qm q1 h1) (.cons (qm q2 h2) (.cons .int .nil)))
def zaV {k:Int} (q0:p z) (q1:p m1) (q2:p m2) (h0:H z=some (.ins a.o dz (vf m1 m2 k))) (h1:H m1=some (.lst (iv ins))) (h2:H m2=some (.lst (iv outs))):KnP a H p (.ref z) ⟨.sieve,ins,outs,pace,[k]⟩:=by
 rw [zgL] at h0;exact wV q0 h0 rfl (.cons (qm q1 h1) (.cons (qm q2 h2) (.cons .int .nil)))
def WC (q0:p z) (q1:p m1) (q2:p m2) (h0:H z=some (.ins a.m dz (kf m1 m2))) (h1:H m1=some (.lst (iv ins))) (h2:H m2=some (.lst (iv outs))):KnP a H p (.ref z) ⟨.parter,ins,outs,pace,kinds⟩:=by
 rw [Xt] at h0;exact wV q0 h0 rfl (.cons (qm q1 h1) (.cons (qm q2 h2) .nil))
def zaW (q0:p z) (q1:p m1) (q2:p m2) (h0:H z=some (.ins a.n dz (kf m1 m2))) (h1:H m1=some (.lst (iv ins))) (h2:H m2=some (.lst (iv outs))):KnP a H p (.ref z) ⟨.first,ins,outs,pace,kinds⟩:=by
 rw [Xt] at h0;exact wV q0 h0 rfl (.cons (qm q1 h1) (.cons (qm q2 h2) .nil))
def WD (q0:p z) (q1:p m1) (q2:p m2) (h0:H z=some (.ins a.p dz (kf m1 m2))) (h1:H m1=some (.lst (iv ins))) (h2:H m2=some (.lst (iv outs))):KnP a H p (.ref z) ⟨.joiner,ins,outs,pace,kinds⟩:=by
 rw [Xt] at h0;exact wV q0 h0 rfl (.cons (qm q1 h1) (.cons (qm q2 h2) .nil))
end
def BtP (a:Ad) (H:Hp) (p:A5) (v:V) (r:Int × Int):Prop:=Rep H p v (Zu a r)
def BtP.keep {H H':Hp} {p q:A5} {r:Int × Int} (h:BtP a H p v r) (s:∀ b o,p b->H b=some o->q b/\H' b=some o):BtP a H' q v r:=Rep.keep s h
def ziK {rm pc:Int}:bf rm pc=([(("room":Str),V.int rm),(("pace":Str),V.int pc)]:Ar):=by
 unfold bf;simp only [zP];rw [am (by decide +kernel)]
def zgY {y dx:Addr} {rm pc:Int} (q0:p y) (h0:H y=some (.ins a.i dx (bf rm pc))):BtP a H p (.ref y) (rm,pc):=by
 rw [ziK] at h0;exact wV q0 h0 rfl (.cons .int (.cons .int .nil))
def BtP.inv {r:Int × Int} (h:BtP a H p v r):∃ y dx fs,v=.ref y/\p y/\H y=some (.ins a.i dx fs)/\fs.lookup ("room":Str)=some (.int r.1)/\fs.lookup ("pace":Str)=some (.int r.2):=by
 refine oE3 (Rep.ob' h) λ y dx fs m7=>oA5 m7 λ m8 py hy g1 g2=>?_;clear m7;subst m8;obtain ⟨u1,e1,r1⟩:=g1 ("room":Str) _ je;obtain ⟨u2,e2,r2⟩:=g1 ("pace":Str) _ ((zV (by decide +kernel)).trans je);cases r1;cases r2;exact iE3 y dx fs (iA5 rfl py hy e1 e2)
structure Kns (a:Ad) (H:Hp) (p:A5) (vs:Ap) (rs:At):Prop where
 len:vs.length=rs.length
 g:∀ (i:Nat) v r,vs[i]?=some v->rs[i]?=some r->KnP a H p v r
def Kns.keep {H H':Hp} {p q:A5} {rs:At} (h:Kns a H p vs rs) (s:∀ b o,p b->H b=some o->q b/\H' b=some o):Kns a H' q vs rs:=⟨h.len,λ i v r e1 e2=>(h.g i v r e1 e2).keep s⟩
def Kns.nil:Kns a H p [] []:=⟨rfl,λ i v r h=>by simp at h⟩
def Kns.append {vs us:Ap} {rs qs:At} (h:Kns a H p vs rs) (k:Kns a H p us qs):Kns a H p (vs ++ us) (rs ++ qs):=by
 refine ⟨by rw [aM,aM,h.len,k.len],λ i v r e1 e2=>?_⟩;by_cases hi:i < vs.length
 ·rw [aT hi] at e1;rw [aT (by rw [<- h.len];exact hi)] at e2;exact h.g i v r e1 e2
 ·rw [aJ (by omega)] at e1;rw [aJ (by rw [<- h.len];omega),<- h.len] at e2;exact k.g _ v r e1 e2
def Kns.one {r:Row} (h:KnP a H p v r):Kns a H p [v] [r] :=
 ⟨rfl,λ i u q e1 e2=>by
  have hi:=(aa.mp e1).1;have:i=0:=by simp at hi;omega
  subst this;have e1:v=u:=by simpa using e1
  have e2:r=q:=by simpa using e2
  rw [<- e1,<- e2];exact h⟩
def Kns.at {rs:At} (h:Kns a H p vs rs) (e:vs[i]?=some v):∃ r,rs[i]?=some r/\KnP a H p v r:=by
 have hi:=(aa.mp e).1;have e2:rs[i]?=some (rs[i]'(by rw [<- h.len];exact hi)):=ac _;exact ⟨_,e2,h.g i v _ e e2⟩
structure Bts (a:Ad) (H:Hp) (p:A5) (vs:Ap) (rs:A1):Prop where
 len:vs.length=rs.length
 g:∀ (i:Nat) v r,vs[i]?=some v->rs[i]?=some r->BtP a H p v r
def Bts.keep {H H':Hp} {p q:A5} {rs:A1} (h:Bts a H p vs rs) (s:∀ b o,p b->H b=some o->q b/\H' b=some o):Bts a H' q vs rs:=⟨h.len,λ i v r e1 e2=>(h.g i v r e1 e2).keep s⟩
def Bts.nil:Bts a H p [] []:=⟨rfl,λ i v r h=>by simp at h⟩
def Bts.push {rs:A1} {r:Int × Int} (h:Bts a H p vs rs) (k:BtP a H p v r):Bts a H p (vs ++ [v]) (rs ++ [r]):=by
 refine ⟨by rw [aM,aM,h.len];rfl,λ i u q e1 e2=>?_⟩;by_cases hi:i < vs.length
 ·rw [aT hi] at e1;rw [aT (by rw [<- h.len];exact hi)] at e2;exact h.g i u q e1 e2
 ·rw [aJ (by omega)] at e1;rw [aJ (by rw [<- h.len];omega),<- h.len] at e2;have hj:=(aa.mp e1).1;have:i - vs.length=0:=by simp at hj;omega
  rw [this] at e1 e2;have e1:v=u:=by simpa using e1
  have e2:r=q:=by simpa using e2
  rw [<- e1,<- e2];exact k
def Bts.at {rs:A1} (h:Bts a H p vs rs) (e:vs[i]?=some v):∃ r,rs[i]?=some r/\BtP a H p v r:=by
 have hi:=(aa.mp e).1;have e2:rs[i]?=some (rs[i]'(by rw [<- h.len];exact hi)):=ac _;exact ⟨_,e2,h.g i v _ e e2⟩
abbrev New (H:Hp):Addr->Prop:=λ b=>H b=none
def xz (a:Ad) (wd:Wd):Sp:=λ vs H Q _=>∃ (y:Addr) (r:Row) (p:A5),vs=[.ref y]/\KnP a H p (.ref y) r/\r.wd=wd/\r.ok/\∀ v H',Same H H'->KnP a H' (New H) v r->Q v H'
def Kns.reps {rs:At} (h:Kns a H p vs rs):Reps H p vs (rs.map (vp a)):=⟨by rw [h.len,af],λ i v d e1 e2=>by
 rw [aj,au] at e2;obtain ⟨r,e2,rfl⟩:=e2;exact h.g i v r e1 e2⟩
def Bts.reps {rs:A1} (h:Bts a H p vs rs):Reps H p vs (rs.map (Zu a)):=⟨by rw [h.len,af],λ i v d e1 e2=>by
 rw [aj,au] at e2;obtain ⟨r,e2,rfl⟩:=e2;exact h.g i v r e1 e2⟩
def Kns.of {rs:At} (h:Reps H p vs (rs.map (vp a))):Kns a H p vs rs:=⟨by rw [h.len,af],λ i v r e1 e2=>h.g i v _ e1 (by rw [aj,e2];rfl)⟩
def Bts.of {rs:A1} (h:Reps H p vs (rs.map (Zu a))):Bts a H p vs rs:=⟨by rw [h.len,af],λ i v r e1 e2=>h.g i v _ e1 (by rw [aj,e2];rfl)⟩
def Jh (T:Txt K mg a):MCal P w K mg base a.k "copied" 4 ["self"] [] (xz a .source):=T.iS.cal T.gG λ F=>by
 refine F.okx Qw ?_ ?_
 ·walk_at "i"
 walk_at "k";refine oE3 h λ y m7 p m8=>oA5 m8 λ n6 hK hw hok k=>?_;clear m8 h;obtain ⟨wd,ins,outs,pace,kinds⟩:=m7;subst n6;cases hw;have hK0:=hK;refine oE6 hK.inv λ y' dx l1 l2 l3 fs m7=>oA9 m7 λ e p0 p1 p2 p3 h0 e1 e2 m8=>oA5 m8 λ e3 h1 h2 h3 h4=>?_;clear m7 m8;cases e;obtain ⟨hk,hk'⟩:=h3 rfl;have hp:=h4 (.inl rfl);refine oA7 hok λ q1 m7 q3 q4 q5 q6 q7=>?_;clear hok;obtain ⟨ov,q2⟩:=m7;simp only at q1 q2;subst q1 q2;walk_at "T";refine ⟨_,(zc (zl (qw (x:="Source") ⟨rfl,rfl,rfl⟩ hr (za (zn (zj (pq 0) rfl) zd) (za (zj (pq 0) rfl) (za (zj (pq 0) rfl) zb)))))),?_⟩;walk_at "a";refine iE4 a.k _ _ _ ⟨(Qh T).mono,iE5 y a.k dx fs _ (iA6 rfl h0 T.gG T.g7 e2 (zq (SqL.of h2) at0 ?_))⟩;refine ra h0 T.gG T.gQ hp ?_;refine ra h0 T.gG T.gI hk ?_;intro z dz hz hdz hne;refine iE6 z dz l3 (.int ov) pace kinds (iA6 rfl nk (SqL.of (qx hz hdz hk')) (nA hk' hz) (λ _ H' m1 m2 m3 s' g1 g2 g3 g4 n1 n2 n3=>⟨rfl,?_⟩) (λ hbad=>absurd (iA5 q3 q4 q5 q6 q7) hbad));exact k _ _ (Own.of_new hz hdz s') (WB (p:=New H) (ins:=[]) (outs:=[ov]) hz (zK n1) (zK n2) (zK n3) g1 g2 g3 g4)
def Xq (T:Txt K mg a):MCal P w K mg base a.l "copied" 4 ["self"] [] (xz a .drain):=T.kh.cal T.gS λ F=>by
 refine F.okx Je ?_ ?_
 ·walk_at "i"
 walk_at "k";refine oE3 h λ y m7 p m8=>oA5 m8 λ n6 hK hw hok k=>?_;clear m8 h;obtain ⟨wd,ins,outs,pace,kinds⟩:=m7;subst n6;cases hw;have hK0:=hK;refine oE6 hK.inv λ y' dx l1 l2 l3 fs m7=>oA9 m7 λ e p0 p1 p2 p3 h0 e1 e2 m8=>oA5 m8 λ e3 h1 h2 h3 h4=>?_;clear m7 m8;cases e;have hp:=h4 (.inr rfl);refine oA4 hok λ m7 q2 q3 q4=>?_;clear hok;obtain ⟨iv',q1⟩:=m7;simp only at q1 q2;subst q1 q2;walk_at "T";refine ⟨_,(zc (zl (qw (x:="Drain") ⟨rfl,rfl,rfl⟩ hr (za (zn (zj (pq 0) rfl) zd) (za (zj (pq 0) rfl) zb))))),?_⟩;walk_at "a";refine iE4 a.l _ _ _ ⟨(Qi T).mono,iE5 y a.l dx fs _ (iA6 rfl h0 T.gS T.ip e1 (zq (SqL.of h1) at0 ?_))⟩;refine ra h0 T.gS T.gO hp ?_;intro z dz hz hdz hne;refine iE4 z dz (.int iv') pace (iA3 rfl nk ?_);rw [ap ⟨q3,q4⟩];intro H' m1 m2 s' g1 g2 g3 n1 n2;exact ⟨rfl,k _ _ (Own.of_new hz hdz s') (zaX (p:=New H) (ins:=[iv']) (outs:=[]) hz (zK n1) (zK n2) g1 g2 g3)⟩
def Jj (T:Txt K mg a):MCal P w K mg base a.m "copied" 4 ["self"] [] (xz a .parter):=T.iU.cal T.gU λ F=>by
 refine F.okx Qy ?_ ?_
 ·walk_at "i"
 walk_at "k";refine oE3 h λ y m7 p m8=>oA5 m8 λ n6 hK hw hok k=>?_;clear m8 h;obtain ⟨wd,ins,outs,pace,kinds⟩:=m7;subst n6;cases hw;have hK0:=hK;refine oE6 hK.inv λ y' dx l1 l2 l3 fs m7=>oA9 m7 λ e p0 p1 p2 p3 h0 e1 e2 m8=>oA5 m8 λ e3 h1 h2 h3 h4=>?_;clear m7 m8;cases e;obtain ⟨⟨iv',q1⟩,q3,q4⟩:=hok;simp only at q1 q3 q4;subst q1;walk_at "T";refine ⟨_,(zc (zl (qw (x:="Parter") ⟨rfl,rfl,rfl⟩ hr (za (zn (zj (pq 0) rfl) zd) (za (zj (pq 0) rfl) zb))))),?_⟩;walk_at "a";refine iE4 a.m _ _ _ ⟨(Xu T).mono,iE5 y a.m dx fs _ (iA6 rfl h0 T.gU T.ia e1 (zq (SqL.of h1) at0 ?_))⟩;refine ra h0 T.gU T.gR e2 ?_;intro z dz hz hdz hne;refine iE5 z dz l2 (.int iv') (iv outs) (iA5 rfl nk (SqL.of (qx hz hdz h2)) (nA h2 hz) ?_);rw [ap (by rw [iv,af];exact ⟨q3,q4⟩)];intro H' m1 m2 s' g1 g2 g3 n1 n2;exact ⟨rfl,k _ _ (Own.of_new hz hdz s') (WC (p:=New H) (ins:=[iv']) (outs:=outs) hz (zK n1) (zK n2) g1 g2 g3)⟩
def vQ (T:Txt K mg a):MCal P w K mg base a.n "copied" 4 ["self"] [] (xz a .first):=T.ic.cal T.gH λ F=>by
 refine F.okx vv ?_ ?_
 ·walk_at "i"
 walk_at "k";refine oE3 h λ y m7 p m8=>oA5 m8 λ n6 hK hw hok k=>?_;clear m8 h;obtain ⟨wd,ins,outs,pace,kinds⟩:=m7;subst n6;cases hw;have hK0:=hK;refine oE6 hK.inv λ y' dx l1 l2 l3 fs m7=>oA9 m7 λ e p0 p1 p2 p3 h0 e1 e2 m8=>oA5 m8 λ e3 h1 h2 h3 h4=>?_;clear m7 m8;cases e;obtain ⟨⟨iv',q1⟩,q3,q4⟩:=hok;simp only at q1 q3 q4;subst q1;walk_at "T";refine ⟨_,(zc (zl (qw (x:="FirstParter") ⟨rfl,rfl,rfl⟩ hr (za (zn (zj (pq 0) rfl) zd) (za (zj (pq 0) rfl) zb))))),?_⟩;walk_at "a";refine iE4 a.n _ _ _ ⟨(Zt T).mono,iE5 y a.n dx fs _ (iA6 rfl h0 T.gH T.gM e1 (zq (SqL.of h1) at0 ?_))⟩;refine ra h0 T.gH T.gL e2 ?_;intro z dz hz hdz hne;refine iE5 z dz l2 (.int iv') (iv outs) (iA5 rfl nk (SqL.of (qx hz hdz h2)) (nA h2 hz) ?_);rw [ap (by rw [iv,af];exact ⟨q3,q4⟩)];intro H' m1 m2 s' g1 g2 g3 n1 n2;exact ⟨rfl,k _ _ (Own.of_new hz hdz s') (zaW (p:=New H) (ins:=[iv']) (outs:=outs) hz (zK n1) (zK n2) g1 g2 g3)⟩
def Xn (T:Txt K mg a):MCal P w K mg base a.o "copied" 4 ["self"] [] (xz a .sieve):=T.kj.cal T.gP λ F=>by
 refine F.okx Jb ?_ ?_
 ·walk_at "i"
 walk_at "k";refine oE3 h λ y m7 p m8=>oA5 m8 λ n6 hK hw hok k=>?_;clear m8 h;obtain ⟨wd,ins,outs,pace,kinds⟩:=m7;subst n6;cases hw;have hK0:=hK;refine oE6 hK.inv λ y' dx l1 l2 l3 fs m7=>oA9 m7 λ e p0 p1 p2 p3 h0 e1 e2 m8=>oA5 m8 λ e3 h1 h2 h3 h4=>?_;clear m7 m8;cases e;refine oA3 hok λ m7 q3 m8=>oE1 m8 λ kk n6=>oA3 n6 λ q4 q5 q6=>?_;clear m8 n6 hok;obtain ⟨iv',q1⟩:=m7;simp only at q1 q3 q4;subst q1 q4;walk_at "T";refine ⟨_,(zc (zl (qw (x:="Sieve") ⟨rfl,rfl,rfl⟩ hr (za (zn (zj (pq 0) rfl) zd) (za (zj (pq 0) rfl) (za (zj (pq 0) rfl) zb)))))),?_⟩;walk_at "a";refine iE4 a.o _ _ _ ⟨(zcJ T).mono,iE5 y a.o dx fs _ (iA6 rfl h0 T.gP T.ir e1 (zq (SqL.of h1) at0 ?_))⟩;refine ra h0 T.gP T.ig e2 ?_;refine zf1 hK0 T.gP T.ie (ze8 rfl rfl) λ u ru=>?_;cases ru;intro z dz hz hdz hne;refine iE6 z dz l2 (.int iv') (iv outs) kk (iA5 rfl nk (SqL.of (qx hz hdz h2)) (nA h2 hz) ?_);rw [ap (by rw [iv,af];exact ⟨q3,q5,q6⟩)];intro H' m1 m2 s' g1 g2 g3 n1 n2;exact ⟨rfl,k _ _ (Own.of_new hz hdz s') (zaV (p:=New H) (ins:=[iv']) (outs:=outs) hz (zK n1) (zK n2) g1 g2 g3)⟩
def Jl (T:Txt K mg a):MCal P w K mg base a.p "copied" 4 ["self"] [] (xz a .joiner):=T.iW.cal T.gW λ F=>by
 refine F.okx QA ?_ ?_
 ·walk_at "i"
 walk_at "k";refine oE3 h λ y m7 p m8=>oA5 m8 λ n6 hK hw hok k=>?_;clear m8 h;obtain ⟨wd,ins,outs,pace,kinds⟩:=m7;subst n6;cases hw;have hK0:=hK;refine oE6 hK.inv λ y' dx l1 l2 l3 fs m7=>oA9 m7 λ e p0 p1 p2 p3 h0 e1 e2 m8=>oA5 m8 λ e3 h1 h2 h3 h4=>?_;clear m7 m8;cases e;obtain ⟨⟨ov,q1⟩,q3,q4⟩:=hok;simp only at q1 q3 q4;subst q1;walk_at "T";refine ⟨_,(zc (zl (qw (x:="Joiner") ⟨rfl,rfl,rfl⟩ hr (za (zj (pq 0) rfl) (za (zn (zj (pq 0) rfl) zd) zb))))),?_⟩;walk_at "a";refine iE4 a.p _ _ _ ⟨(Xv T).mono,iE5 y a.p dx fs _ (iA6 rfl h0 T.gW T.gX e1 ?_)⟩;refine ra h0 T.gW T.g8 e2 (zq (SqL.of h2) at0 ?_);intro z dz hz hdz hne;refine iE5 z dz l1 (.int ov) (iv ins) (iA5 rfl nk (SqL.of (qx hz hdz h1)) (nA h1 hz) ?_);rw [ap (by rw [iv,af];exact ⟨q3,q4⟩)];intro H' m1 m2 s' g1 g2 g3 n1 n2;exact ⟨rfl,k _ _ (Own.of_new hz hdz s') (WD (p:=New H) (ins:=ins) (outs:=[ov]) hz (zK n1) (zK n2) g1 g2 g3)⟩
def CT (T:Txt K mg a) (wd:Wd):Cls K (vb a wd):=by
 cases wd
 ·exact T.gG
 ·exact T.gS
 ·exact T.gU
 ·exact T.gH
 ·exact T.gP
 ·exact T.gW
def NI (T:Txt K mg a) (wd:Wd):NoAttr K (vb a wd) "ins":=by
 cases wd
 ·exact T.iE
 ·exact T.ip
 ·exact T.ia
 ·exact T.gM
 ·exact T.ir
 ·exact T.gX
def NO (T:Txt K mg a) (wd:Wd):NoAttr K (vb a wd) "outs":=by
 cases wd
 ·exact T.g7
 ·exact T.iF
 ·exact T.gR
 ·exact T.gL
 ·exact T.ig
 ·exact T.g8
def WT (T:Txt K mg a) (wd:Wd):WI K (vb a wd):=by
 cases wd
 ·exact T.mD
 ·exact T.mL
 ·exact T.mE
 ·exact T.kG
 ·exact T.mM
 ·exact T.mF
def zeZ (T:Txt K mg a) (wd:Wd):MCal P w K mg base (vb a wd) "copied" 4 ["self"] [] (xz a wd):=by
 cases wd
 ·exact Jh T
 ·exact Xq T
 ·exact Jj T
 ·exact vQ T
 ·exact Xn T
 ·exact Jl T
theorem Wn:∀ (xs ys:A6),xs.Perm ys->xs.Pairwise (·<=·)->ys.Pairwise (·<=·)->xs=ys
 | [],ys,h,_,_=>(List.nil_perm.mp h).symm
 | x :: xs,[],h,_,_=>absurd h.length_eq (by simp)
 | x :: xs,y :: ys,h,hx,hy=>by
  have e:x=y:=by
   have h1:y∈x :: xs:=h.mem_iff.mpr (by simp);have h2:x∈y :: ys:=h.mem_iff.mp (by simp);rcases aw.mp h1 with e|m1
   ·exact e.symm
   rcases aw.mp h2 with e|m2
   ·exact e
   have:=(cX.mp hx).1 y m1;have:=(cX.mp hy).1 x m2;omega
  subst e;rw [Wn xs ys h.cons_inv (cX.mp hx).2 (cX.mp hy).2]
noncomputable def rgI (n:Nat):List Int:=(List.range n).map λ (i:Nat)=>(i:Int)
def zbM (n:Nat):(rgI n).Pairwise (·<=·):=by
 unfold rgI;rw [List.pairwise_map];exact List.pairwise_lt_range.imp λ {i j} h=>by omega
def zfZ (n:Nat):rgL 0 n=iv (rgI n):=by
 simp [rgL,iv,rgI,eM,eB]
theorem ZD:∀ ms ns:List Int,wv (iv ms) (iv ns)=decide (ms=ns)
 | [],[]=>rfl
 | [],_ :: _=>rfl
 | _ :: _,[]=>rfl
 | m :: ms,n :: ns=>by
  show (eqV (.int m) (.int n) && wv (iv ms) (iv ns))=_
  rw [ZD ms ns];by_cases e:m=n
  ·subst e;simp [eqV]
  ·simp [eqV,e]
def zcS (ns:A6):(iv ns).all vo=true:=dj.mpr λ x hx=>by
 obtain ⟨n,_,rfl⟩:=bc.mp hx
 rfl
def zf0 {Q:VK} {p q:Addr} {ms ns:A6} (h1:SqL K H p (iv ms)) (h2:SqL K H q (iv ns)) (k:Q (.bl (!decide (ms=ns))) H):zbP K (.ref p) (.ref q) H Q :=
 .inr (.inl ⟨p,q,iv ms,iv ns,rfl,rfl,.inl ⟨h1,h2⟩,zcS ms,zcS ns,by rw [ZD];exact k⟩)
def zah (K:A0) (a:Ad):Sp:=λ vs H Q E=>∃ (bl kl:Addr) (xs ys:Ap),vs=[.ref bl,.ref kl]/\SqL K H bl xs/\SqL K H kl ys/\if (1<=xs.length/\xs.length<=24)/\1<=ys.length/\ys.length<=24 then Q .non H else E (.ref a.f) none H
def VW (T:Txt K mg a):Cal P w K mg base "check_size" 1 ["belts","knots"] [] (zah K a):=T.kS.cal λ F=>by
 refine F.okx X0 ?_ ?_
 ·walk_at "i"
 walk_at "k";refine oE4 h λ bl kl xs ys m7=>oA4 m7 λ m8 h1 h2 k=>?_;clear m7 h;subst m8;obtain ⟨t1,g1⟩:=T.lh;obtain ⟨t2,g2⟩:=T.lj;walk_at "T";refine ⟨_,(zg (zD (xK (jZ xO xO zd (z6 zY zX (za (pq 0) zb)) vn))  (zc (qR ⟨rfl,rfl,rfl⟩ rfl (za ju zb)))  zp)  (zc (zD (xK (jZ xO xO zd (z6 zY zX (za (pq 1) zb)) vn))  (zc (qR ⟨rfl,rfl,rfl⟩ rfl (za ju zb)))  zp))),?_⟩;walk_at "a";have bad:¬ ((1<=xs.length/\xs.length<=24)/\1<=ys.length/\ys.length<=24)->∃ C,mg "BadWork"=some (Value.ref C)/\XC K C/\E (Value.ref C) none H:=λ h=>by
  rw [am h] at k;exact ⟨a.f,iA3 T.kU T.ll k⟩
 refine ⟨_,.inl ⟨_,h1,rfl⟩,?_⟩;walk_at "a";refine zJ (λ b1=>?_) (λ b1=>bad (by omega));refine iE2 (.int 24) _ (iA3 g1 ⟨_,rfl⟩ ?_);walk_at "a";refine zJ (λ b2=>?_) (λ b2=>bad (by omega));walk_at "a";refine ⟨_,.inl ⟨_,h2,rfl⟩,?_⟩;walk_at "a";refine zJ (λ b3=>?_) (λ b3=>bad (by omega));refine iE2 (.int 24) _ (iA3 g2 ⟨_,rfl⟩ ?_);walk_at "a";refine zJ (λ b4=>?_) (λ b4=>bad (by omega));rw [ap (by omega)] at k;walk_at "a";exact k
def zbx (K:A0) (a:Ad):Sp:=λ vs H Q E=>∃ (l:Addr) (ns:A6) (n:Nat),vs=[.ref l,.int n]/\SqL K H l (iv ns)/\ns.length < 64/\n<=1000/\(ns.Perm (rgI n)->∀ H',Same H H'->Q .non H')/\(¬ ns.Perm (rgI n)->∀ H',Same H H'->E (.ref a.f) none H')
def x9 (T:Txt K mg a):Cal P w K mg base "check_each_once" 1 ["named","size"] [] (zbx K a):=T.iy.cal λ F=>by
 refine F.okx ZE ?_ ?_
 ·walk_at "i"
 walk_at "k";refine oE3 h λ l ns n m7=>oA6 m7 λ m8 hl h64 hn kok kbad=>?_;clear m7 h;subst m8;walk_at "T";refine ⟨_,(zc (zD (zm (Xe hr.units1) (z6 zd9 zd8 (za (pq 0) zb)) (vL (zfA rfl) we (za (zhm (za (pq 1) zb)) zb)) (zt _))  (zc (qR ⟨rfl,rfl,rfl⟩ rfl (za ju zb)))  zp)),?_⟩;walk_at "a";refine iE2 l ns (iA4 rfl hl h64 (λ ms q1 hp hs hq1=>?_));walk_at "a";intro q2 hq2;refine iE3 q2 0 n (iA4 rfl nk (iA5 (by omega) (by omega) (by omega) (by omega) (by omega)) (λ q3 hq3=>?_));rw [show ((n:Int) - 0).toNat=n by omega,zfZ];walk_at "a";have sm:Same H (upd (upd (upd H q1 (.lst (iv ms))) q2 (.rng 0 n)) q3 (.lst (iv (rgI n)))):=(zf hq1).trans ((zf hq2).trans (zf hq3));refine zf0 (ms:=ms) (ns:=rgI n) (SqL.of (nB (nB nk hq2) hq3)) (SqL.of nk) ?_;walk_at "a";refine zJ (λ b1=>?_) (λ b1=>?_)
 ·refine ⟨a.f,iA3 T.kU T.ll (kbad (λ z=>b1 (Wn _ _ (hp.trans z) hs (zbM n))) _ sm)⟩
 ·walk_at "a";refine kok ?_ _ sm;have e:ms=rgI n:=fM b1;rw [<- e];exact hp.symm
noncomputable def xp (rs:At):List Int:=rs.flatMap Row.outs
noncomputable def qI (rs:At):List Int:=rs.flatMap Row.ins
noncomputable def wf (l1 l2:Addr):List (Str × V):=zP "knots" (.ref l2) (zP "belts" (.ref l1) [])
def zS (bs:A1) (rs:At):Prop:=((1<=bs.length/\bs.length<=24)/\1<=rs.length/\rs.length<=24)/\(xp rs).Perm (rgI bs.length)/\(qI rs).Perm (rgI bs.length)
def Zz (K:A0) (a:Ad):Sp:=λ vs H Q E=>∃ (y dx bl kl:Addr) (bvs mW:Ap) (bs:A1) (rs:At) (p:A5),vs=[.ref y,.ref bl,.ref kl]/\H y=some (.ins a.q dx [])/\bl≠y/\kl≠y/\(∀ b,p b->b≠y) /\
 H bl=some (.lst bvs)/\H kl=some (.lst mW)/\Bts a H p bvs bs/\Kns a H p mW rs/\(∀ b∈bs,zC b.1 b.2)/\(∀ r∈rs,r.ok)/\(xp rs).length < 64/\(qI rs).length < 64/\bs.length<=1000 /\
 (zS bs rs->∀ H' l1 l2 bvs' kvs',Own H H' y->H' y=some (.ins a.q dx (wf l1 l2))->H' l1=some (.lst bvs')->H' l2=some (.lst kvs')->Bts a H' (New H) bvs' bs->Kns a H' (New H) kvs' rs->H l1=none->H l2=none->Q .non H') /\
 (¬ zS bs rs->∀ H',Same H H'->E (.ref a.f) none H')
def zcf {rs:At} {r:Row} (h:rs[i]?=some r):xp (rs.take (i + 1))=xp (rs.take i) ++ r.outs:=by
 unfold xp;rw [aO,h,fE];simp
def WY {rs:At} {r:Row} (h:rs[i]?=some r):qI (rs.take (i + 1))=qI (rs.take i) ++ r.ins:=by
 unfold qI;rw [aO,h,fE];simp
def xu (f:Row->List Int) (rs:At) (i:Nat):((rs.take i).flatMap f).length<=(rs.flatMap f).length:=by
 conv=>rhs;rw [<- fG i rs,fE,aM]
 omega
def zb6 (xs ys:A6):iv xs ++ iv ys=iv (xs ++ ys):=by rw [iv,iv,iv,bd]
def Vz (T:Txt K mg a) (F:Fun K "__init__" "Work.__init__" jy f fd):FnOk P w K mg base (CXr P w) 5 f fd ["self","belts","knots"] (Zz K a):=by
 refine F.okx Vn ?_ ?_
 ·walk_at "i"
 walk_at "k";refine oE5 h λ y dx bl kl bvs m7=>oE4 m7 λ mW bs rs p m8=>oA9 m8 λ n6 hy nby nky hpy hb hk hB nh=>oA8 nh λ hKs hbo hro h64 h64' hlb kok kbad=>?_;clear m7 m8 nh h;subst n6;walk_at "T";refine ⟨_,(zh (zu (zx ⟨rfl,rfl,rfl⟩ hr (za (pq 1) (za (pq 2) zb))))  (zh (zo 3 Vn.nd (zI zb))  (zh (zo 4 Vn.nd (zI zb))  (zh (qo qC rfl (qp (pq 2)) (qj 5 Vn.nd)  (zh (zu (qB ao cj ci Zg (pq 3) (za (zj (pq 5) rfl) zb)))  (zc (zu (qB ao cj ci Zg (pq 4) (za (zj (pq 5) rfl) zb))))))  (zh (zu (zx ⟨rfl,rfl,rfl⟩ hr (za (pq 3) (za (z6 zY zX (za (pq 1) zb)) zb))))  (zh (zu (zx ⟨rfl,rfl,rfl⟩ hr (za (pq 4) (za (z6 zY zX (za (pq 1) zb)) zb))))  (zh (qT (pq 0) (jK (vars:=["belt"]) (caps:=[]) (N:=["belt"]) (ON:=["self","belts","knots","fed","taken","knot"]) (osc:=ze jy) rfl rfl (by first|decide +kernel|kernel_rfl) rfl rfl (qp (pq 1)) (λ s H fp m5=>(qj 0 (show (["belt"]:A8).Nodup from by decide +kernel))) (λ s H fp m5=>qk) (λ s H fp m5=>(zhn (x:="Belt") hr (za (zj (pq 0) rfl) (za (zj (pq 0) rfl) zb))))) rfl)  (zc (qT (pq 0) (jK (vars:=["knot"]) (caps:=[]) (N:=["knot"]) (ON:=["self","belts","knots","fed","taken","knot"]) (osc:=ze jy) rfl rfl (by first|decide +kernel|kernel_rfl) rfl rfl (qp (pq 2)) (λ s H fp m5=>(qj 0 (show (["knot"]:A8).Nodup from by decide +kernel))) (λ s H fp m5=>qk) (λ s H fp m5=>(zeL hr (pq 0)))) rfl))))))))),?_⟩;walk_at "a";refine uc (VW T).mono (iE4 bl kl bvs mW (iA4 rfl (SqL.of hb) (SqL.of hk) (zJ (λ b1=>?_) (λ b1=>?_))))
 rotate_left
 ·refine kbad (λ z=>b1 ?_) H (Same.refl _);rw [hB.len,hKs.len];exact z.1
 rw [hB.len,hKs.len] at b1;walk_at "a";intro fl hfl;walk_at "a";intro tl htl;have nft:fl≠tl:=nA nk htl;have htl0:H tl=none:=zT htl;walk_at "d";walk_at "a";have s2:Same H (upd (upd H fl (.lst [])) tl (.lst [])):=(zf hfl).trans (zf htl);refine ⟨kl,rfl,.inl ⟨⟨_,SqL.of (s2 _ _ hk)⟩,?_⟩⟩;let n9:Nat->St->Hp->Prop:=λ i σ H'=>∃ v5,σ=[some (.ref y),some (.ref bl),some (.ref kl),some (.ref fl),some (.ref tl),v5]/\Same H H'/\H' fl=some (.lst (iv (xp (rs.take i))))/\H' tl=some (.lst (iv (qI (rs.take i))));refine qS (K:=K) (a:=kl) (xs:=mW) n9 ⟨_,iA4 rfl s2 (nB nk htl) nk⟩ (λ i σ H' _ ⟨_,_,s,_⟩=>SqL.of (s _ _ hk)) ?_ ?_
 ·intro i x σ H' hi m9;refine oE1 m9 λ v5 m7=>oA4 m7 λ m8 s3 e1 e2=>?_;clear m7 m9;subst m8;obtain ⟨r,hr',hKn0⟩:=hKs.at hi;refine oE6 hKn0.inv λ y1 dx1 l1 l2 l3 fs m7=>oA9 m7 λ m8 p0 p1 p2 p3 h0 f1 f2 n6=>oA5 n6 λ f3 h1 h2 h3 h4=>?_;clear m7 n6;subst m8;have L1:=xu Row.outs rs i;have L2':=xu Row.ins rs i;have L3:=xu Row.outs rs (i + 1);have L4:=xu Row.ins rs (i + 1);have E1:=zcf hr';have E2:=WY hr';have n1:∀ {b:Addr} {o:HO},H b=some o->b≠fl:=λ h=>nA h hfl;have n2:∀ {b:Addr} {o:HO},H b=some o->b≠tl:=λ h=>nA h htl0;walk_at "a";refine ⟨.inl ⟨rfl,_,SqL.of e1⟩,iE5 y1 (vb a r.wd) dx1 fs _ (iA6 rfl (s3 _ _ h0) (CT T _) (NO T _) f2 ?_)⟩;refine iE4 fl l2 _ _ (iA6 rfl rfl e1 (s3 _ _ h2) ?_ ?_)
  ·refine bn (zk ?_);have:=bP List.length E1;rw [aM] at this;rw [iv,iv,af,af];unfold xp at this h64 ⊢;omega
  walk_at "a";have e2':upd H' fl (.lst (iv (xp (rs.take i)) ++ iv r.outs)) tl=some (.lst (iv (qI (rs.take i)))):=by rw [nz (aW nft)];exact e2
  refine ⟨.inl ⟨rfl,_,SqL.of e2'⟩,iE5 y1 (vb a r.wd) dx1 fs _ (iA6 rfl ?_ (CT T _) (NI T _) f1 ?_)⟩
  ·rw [nz (n1 h0)];exact s3 _ _ h0
  refine iE4 tl l1 _ (iv r.ins) (iA6 rfl rfl e2' ?_ ?_ ?_)
  ·rw [nz (n1 h1)];exact s3 _ _ h1
  ·refine bn (zk ?_);have:=bP List.length E2;rw [aM] at this;rw [iv,iv,af,af];unfold qI at this h64' ⊢;omega
  refine ⟨_,iA4 rfl (λ b o hb=>?_) ?_ ?_⟩
  ·rw [nz (n2 hb),nz (n1 hb)];exact s3 _ _ hb
  ·rw [nz nft,nk,E1,zb6]
  ·rw [nk,E2,zb6]
 ·intro σ H1 m9;refine oE1 m9 λ v5 m7=>oA4 m7 λ m8 s3 e1 e2=>?_;clear m7 m9;subst m8;rw [hKs.len,aQ] at e1 e2;walk_at "a";refine uc (x9 T).mono ⟨gJ,⟨_,⟨.inl ⟨_,SqL.of (s3 _ _ hb),rfl⟩,?_⟩⟩⟩;rw [hB.len];refine iE3 fl (xp rs) bs.length (iA6 rfl (SqL.of e1) h64 hlb (λ g1 H2 s4=>?_) (λ g1 H2 s4=>kbad (λ z=>g1 z.2.1) _ (s3.trans s4)));walk_at "a";refine uc (x9 T).mono ⟨gJ,⟨_,⟨.inl ⟨_,SqL.of (s4 _ _ (s3 _ _ hb)),rfl⟩,?_⟩⟩⟩;rw [hB.len];refine iE3 tl (qI rs) bs.length (iA6 rfl (SqL.of (s4 _ _ e2)) h64' hlb (λ g2 H3 s5=>?_) (λ g2 H3 s5=>kbad (λ z=>g2 z.2.2) _ (s3.trans (s4.trans s5))));have kok:=kok ⟨b1,g1,g2⟩;have s6:=s3.trans (s4.trans s5);clear s3 s4 s5 e1 e2;clear g1 g2;walk_at "a";walk_at "e";walk_at "a";refine ⟨bl,rfl,.inl ⟨⟨_,SqL.of (s6 _ _ hb)⟩,λ _ _ _ _ mY hacc=>?_⟩⟩;have nacc:H mY=none:=zB s6 hacc;let ni:Nat->St->Hp->Prop:=λ i σ H'=>∃ v us,σ=[v]/\Same H3 H'/\H' mY=some (.lst us)/\Bts a H' (λ b=>H3 b=none/\b≠mY) us (bs.take i);refine qS (K:=K) (a:=bl) (xs:=bvs) ni (iE2 _ ([]) (iA4 rfl (zf hacc) nk (by rw [bX];exact .nil))) (λ i σ H' _ ⟨_,_,_,s,_⟩=>SqL.of (s _ _ (s6 _ _ hb))) ?_ ?_
  ·intro i x σ H' hi m9;refine oE2 m9 λ v us m7=>oA4 m7 λ m8 s7 e1 hU=>?_;clear m7 m9;subst m8;obtain ⟨⟨rm,pc⟩,hr',hBt0⟩:=hB.at hi;refine oE3 hBt0.inv λ y1 dx1 fs m7=>oA5 m7 λ m8 p0 h0 f1 f2=>?_;clear m7;subst m8;have hok:=hbo _ (ah hr');have hil:i < bs.length:=(aa.mp hr').1;have h0':=s7 _ _ (s6 _ _ h0);walk_at "a";refine iE4 a.i _ _ _ ⟨(ZS T).mono,iE5 y1 a.i dx1 fs _ (iA6 rfl h0' T.iu T.io f1 (iE5 y1 a.i dx1 fs _ (iA6 rfl h0' T.iu T.g6 f2 ?_)))⟩;intro z dz hz hdz hne;refine iE4 z dz rm pc (iA3 rfl nk ?_);rw [ap hok,vY];have sN:Same H' (upd (upd H' dz (.own z)) z (.ins a.i dz (bf rm pc))):=λ b o h=>by rw [nz (nA h hz),nz (nA h hdz)];exact h
   have hz':upd (upd H' dz (.own z)) z (.ins a.i dz (bf rm pc)) z=some (.ins a.i dz (bf rm pc)):=nk;generalize upd (upd H' dz (.own z)) z (.ins a.i dz (bf rm pc))=H4 at sN hz' ⊢;have hzn:z≠mY:=λ q=>by rw [q,e1] at hz;cases hz
   refine ⟨rfl,⟨_,iA3 (sN _ _ e1) (zk (by have:=hU.len;rw [aR] at this;omega)) (iE2 _ (us ++ [.ref z]) (iA4 rfl (λ b o hb=>?_) nk ?_))⟩⟩
   ·rw [nz (nA hb hacc)];exact sN _ _ (s7 _ _ hb)
   ·rw [aO,hr'];refine Bts.push (hU.keep λ b o hp hb=>⟨hp,by rw [nz hp.2];exact sN _ _ hb⟩) (zgY (p:=λ b=>H3 b=none/\b≠mY) ⟨zB s7 hz,hzn⟩ (by rw [nz hzn];exact hz'))
  ·intro σ H4 m9;refine oE2 m9 λ v us m7=>oA4 m7 λ m8 s7 e1 hU=>?_;clear m7 m9;subst m8;rw [hB.len,aQ] at hU;have s8:=s6.trans s7;have nacy:mY≠y:=(nA hy nacc).symm;walk_at "a";refine iE4 y a.q dx ([]) (iA6 rfl (s8 _ _ hy) T.gz T.gA (by decide) ?_);have o9:Own H (upd H4 y (.ins a.q dx (zP "belts" (.ref mY) []))) y:=(Same.own s8).trans js;have hy9:upd H4 y (.ins a.q dx (zP "belts" (.ref mY) [])) y=some (.ins a.q dx (zP "belts" (.ref mY) [])):=nk;have e9:upd H4 y (.ins a.q dx (zP "belts" (.ref mY) [])) mY=some (.lst us):=by rw [nz nacy];exact e1
   have hU9:Bts a (upd H4 y (.ins a.q dx (zP "belts" (.ref mY) []))) (λ b=>H b=none/\b≠y) us bs:=hU.keep λ b o hp hb=>by
    have q1:H b=none:=zB s6 hp.1;have q2:b≠y:=(nA hy q1).symm;exact ⟨⟨q1,q2⟩,by rw [nz q2];exact hb⟩
   generalize upd H4 y (.ins a.q dx (zP "belts" (.ref mY) []))=H5 at o9 hy9 e9 hU9 ⊢;walk_at "a";walk_at "e";walk_at "a";refine ⟨kl,rfl,.inl ⟨⟨_,SqL.of (o9 _ _ nky hk)⟩,λ _ _ _ _ ac2 hac2=>?_⟩⟩;let nj:Nat->St->Hp->Prop:=λ i σ H'=>∃ v us2,σ=[v]/\Same H5 H'/\H' ac2=some (.lst us2)/\Kns a H' (λ b=>H5 b=none/\b≠ac2) us2 (rs.take i);refine qS (K:=K) (a:=kl) (xs:=mW) nj (iE2 _ ([]) (iA4 rfl (zf hac2) nk (by rw [bX];exact .nil))) (λ i σ H' _ ⟨_,_,_,s,_⟩=>SqL.of (s _ _ (o9 _ _ nky hk))) ?_ ?_
   ·intro i x σ H' hi m9;refine oE2 m9 λ v us2 m7=>oA4 m7 λ m8 s10 e2 hV=>?_;clear m7 m9;subst m8;obtain ⟨r,hr',hKn⟩:=hKs.at hi;have hok:=hro _ (ah hr');have hil:i < rs.length:=(aa.mp hr').1;have hKn':KnP a H' p x r:=hKn.keep λ b o hp hb=>⟨hp,s10 _ _ (o9 _ _ (hpy b hp) hb)⟩;refine oE6 hKn'.inv λ y1 dx1 l1 l2 l3 fs m7=>oA9 m7 λ m8 p0 p1 p2 p3 h0 f1 f2 n6=>oA5 n6 λ f3 h1 h2 h3 h4=>?_;clear m7 n6;subst m8;walk_at "a";refine iE7 y1 (vb a r.wd) dx1 fs _ _ _ (iA5 rfl h0 f3 ((zeZ T r.wd).mono) ?_);refine iE3 y1 r p (iA5 rfl hKn' rfl hok (λ v' H6 s11 hN=>?_));refine ⟨_,iA3 (s11 _ _ e2) (zk (by have:=hV.len;rw [aR] at this;omega)) (iE2 _ (us2 ++ [v']) (iA4 rfl (λ b o hb=>?_) nk ?_))⟩
    ·rw [nz (nA hb hac2)];exact s11 _ _ (s10 _ _ hb)
    ·rw [aO,hr'];refine Kns.append (hV.keep λ b o hp hb=>⟨hp,by rw [nz hp.2];exact s11 _ _ hb⟩) (Kns.one (hN.keep λ b o hp hb=>?_));have q2:b≠ac2:=λ z=>by rw [z] at hp;rw [New,e2] at hp;cases hp
     exact ⟨⟨zB s10 hp,q2⟩,by rw [nz q2];exact hb⟩
   ·intro σ H6 m9;refine oE2 m9 λ v us2 m7=>oA4 m7 λ m8 s10 e2 hV=>?_;clear m7 m9;subst m8;rw [hKs.len,aQ] at hV;have hy10:=s10 _ _ hy9;walk_at "a";refine iE4 y a.q dx _ (iA6 rfl hy10 T.gz T.gy (by show 1 < 1000;decide) ?_);have n2y:ac2≠y:=λ z=>by rw [z,hy9] at hac2;cases hac2
    have ho:∀ b,H5 b=none->b≠y->H b=none:=λ b h1 h2=>by
     cases e:H b with
     | none=>rfl
     | some o=>rw [o9 b o h2 e] at h1;cases h1
    refine kok _ mY ac2 us us2 ((o9.trans (Same.own s10)).trans js) nk ?_ ?_ ?_ ?_ nacc (ho _ hac2 n2y)
    ·rw [nz nacy];exact s10 _ _ e9
    ·rw [nz n2y];exact e2
    ·exact hU9.keep λ b o hp hb=>⟨hp.1,by rw [nz hp.2];exact s10 _ _ hb⟩
    ·refine hV.keep λ b o hp hb=>?_;have q:b≠y:=λ z=>by rw [z,hy9] at hp;cases hp.1
     exact ⟨ho b hp.1 q,by rw [nz q];exact hb⟩
def zb5 (T:Txt K mg a):KCal P w K mg base "Work" a.q 5 ["self","belts","knots"] [] (Zz K a):=T.lF.cal T.mT (Vz T)
noncomputable def ziI (b:Int × Int):D:=.tup [.int b.1,.int b.2]
def Vs (n:Nat):(rgI n).length=n:=by simp [rgI]
def zaw (n:Nat):rgI (n + 1)=rgI n ++ [(n:Int)]:=by simp [rgI,range_succ]
def zy (ns:A6):(iv ns).length=ns.length:=by rw [iv,af]
def Qj {x:V} (h:(iv ns)[i]?=some x):∃ n,ns[i]?=some n/\x=.int n:=by
 rw [iv,aj,au] at h;obtain ⟨n,h1,h2⟩:=h;exact ⟨n,h1,h2.symm⟩
def jf (h:ns[i]?=some n):(iv ns)[i]?=some (.int n):=by rw [iv,aj,h];rfl
def Xx (ns:A6) (k:Nat):(iv ns).eraseIdx k=iv (ns.eraseIdx k):=by
 induction ns generalizing k with
 | nil=>simp [iv]
 | cons n ns ih =>
  cases k with
  | zero=>simp [iv]
  | succ k=>simpa [iv] using ih k
def qP (ns:A6) (n:Int):iv ns ++ [.int n]=iv (ns ++ [n]):=by simp [iv]
abbrev ms4 (L R E B:Addr):List Addr:=[L,R,E,B]
structure WInv (bs:A1) (rs:At) (es ks:A6):Prop where
 tk:(qI rs ++ es).Perm (rgI bs.length)
 fd:(xp rs ++ ks).Perm (rgI bs.length)
 ro:∀ r∈rs,r.ok
 bo:∀ b∈bs,zC b.1 b.2
def zcg (rs:At) (r:Row):xp (rs ++ [r])=xp rs ++ r.outs:=by simp [xp]
def WZ (rs:At) (r:Row):qI (rs ++ [r])=qI rs ++ r.ins:=by simp [qI]
def VQ {us:Ap} {n:Nat} (h:us.length=n + 1):∃ a vs,us=a :: vs/\vs.length=n:=by
 cases us with
 | nil=>cases h
 | cons a vs=>exact ⟨a,vs,rfl,Nat.succ.inj h⟩
def two_of {us:Ap} (h:us.length=2):∃ a b,us=[a,b]:=by
 obtain ⟨a,_,rfl,h1⟩:=VQ h;obtain ⟨b,_,rfl,h2⟩:=VQ h1;exact ⟨a,b,by rw [bw.mp h2]⟩
theorem Z6:∀ {es:A6} {j:Nat} {y:Int},es[j]?=some y->(y :: es.eraseIdx j).Perm es
 | [],_,_,h=>by simp at h
 | e :: es,0,y,h=>by
  have h:e=y:=by simpa using h
  subst h;simp
 | e :: es,j + 1,y,h=>by
  have ih:=Z6 (es:=es) (j:=j) (y:=y) (by simpa using h);rw [List.eraseIdx_cons_succ];exact (List.Perm.swap e y _).trans (ih.cons e)
def zgl {n:Nat} {x:Int} (h:x∈rgI n):0<=x/\x < n:=by
 unfold rgI at h;obtain ⟨i,hi,rfl⟩:=bc.mp h;have:=dM.mp hi;omega
def zcW {α:Type} {xs:List α} {x:α} (h:xs[i]?=some x):xs.drop i=x :: xs.drop (i + 1):=by
 obtain ⟨hi,rfl⟩:=aa.mp h;exact List.drop_eq_getElem_cons hi
def vM {b:Int × Int} (h:Rep H p v (ziI b)):∃ t,v=.ref t/\H t=some (.tup [.int b.1,.int b.2]):=by
 obtain ⟨t,us,rfl,_,ht,rr⟩:=Rep.tup' h;have g:=rr.g;obtain ⟨x0,x1,rfl⟩:=two_of rr.len;have a0:=g 0 x0 _ rfl rfl;have a1:=g 1 x1 _ rfl rfl;cases a0;cases a1;exact ⟨t,rfl,ht⟩
noncomputable def qE (a:Ad) (bs:A1) (rs:At):D:=.ob a.q [("belts",.lst (bs.map (Zu a))),("knots",.lst (rs.map (vp a)))]
def zh6 {l1 l2:Addr}:wf l1 l2=([(("belts":Str),V.ref l1),(("knots":Str),V.ref l2)]:Ar):=by
 unfold wf;simp only [zP];rw [am (by decide +kernel)]
def V1 {a:Ad} {rs:At}:([("belts",.lst (bs.map (Zu a))),("knots",.lst (rs.map (vp a)))]:List (Str × D)).lookup ("belts":Str)=some (.lst (bs.map (Zu a))):=je
def zee {a:Ad} {rs:At}:([("belts",.lst (bs.map (Zu a))),("knots",.lst (rs.map (vp a)))]:List (Str × D)).lookup ("knots":Str)=some (.lst (rs.map (vp a))):=(zV (by decide +kernel)).trans je
def zh5 {a:Ad} {rs:At} {f:Str} (h1:f≠"belts") (h2:f≠"knots"):([("belts",.lst (bs.map (Zu a))),("knots",.lst (rs.map (vp a)))]:List (Str × D)).lookup f=none:=(zV h1).trans (zV h2)
def zeT {x b:Addr} (h:H x=some o) (hb:H b=none):b ∉ [x]:=λ z=>by rw [ar.mp z,h] at hb;cases hb
section
variable {H:Hp} {z dz:Addr} {Q:VK} {EX:XK}
def Zh {rm pc:Int} (hz:H z=none) (hdz:H dz=none) (ok:zC rm pc) (k:∀ H',Same H H'->BtP a H' (New H) (.ref z) (rm,pc)->Q .non H'):ZA a.i a.d [.ref z,.int rm,.int pc] (upd (upd H dz (.own z)) z (.ins a.i dz [])) Q EX:=by
 refine iE4 z dz rm pc (iA3 rfl nk ?_);rw [ap ok,vY];exact k _ (λ b o h=>by rw [nz (nA h hz),nz (nA h hdz)];exact h) (zgY hz nk)
def Qa {y pc:Int} (hz:H z=none) (hdz:H dz=none) (h0:0<=pc) (h4:pc<=4) (k:∀ H',Same H H'->KnP a H' (New H) (.ref z) ⟨.drain,[y],[],pc,[]⟩->Q .non H'):vE a.l a.e [.ref z,.int y,.int pc] (upd (upd H dz (.own z)) z (.ins a.l dz [])) Q EX:=by
 refine iE4 z dz (.int y) pc (iA3 rfl nk ?_);rw [ap ⟨h0,h4⟩];intro H' m1 m2 s' g1 g2 g3 n1 n2;exact k _ (Own.of_new hz hdz s') (zaX (p:=New H) (ins:=[y]) (outs:=[]) hz (zK n1) (zK n2) g1 g2 g3)
def QM {y pc:Int} {kd:A6} (hz:H z=none) (hdz:H dz=none) (hl:H l=some (.lst (iv kd))) (h1:1<=pc) (h4:pc<=4) (k1:1<=kd.length) (k6:kd.length<=6) (kk:xR kd) (k:∀ H',Same H H'->KnP a H' (New H) (.ref z) ⟨.source,[],[y],pc,kd⟩->Q .non H'):wG K a.k a.e [.ref z,.int y,.int pc,.ref l] (upd (upd H dz (.own z)) z (.ins a.k dz [])) Q EX:=by
 refine iE6 z dz l (.int y) pc kd (iA6 rfl nk (SqL.of (qx hz hdz hl)) (nA hl hz) (λ _ H' m1 m2 m3 s' g1 g2 g3 g4 n1 n2 n3=>?_) (λ hbad=>absurd (iA5 h1 h4 k1 k6 kk) hbad));exact k _ (Own.of_new hz hdz s') (WB (p:=New H) (ins:=[]) (outs:=[y]) hz (zK n1) (zK n2) (zK n3) g1 g2 g3 g4)
def Wv {y:Int} (hz:H z=none) (hdz:H dz=none) (hl:H l=some (.lst (iv outs))) (h2:2<=outs.length) (h4:outs.length<=4) (k:∀ H',Same H H'->KnP a H' (New H) (.ref z) ⟨.parter,[y],outs,0,[]⟩->Q .non H'):ji K a.m a.e [.ref z,.int y,.ref l] (upd (upd H dz (.own z)) z (.ins a.m dz [])) Q EX:=by
 refine iE5 z dz l (.int y) (iv outs) (iA5 rfl nk (SqL.of (qx hz hdz hl)) (nA hl hz) ?_);rw [ap (by rw [zy];exact ⟨h2,h4⟩)];intro H' m1 m2 s' g1 g2 g3 n1 n2;exact k _ (Own.of_new hz hdz s') (WC (p:=New H) (ins:=[y]) (outs:=outs) hz (zK n1) (zK n2) g1 g2 g3)
def zeY {y:Int} (hz:H z=none) (hdz:H dz=none) (hl:H l=some (.lst (iv outs))) (h2:2<=outs.length) (h4:outs.length<=4) (k:∀ H',Same H H'->KnP a H' (New H) (.ref z) ⟨.first,[y],outs,0,[]⟩->Q .non H'):ji K a.n a.e [.ref z,.int y,.ref l] (upd (upd H dz (.own z)) z (.ins a.n dz [])) Q EX:=by
 refine iE5 z dz l (.int y) (iv outs) (iA5 rfl nk (SqL.of (qx hz hdz hl)) (nA hl hz) ?_);rw [ap (by rw [zy];exact ⟨h2,h4⟩)];intro H' m1 m2 s' g1 g2 g3 n1 n2;exact k _ (Own.of_new hz hdz s') (zaW (p:=New H) (ins:=[y]) (outs:=outs) hz (zK n1) (zK n2) g1 g2 g3)
def zeX {y kk:Int} (hz:H z=none) (hdz:H dz=none) (hl:H l=some (.lst (iv outs))) (h2:outs.length=2) (k0:0<=kk) (k1:kk < jH) (k:∀ H',Same H H'->KnP a H' (New H) (.ref z) ⟨.sieve,[y],outs,0,[kk]⟩->Q .non H'):vD K a.o a.e [.ref z,.int y,.ref l,.int kk] (upd (upd H dz (.own z)) z (.ins a.o dz [])) Q EX:=by
 refine iE6 z dz l (.int y) (iv outs) kk (iA5 rfl nk (SqL.of (qx hz hdz hl)) (nA hl hz) ?_);rw [ap (by rw [zy];exact ⟨h2,k0,k1⟩)];intro H' m1 m2 s' g1 g2 g3 n1 n2;exact k _ (Own.of_new hz hdz s') (zaV (p:=New H) (ins:=[y]) (outs:=outs) hz (zK n1) (zK n2) g1 g2 g3)
def Ww {y:Int} {ins:A6} (hz:H z=none) (hdz:H dz=none) (hl:H l=some (.lst (iv ins))) (h2:2<=ins.length) (h4:ins.length<=4) (k:∀ H',Same H H'->KnP a H' (New H) (.ref z) ⟨.joiner,ins,[y],0,[]⟩->Q .non H'):wH K a.p a.e [.ref z,.ref l,.int y] (upd (upd H dz (.own z)) z (.ins a.p dz [])) Q EX:=by
 refine iE5 z dz l (.int y) (iv ins) (iA5 rfl nk (SqL.of (qx hz hdz hl)) (nA hl hz) ?_);rw [ap (by rw [zy];exact ⟨h2,h4⟩)];intro H' m1 m2 s' g1 g2 g3 n1 n2;exact k _ (Own.of_new hz hdz s') (WD (p:=New H) (ins:=ins) (outs:=[y]) hz (zK n1) (zK n2) g1 g2 g3)
end
def WInv.knot {rs:At} {es ks es' ks':A6} {r:Row} (h:WInv bs rs es ks) (pe:(r.ins ++ es').Perm es) (pk:(r.outs ++ ks').Perm ks) (ok:r.ok):WInv bs (rs ++ [r]) es' ks':=by
 refine ⟨?_,?_,λ x hx=>?_,h.bo⟩
 ·rw [WZ,bK];exact (bL _ pe).trans h.tk
 ·rw [zcg,bK];exact (bL _ pk).trans h.fd
 ·rcases aF.mp hx with hx|hx
  ·exact h.ro x hx
  ·rw [ar.mp hx];exact ok
def WInv.perm {rs:At} {es ks es' ks':A6} (h:WInv bs rs es ks) (pe:es'.Perm es) (pk:ks'.Perm ks):WInv bs rs es' ks':=⟨(bL _ pe).trans h.tk,(bL _ pk).trans h.fd,h.ro,h.bo⟩
def WInv.belt {rs:At} {es ks:A6} {b:Int × Int} (h:WInv bs rs es ks) (hb:zC b.1 b.2):WInv (bs ++ [b]) rs (es ++ [(bs.length:Int)]) (ks ++ [(bs.length:Int)]):=by
 refine ⟨?_,?_,h.ro,λ x hx=>?_⟩
 ·rw [aM,cQ,zaw,<- bK];exact cy _ h.tk
 ·rw [aM,cQ,zaw,<- bK];exact cy _ h.fd
 ·rcases aF.mp hx with hx|hx
  ·exact h.bo x hx
  ·rw [ar.mp hx];exact hb
structure GS (a:Ad) (ms:Ab) (H0 H:Hp) (L R E B:Addr) (bs:A1) (rs:At) (es ks:A6):Prop where
 f:Fr (ms4 L R E B) H0 H
 nLR:L≠R
 nLE:L≠E
 nLB:L≠B
 nRE:R≠E
 nRB:R≠B
 nEB:E≠B
 m:∀ b∈ms4 L R E B,b∈ms
 hs:∀ b∈ms,∃ xs,H b=some (.lst xs)
 hL:∃ bvs,H L=some (.lst bvs)/\Reps H (Off ms) bvs (bs.map (Zu a))
 hR:∃ rvs,H R=some (.lst rvs)/\Reps H (Off ms) rvs (rs.map (vp a))
 hE:H E=some (.lst (iv es))
 hB:H B=some (.lst (iv ks))
section
variable {ms:Ab} {H0 H H':Hp} {L R E B:Addr} {bs bs':A1} {rs rs':At} {es ks es' ks':A6}
def GS.same (w:GS a ms H0 H L R E B bs rs es ks) (s:Same H H'):GS a ms H0 H' L R E B bs rs es ks:=by
 obtain ⟨bvs,h1,r1⟩:=w.hL;obtain ⟨rvs,h2,r2⟩:=w.hR;exact { w with f:=w.f.trans s.fr,hs:=λ b hb=>by obtain ⟨xs,h⟩:=w.hs b hb;exact ⟨xs,s _ _ h⟩,hL:=⟨bvs,s _ _ h1,r1.same s⟩,hR:=⟨rvs,s _ _ h2,r2.same s⟩,hE:=s _ _ w.hE,hB:=s _ _ w.hB }
def GS.off (w:GS a ms H0 H L R E B bs rs es ks) (h:H x=none):x ∉ ms:=λ z=>by
 obtain ⟨xs,hx⟩:=w.hs x z;rw [hx] at h;cases h
def GS.here (w:GS a ms H0 H L R E B bs rs es ks):GS a ms H H L R E B bs rs es ks:={ w with f:=Fr.refl }
def GS.trans (w:GS a ms H0 H L R E B bs rs es ks) (v:GS a ms H H' L R E B bs' rs' es' ks'):GS a ms H0 H' L R E B bs' rs' es' ks':={ v with f:=w.f.trans v.f }
def XA (h:∀ b∈ms,∃ xs,H b=some (.lst xs)):∀ b∈ms,∃ ys,upd H x (.lst xs) b=some (.lst ys):=λ b hb=>by
 by_cases e:b=x
 ·subst e;exact ⟨_,nk⟩
 ·obtain ⟨ys,h⟩:=h b hb;exact ⟨ys,by rw [nz e];exact h⟩
def GS.setE (w:GS a ms H0 H L R E B bs rs es ks) (es':A6):GS a ms H0 (upd H E (.lst (iv es'))) L R E B bs rs es' ks:=by
 obtain ⟨bvs,h1,r1⟩:=w.hL;obtain ⟨rvs,h2,r2⟩:=w.hR;have f:Fr ms H (upd H E (.lst (iv es'))):=qz (w.m E (by simp));exact { w with f:=w.f.trans (qz (by simp)),hs:=XA w.hs,hL:=⟨bvs,by rw [nz w.nLE];exact h1,r1.fr f⟩,hR:=⟨rvs,by rw [nz w.nRE];exact h2,r2.fr f⟩,hE:=nk,hB:=by rw [nz w.nEB.symm];exact w.hB }
def GS.setB (w:GS a ms H0 H L R E B bs rs es ks) (ks':A6):GS a ms H0 (upd H B (.lst (iv ks'))) L R E B bs rs es ks':=by
 obtain ⟨bvs,h1,r1⟩:=w.hL;obtain ⟨rvs,h2,r2⟩:=w.hR;have f:Fr ms H (upd H B (.lst (iv ks'))):=qz (w.m B (by simp));exact { w with f:=w.f.trans (qz (by simp)),hs:=XA w.hs,hL:=⟨bvs,by rw [nz w.nLB];exact h1,r1.fr f⟩,hR:=⟨rvs,by rw [nz w.nRB];exact h2,r2.fr f⟩,hE:=by rw [nz w.nEB];exact w.hE,hB:=nk }
def GS.setX (w:GS a ms H0 H L R E B bs rs es ks) (hx:x∈ms) (nx:x ∉ ms4 L R E B) (h0:H0 x=none):GS a ms H0 (upd H x (.lst xs)) L R E B bs rs es ks:=by
 obtain ⟨bvs,h1,r1⟩:=w.hL;obtain ⟨rvs,h2,r2⟩:=w.hR;have f:Fr ms H (upd H x (.lst xs)):=qz hx;have n:∀ b∈ms4 L R E B,b≠x:=λ b hb z=>nx (by rw [<- z];exact hb);refine { w with f:=λ b o nb hb=>?_,hs:=XA w.hs,hL:=⟨bvs,by rw [nz (n L (by simp))];exact h1,r1.fr f⟩,hR:=⟨rvs,by rw [nz (n R (by simp))];exact h2,r2.fr f⟩,hE:=by rw [nz (n E (by simp))];exact w.hE,hB:=by rw [nz (n B (by simp))];exact w.hB };rw [nz (λ z=>by rw [z,h0] at hb;cases hb)];exact w.f b o nb hb
def GS.ext (w:GS a ms H0 H L R E B bs rs es ks) (hx:H x=none):GS a (x :: ms) H0 (upd H x (.lst xs)) L R E B bs rs es ks/\x ∉ ms4 L R E B:=by
 have w1:=w.same (zf (o:=.lst xs) hx);have nx:=w.off hx;obtain ⟨bvs,h1,r1⟩:=w.hL;obtain ⟨rvs,h2,r2⟩:=w.hR;have s:=zf (o:=.lst xs) hx;have mo:∀ b∈x :: ms,b∈ms\/H b=none:=λ b hb=>by
  rcases aw.mp hb with rfl|hb
  ·exact .inr hx
  ·exact .inl hb
 refine ⟨{ w1 with m:=λ b hb=>aB _ (w.m b hb),hs:=λ b hb=>?_,hL:=⟨bvs,s _ _ h1,(r1.more mo).same s⟩,hR:=⟨rvs,s _ _ h2,(r2.more mo).same s⟩ },λ z=>nx (w.m x z)⟩;rcases aw.mp hb with rfl|hb
 ·exact ⟨_,nk⟩
 ·exact w1.hs b hb
def GS.less (w:GS a (x :: ms) H0 H L R E B bs rs es ks) (nx:x ∉ ms4 L R E B):GS a ms H0 H L R E B bs rs es ks:=by
 obtain ⟨bvs,h1,r1⟩:=w.hL;obtain ⟨rvs,h2,r2⟩:=w.hR;have mo:∀ b∈ms,b∈x :: ms\/H b=none:=λ b hb=>.inl (aB _ hb);refine { w with m:=λ b hb=>?_,hs:=λ b hb=>w.hs b (aB _ hb),hL:=⟨bvs,h1,r1.more mo⟩,hR:=⟨rvs,h2,r2.more mo⟩ };rcases aw.mp (w.m b hb) with rfl|h
 ·exact absurd hb nx
 ·exact h
def GS.addL (w:GS a ms H0 H L R E B bs rs es ks) {H1:Hp} {b:Int × Int} {bvs:Ap} (e:H L=some (.lst bvs)) (s:Same H H1) (q:BtP a H1 (New H) v b):GS a ms H0 (upd H1 L (.lst (bvs ++ [v]))) L R E B (bs ++ [b]) rs es ks/\bvs.length=bs.length:=by
 have w1:=w.same s;obtain ⟨bvs',h1,r1⟩:=w1.hL;rw [s _ _ e] at h1;cases h1;obtain ⟨rvs,h2,r2⟩:=w1.hR;have f:Fr ms H1 (upd H1 L (.lst (bvs ++ [v]))):=qz (w.m L (by simp));refine ⟨{ w1 with f:=w1.f.trans (qz (by simp)),hs:=XA w1.hs,hL:=⟨_,nk,?_⟩,hR:=⟨rvs,by rw [nz w.nLR.symm];exact h2,r2.fr f⟩,hE:=by rw [nz w.nLE.symm];exact w1.hE,hB:=by rw [nz w.nLB.symm];exact w1.hB },by rw [r1.len,af]⟩;rw [bd];exact (r1.fr f).append (.one (Rep.fr (q.keep λ b o hb ho=>⟨w.off hb,ho⟩) f))
def GS.addR (w:GS a ms H0 H L R E B bs rs es ks) {H1:Hp} {r:Row} {rvs:Ap} (e:H R=some (.lst rvs)) (s:Same H H1) (q:KnP a H1 (Off ms) v r):GS a ms H0 (upd H1 R (.lst (rvs ++ [v]))) L R E B bs (rs ++ [r]) es ks/\rvs.length=rs.length:=by
 have w1:=w.same s;obtain ⟨bvs,h1,r1⟩:=w1.hL;obtain ⟨rvs',h2,r2⟩:=w1.hR;rw [s _ _ e] at h2;cases h2;have f:Fr ms H1 (upd H1 R (.lst (rvs ++ [v]))):=qz (w.m R (by simp));refine ⟨{ w1 with f:=w1.f.trans (qz (by simp)),hs:=XA w1.hs,hL:=⟨bvs,by rw [nz w.nLR];exact h1,r1.fr f⟩,hR:=⟨_,nk,?_⟩,hE:=by rw [nz w.nRE.symm];exact w1.hE,hB:=by rw [nz w.nRB.symm];exact w1.hB },by rw [r2.len,af]⟩;rw [bd];exact (r2.fr f).append (.one (Rep.fr q f))
def GS.newK (w:GS a ms H0 H L R E B bs rs es ks) {H1:Hp} {r:Row} (q:KnP a H1 (New H) v r):KnP a H1 (Off ms) v r:=q.keep λ b o hb ho=>⟨w.off hb,ho⟩
end
def zgs {A C P G:Prop} [Decidable A] (p:A\/C->P) (g:¬ A->(C->P)->G):if A then P else G:=by
 by_cases a:A
 ·rw [ap a];exact p (.inl a)
 ·rw [am a];exact g a λ c=>p (.inr c)
def Z4 {α:Type} (xs:List α) (k:Nat):(xs.drop k ++ xs.take k).Perm xs:=by
 refine List.perm_append_comm.trans ?_;rw [fG]
def za4 (xs:Ap) (k:Nat) (h:k<=xs.length):Zq xs (some (k:Int)) none=xs.drop k:=by
 unfold Zq;rw [HT.sIx_nat,HT.sIx_none,Nat.min_eq_left h];exact cG (by rw [dn];omega)
def XG (xs:Ap) (n:Nat):Zq xs none (some (n:Int))=xs.take n:=by
 have h:=HT.sIx_nat xs.length xs.length n;unfold Zq;rw [HT.sIx_none,h,Nat.sub_zero,List.drop_zero];by_cases e:n<=xs.length
 ·rw [Nat.min_eq_left e]
 ·rw [Nat.min_eq_right (by omega),aQ,cG (by omega)]
def zhT (ns:A6) (m:Nat):∃ cs:List Int,Zq (iv ns) (some 1) (some (1 + (m:Int)))=iv cs/\cs.length<=m:=by
 unfold Zq;rw [show (1:Int) + (m:Int)=((1 + m:Nat):Int) by omega,show (some (1:Int))=some ((1:Nat):Int) from rfl,HT.sIx_nat,HT.sIx_nat,zy];refine ⟨(ns.drop (min 1 ns.length)).take (min (1 + m) ns.length - min 1 ns.length),by simp [iv],?_⟩;rw [aR];omega
def VD {z dz L R:Addr} {Q:VK} {EX:XK} {bvs rvs:Ap} {rs:At} {p q:A5} (hz:H z=none) (hdz:H dz=none) (hL:H L=some (.lst bvs)) (hR:H R=some (.lst rvs)) (rB:Reps H p bvs (bs.map (Zu a))) (rK:Reps H q rvs (rs.map (vp a))) (mZ:zS bs rs) (bo:∀ b∈bs,zC b.1 b.2) (ro:∀ r∈rs,r.ok)
  (k:∀ H',Same H H'->Rep H' (Off []) (.ref z) (qE a bs rs)->Q .non H'):Zz K a [.ref z,.ref L,.ref R] (upd (upd H dz (.own z)) z (.ins a.q dz [])) Q EX:=by
 have lb:=mZ.1.1.2;refine ⟨z,dz,L,R,bvs,rvs,bs,rs,λ b=>b≠z,rfl,nk,nA hL hz,nA hR hz,λ _ h=>h,qx hz hdz hL,qx hz hdz hR,
  (Bts.of rB).keep λ b o _ hb=>⟨nA hb hz,qx hz hdz hb⟩,(Kns.of rK).keep λ b o _ hb=>⟨nA hb hz,qx hz hdz hb⟩,bo,ro,by rw [mZ.2.1.length_eq,Vs];omega,by rw [mZ.2.2.length_eq,Vs];omega,by omega,λ _ H4 m1 m2 bv kv o4 g0 g1 g2 gB gK n1 n2=>?_,λ y=>absurd mZ y⟩
 refine k _ (Own.of_new hz hdz o4) ?_;rw [zh6] at g0;exact wV (λ z=>nomatch z) g0 rfl (.cons (gB.reps.all.mk' (λ z=>nomatch z) g1) (.cons (gK.reps.all.mk' (λ z=>nomatch z) g2) .nil))
def WInv.work {rs rs':At} (h:WInv bs rs [] []) (pm:rs'.Perm rs) (b24:bs.length<=24) (r1:1<=rs.length) (r24:rs.length<=24):zS bs rs'/\(∀ r∈rs',r.ok):=by
 have tk:=h.tk;have fd:=h.fd;rw [bU] at tk fd;have pl:=pm.length_eq;have b1:1<=bs.length:=by
  obtain ⟨r,rs0,rfl⟩:=cO (eU (by omega:0 < rs.length));have ok:=h.ro r (by simp);have lt:=tk.length_eq;have lf:=fd.length_eq;rw [Vs] at lt lf;have e1:(qI (r :: rs0)).length=r.ins.length + (qI rs0).length:=by simp [qI]
  have e2:(xp (r :: rs0)).length=r.outs.length + (xp rs0).length:=by simp [xp]
  have:1<=r.ins.length + r.outs.length:=by
   obtain ⟨wd,ins,outs,pc,kd⟩:=r;cases wd
   ·obtain ⟨_,⟨o,q⟩,_⟩:=ok;simp only at q;subst q;simp
   ·obtain ⟨⟨o,q⟩,_⟩:=ok;simp only at q;subst q;simp
   ·obtain ⟨⟨o,q⟩,_⟩:=ok;simp only at q;subst q;simp
   ·obtain ⟨⟨o,q⟩,_⟩:=ok;simp only at q;subst q;simp
   ·obtain ⟨⟨o,q⟩,_⟩:=ok;simp only at q;subst q;simp
   ·obtain ⟨⟨o,q⟩,_⟩:=ok;simp only at q;subst q;simp
  omega
 refine ⟨⟨⟨⟨b1,b24⟩,by omega,by omega⟩,?_,?_⟩,λ r hr=>h.ro r (pm.mem_iff.mp hr)⟩
 ·exact (pm.flatMap_right _).trans fd
 ·exact (pm.flatMap_right _).trans tk
noncomputable def Q4 (ns:A6) (k:Nat):Int:=ns.getD k 0
def zg8 (K:A0):Sp:=λ vs H Q _=>∃ (l:Addr) (ns:A6) (k:Nat),vs=[.ref l,.int k]/\SqL K H l (ns.map V.int)/\Q (.int (Q4 ns k)) H
def zfz (T:Txt K mg a):Cal P w K mg base "_law_at" 1 ["_law_script","_law_k"] [] (zg8 K):=T.mR.cal λ F=>by
 refine F.okx zfV ?_ ?_
 ·walk_at "i"
 walk_at "k";refine oE3 h λ l ns n m7=>oA3 m7 λ m8 hl k=>?_;clear m7 h;subst m8;walk_at "T";refine ⟨_,(zg (zD (zm Zr (pq 1) (z6 zY zX (za (pq 0) zb)) (zt _))  (zc (zl (zn (pq 0) (pq 1))))  zp)  (zc (zl zd))),?_⟩;walk_at "a";refine ⟨_,.inl ⟨_,hl,rfl⟩,?_⟩;walk_at "r";rw [af];refine zJ (λ h=>?_) (λ h=>?_)
 ·have h:n < ns.length:=by omega
  refine zq hl (zz (by rw [aj,ac h];rfl)) ?_;have e:ns[n]=Q4 ns n:=by simp [Q4,h]
  rw [e];exact k
 ·have e:Q4 ns n=0:=by
   have h:ns.length<=n:=by omega
   simp [Q4,h]
  rw [e] at k;walk_at "r";exact k
def wF (c f:Int):Int:=(c % 2147483647 + 1) * f % 2147483647
def jw (c f:Int):0<=wF c f:=aH _ (by decide)
def zem:Sp:=λ vs H Q _=>∃ c f:Int,vs=[.int c,.int f]/\0<=f/\f < 2147483647/\Q (.int (wF c f)) H
def jh (T:Txt K mg a):Cal P w K mg base "_law_spread" 1 ["_law_cell","_law_factor"] [] zem:=T.lS.cal λ F=>by
 refine F.okx zaq ?_ ?_
 ·walk_at "i"
 walk_at "k";refine oE2 h λ c n m7=>oA4 m7 λ m8 h0 h1 k=>?_;clear m7 h;subst m8;walk_at "T";refine ⟨_,(zc (zl (z8 (zr jG (zr zN (z8 (pq 0)) zd) (pq 1))))),?_⟩;walk_at "r";exact ⟨mul_okR (by omega) (by omega),k⟩
def zg9 (a:Ad):Sp:=λ vs H Q _=>∃ (L:Addr) (bvs:Ap) (n sp:Int),vs=[.ref L,.int n,.int sp]/\0<=n/\1<=sp/\sp<=4/\H L=some (.lst bvs)/\bvs.length<=100 /\
 ∀ rm pc z H1,zC rm pc->Same H H1->BtP a H1 (New H) (.ref z) (rm,pc)->Q (.int bvs.length) (upd H1 L (.lst (bvs ++ [.ref z])))
def vW (T:Txt K mg a):Cal P w K mg base "_law_belt" 3 ["_law_belts","_law_number","_law_span"] [] (zg9 a):=T.mv.cal λ F=>by
 refine F.okx zdt ?_ ?_
 ·walk_at "i"
 walk_at "j";refine oE4 h λ L bvs n sp m7=>oA7 m7 λ m8 n0 p1 p4 hL lb k=>?_;clear m7 h;subst m8;walk_at "T";refine ⟨_,(zg (zo 3 zdt.nd (zr zN zd (z8 (pq 1))))  (qg (zD (PW.pt (pw_and (zm (qG hr.units1) (z8 (qd (pq 1))) zd (zt _)) (pw_and1 (zm Zr (z6 zY zX (za (pq 0) zb)) zd (zt _)))))  (zc (zo 3 zdt.nd (zr zN (pq 3) zd)))  zp)  (zg (zu (qB ao ay ax zL (pq 0) (za (qw (x:="Belt") ⟨rfl,rfl,rfl⟩ hr (za (pq 3) (za (zr zN zd (zr qu (qd (pq 1)) (pq 2))) zb))) zb)))  (zc (zl (zr xn (z6 zY zX (za (pq 0) zb)) zd)))))),?_⟩;walk_at "a";have z0:=aH n (show (3:Int)≠0 by decide);have z1:=aG n (show (0:Int) < 3 by decide);refine cut (λ σ' H'=>∃ rm:Int,σ'=[some (.ref L),some (.int n),some (.int sp),some (.int rm)]/\H'=H/\1<=rm/\rm<=6) ?_ ?_
 ·walk_at "a";refine (zJ (λ _=>⟨gJ,⟨_,⟨.inl ⟨_,SqL.of hL,rfl⟩,zJ (λ _=>⟨_,iA3 rfl (by omega) (by omega)⟩) (λ _=>⟨_,iA3 rfl (by omega) (by omega)⟩)⟩⟩⟩) (λ _=>⟨_,iA3 rfl (by omega) (by omega)⟩))
 intro σ' H' m9;refine oE1 m9 λ rm m7=>oA4 m7 λ m8 n6 r1 r6=>?_;clear m7 m9;subst m8 n6;walk_at "a";have y0:=aH (n / 24) (show (sp:Int)≠0 by omega);have y1:=aG (n / 24) (show (0:Int) < sp by omega);refine ⟨.inl ⟨rfl,_,SqL.of hL⟩,iE4 a.i _ _ _ (iA3 ((ZS T).mono) (by omega) ?_)⟩;intro z dz hz hdz hne;refine Zh hz hdz (iA4 r1 r6 (by omega) (by omega)) λ H1 s1 q1=>⟨rfl,?_⟩;refine iE3 L bvs _ (iA5 rfl rfl (s1 _ _ hL) (zk (by omega)) ?_);have k:=k rm _ z H1 ⟨r1,r6,by omega,by omega⟩ s1 q1;have e:upd H1 L (.lst (bvs ++ [.ref z])) L=some (.lst (bvs ++ [.ref z])):=nk;generalize upd H1 L (.lst (bvs ++ [.ref z]))=H2 at k e ⊢;walk_at "a";refine ⟨_,.inl ⟨_,SqL.of e,rfl⟩,?_⟩;rw [aM,cQ,show (((bvs.length + 1:Nat):Int) - 1)=bvs.length by omega];exact k
def zfQ (a:Ad):Sp:=λ vs H Q _=>∃ y n sp:Int,vs=[.int y,.int n,.int sp]/\0<=n/\1<=sp/\sp<=4/\∀ v H' pc,Same H H'->0<=pc->pc<=4->KnP a H' (New H) v ⟨.drain,[y],[],pc,[]⟩->Q v H'
def WQ (T:Txt K mg a):Cal P w K mg base "_law_drain" 4 ["_law_into","_law_number","_law_span"] [] (zfQ a):=T.l9.cal λ F=>by
 refine F.okx zbH ?_ ?_
 ·walk_at "i"
 walk_at "j";refine oE3 h λ y n sp m7=>oA5 m7 λ m8 n0 p1 p4 k=>?_;clear m7 h;subst m8;walk_at "T";refine ⟨_,(zg (zD (zm (qG hr.units1) (z8 (pq 1)) zd (zt _))  (zc (zl (qw (x:="Drain") ⟨rfl,rfl,rfl⟩ hr (za (pq 0) (za zd zb)))))  zp)  (zc (zl (qw (x:="Drain") ⟨rfl,rfl,rfl⟩ hr (za (pq 0) (za (zr zN zd (zr qu (qd (pq 1)) (pq 2))) zb)))))),?_⟩;walk_at "a";refine zJ (λ _=>?_) (λ _=>?_)
 ·walk_at "a";refine iE4 a.l _ _ _ ⟨(Qi T).mono,?_⟩;intro z dz hz hdz hne;exact Qa hz hdz (by decide) (by decide) λ H1 s1 q1=>⟨rfl,k _ _ _ s1 (by decide) (by decide) q1⟩
 ·walk_at "a";have y0:=aH (n / 8) (show (sp:Int)≠0 by omega);have y1:=aG (n / 8) (show (0:Int) < sp by omega);refine iE4 a.l _ _ _ (iA3 ((Qi T).mono) (by omega) ?_);intro z dz hz hdz hne;exact Qa hz hdz (by omega) (by omega) λ H1 s1 q1=>⟨rfl,k _ _ _ s1 (by omega) (by omega) q1⟩
def zgm {n u:Int} (u0:1<=u) (u6:u<=6):∃ m:Int,atI [V.int 1,.int 1,.int 2,.int 2,.int 3,.int u] (n % 6)=some (.int m)/\1<=m/\m<=6:=by
 have h0:=aH n (show (6:Int)≠0 by decide);have h1:=aG n (show (0:Int) < 6 by decide);generalize n % 6=j at h0 h1 ⊢;have:j=0\/j=1\/j=2\/j=3\/j=4\/j=5:=by omega
 rcases this with rfl|rfl|rfl|rfl|rfl|rfl
 ·exact ⟨1,iA3 rfl (by decide) (by decide)⟩
 ·exact ⟨1,iA3 rfl (by decide) (by decide)⟩
 ·exact ⟨2,iA3 rfl (by decide) (by decide)⟩
 ·exact ⟨2,iA3 rfl (by decide) (by decide)⟩
 ·exact ⟨3,iA3 rfl (by decide) (by decide)⟩
 ·exact ⟨u,iA3 rfl u0 u6⟩
def zen (a:Ad):Sp:=λ vs H Q _=>∃ y c n sp:Int,vs=[.int y,.int c,.int n,.int sp]/\0<=n/\1<=sp/\sp<=4/\∀ v H' pc kd,Same H H'->1<=pc->pc<=4->1<=kd.length->kd.length<=6->xR kd->KnP a H' (New H) v ⟨.source,[],[y],pc,kd⟩->Q v H'
def XL (T:Txt K mg a):Cal P w K mg base "_law_source" 4 ["_law_out","_law_cell","_law_number","_law_span"] [] (zen a):=T.lT.cal λ F=>by
 refine F.okx zar ?_ ?_
 ·walk_at "i"
 walk_at "j";refine oE4 h λ y c n sp m7=>oA5 m7 λ m8 n0 p1 p4 k=>?_;clear m7 h;subst m8;walk_at "T";refine ⟨_,(zh (zo 4 zar.nd (zn (zI (za zd (za zd (za zd (za zd (za zd (za (zr zN zd (z8 (qd (pq 2)))) zb))))))) (z8 (pq 2))))  (qg (zD (zm (qG hr.units1) (z8 (qd (pq 2))) zd (zt _))  (zc (J8 (i:=1) zar.nd rfl (Or.inr rfl) (z8 (pq 1))))  zp)  (zh (Wq (i:=5) zar.nd rfl (Or.inl rfl) (vars:=["_law_k"]) (caps:=[1,2]) (N:=["_law_k","_law_cell","_law_number"]) (ON:=["_law_out","_law_cell","_law_number","_law_span","_law_many","_law_kinds"]) (osc:=ze wU) rfl rfl (by first|decide +kernel|kernel_rfl) rfl rfl (jP (za (pq 4) zb)) (λ s H fp m5=>(qj 0 (show (["_law_k","_law_cell","_law_number"]:A8).Nodup from by decide +kernel))) (λ s H fp m5=>qk) (λ s H fp m5=>(zbR (zr zN (pq 1) (zr jG (pq 0) (z8 (qd (pq 2))))))))  (zc (zl (qw (x:="Source") ⟨rfl,rfl,rfl⟩ hr (za (pq 0) (za (zr zN zd (zr qu (qd (pq 2)) (pq 3))) (za (pq 5) zb))))))))),?_⟩;walk_at "a";have u0:=aH (n / 6) (show (6:Int)≠0 by decide);have u1:=aG (n / 6) (show (0:Int) < 6 by decide);refine oE1 (zgm (n:=n) (u:=1 + n / 6 % 6) (by omega) (by omega)) λ m m7=>oA3 m7 λ em m1 m6=>?_;clear m7;refine (λ q hq=>zq (SqL.of nk) em ?_);have s1:=zf (o:=.lst [V.int 1,.int 1,.int 2,.int 2,.int 3,.int (1 + n / 6 % 6)]) hq;generalize upd H q (.lst [V.int 1,.int 1,.int 2,.int 2,.int 3,.int (1 + n / 6 % 6)])=H1 at s1 ⊢;clear em u0 u1;walk_at "a";refine cut (λ σ' H'=>∃ c:Int,σ'=[some (.int y),some (.int c),some (.int n),some (.int sp),some (.int m),none]/\H'=H1) ?_ ?_
 ·walk_at "a";walk_at "f";walk_at "a";exact zJ (λ _=>⟨_,rfl⟩) (λ _=>⟨_,rfl⟩)
 rintro σ' H2 ⟨c2,rfl,rfl⟩;walk_at "e";walk_at "a";refine ⟨by omega,by omega,λ _ _ _ _ mY hacc=>?_⟩;refine wz (n:=m.toNat) (λ i σ H'=>∃ v ks,σ=[v,some (.int c2),some (.int n)]/\Same H2 H'/\ks.length=i/\xR ks/\H' mY=some (.lst (iv ks))) (iE2 _ ([]) (iA5 rfl (zf hacc) rfl (λ _ z=>nomatch z) nk)) ?_ ?_
 ·intro i σ H3 hi m9;refine oE2 m9 λ v ks m7=>oA5 m7 λ m8 s3 lk hkk ha=>?_;clear m7 m9;subst m8;walk_at "a";have w0:=aH (n / 36) (show (3:Int)≠0 by decide);have w1:=aG (n / 36) (show (0:Int) < 3 by decide);refine ⟨mul_okR (by omega) (by omega),?_⟩;walk_at "a";have x0:=aH (c2 + (0 + (i:Int)) * (n / 36 % 3)) (show (1000000000000000000000000000000:Int)≠0 by decide);have x1:=aG (c2 + (0 + (i:Int)) * (n / 36 % 3)) (show (0:Int) < 1000000000000000000000000000000 by decide);generalize (c2 + (0 + (i:Int)) * (n / 36 % 3)) % 1000000000000000000000000000000=kk at x0 x1 ⊢;refine ⟨_,iA3 ha (zk (by rw [zy];omega)) (iE2 _ (ks ++ [kk]) (iA5 rfl (λ b o hb=>by rw [nz (nA hb hacc)];exact s3 b o hb) (by simp [lk]) ?_ (by rw [nk,qP])))⟩;intro z hz;rcases aF.mp hz with hz|hz
  ·exact hkk z hz
  ·rw [ar.mp hz];exact ⟨x0,x1⟩
 intro σ H3 m9;refine oE2 m9 λ v ks m7=>oA5 m7 λ m8 s3 lk hkk ha=>?_;clear m7 m9;subst m8;walk_at "a";have y0:=aH (n / 108) (show (sp:Int)≠0 by omega);have y1:=aG (n / 108) (show (0:Int) < sp by omega);refine iE4 a.k _ _ _ (iA3 ((Qh T).mono) (by omega) ?_);intro z dz hz hdz hne;have s13:=s1.trans s3;refine QM hz hdz ha (by omega) (by omega) (by omega) (by omega) hkk λ H4 s4 q4=>⟨rfl,k _ _ _ _ (s13.trans s4) (by omega) (by omega) (by omega) (by omega) hkk (q4.keep λ b o hb ho=>⟨zB s13 hb,ho⟩)⟩
def zit (T:Txt K mg a) (wd:Wd):kitOne K (.ref (vb a wd)) (.ref a.k)=some (decide (wd=.source)):=by
 cases wd
 ·exact T.iL
 ·exact T.i7
 ·exact T.iM
 ·exact T.hX
 ·exact T.i8
 ·exact T.iN
def zg6 (a:Ad):Sp:=λ vs H Q _=>∃ (R:Addr) (rvs:Ap) (rs:At) (c n:Int) (p:A5),vs=[.ref R,.int c,.int n]/\H R=some (.lst rvs)/\Reps H p rvs (rs.map (vp a))/\(∀ r∈rs,r.ok)/\rs.length<=60/\0<=n/\∀ H' kk,Same H H'->0<=kk->kk < jH->Q (.int kk) H'
def zbf (T:Txt K mg a):Cal P w K mg base "_law_kind" 1 ["_law_knots","_law_cell","_law_number"] [] (zg6 a):=T.mw.cal λ F=>by
 refine F.okx zdq ?_ ?_
 ·walk_at "i"
 walk_at "j";obtain ⟨R,rvs,rs,c,n,p,rfl,hR,rR,ro,lr,n0,k⟩:=h;have lR:rvs.length=rs.length:=by rw [rR.len,af]
 walk_at "T";refine ⟨_,(zg (zo 3 zdq.nd (zI (za (zbR (pq 1)) zb)))  (qg (qo qC rfl (qp (pq 0)) (qj 4 zdq.nd)  (zc (zD (jY (z6 VY jW (za (pq 4) (za vn zb))) (λ _=>rfl))  (zc (zu (qB ao cj ci Zg (pq 3) (za (zj (pq 4) rfl) zb))))  zp)))  (zc (zl (zn (pq 3) (zr qu (pq 2) (z6 zY zX (za (pq 3) zb)))))))),?_⟩;walk_at "a";have x0:=aH c (show (1000000000000000000000000000000:Int)≠0 by decide);have x1:=aG c (show (0:Int) < 1000000000000000000000000000000 by decide);intro I hI;have s1:=zf (o:=.lst [V.int (c % 1000000000000000000000000000000)]) hI;have hI1:upd H I (.lst [V.int (c % 1000000000000000000000000000000)]) I=some (.lst (iv [c % 1000000000000000000000000000000])):=nk;generalize upd H I (.lst [V.int (c % 1000000000000000000000000000000)])=H1 at s1 hI1 ⊢;generalize c % 1000000000000000000000000000000=k0 at x0 x1 hI1;refine cut (λ σ' H'=>∃ (v4:Aq) (ks:A6),σ'=[some (.ref R),some (.int c),some (.int n),some (.ref I),v4]/\Same H H'/\H' I=some (.lst (iv ks))/\1<=ks.length/\ks.length<=1 + 6 * rs.length/\xR ks) ?_ ?_
 ·walk_at "d";walk_at "a";refine ⟨R,rfl,.inl ⟨⟨_,SqL.of (s1 _ _ hR)⟩,?_⟩⟩;refine qS (K:=K) (a:=R) (xs:=rvs) (λ i σ H'=>∃ (v4:Aq) (ks:A6),σ=[some (.ref R),some (.int c),some (.int n),some (.ref I),v4]/\Same H H'/\H' I=some (.lst (iv ks))/\1<=ks.length/\ks.length<=1 + 6 * i/\xR ks) ⟨_,[k0],rfl,s1,hI1,aq _,aq _,λ z hz=>by rw [ar.mp hz];exact ⟨x0,x1⟩⟩ (λ i σ H' _ h=>by obtain ⟨_,_,_,s,_⟩:=h;exact SqL.of (s _ _ hR)) ?_ ?_
  ·rintro i x σ H2 hi ⟨v4,ks,rfl,s2,hI2,k1,k6,kk⟩;obtain ⟨d,hd,rx⟩:=rR.at hi;rw [aj,au] at hd;obtain ⟨r,hr',rfl⟩:=hd;have hil:=(aa.mp hr').1;have ok:=ro r (ah hr');obtain ⟨y1,dx1,m1,m2,m3,fs1,rfl,_,_,_,_,g0,f1,f2,_,g1,g2,g3,_⟩:=KnP.inv rx;walk_at "a";refine ⟨.ref a.k,_,T.kz,rfl,_,_,_,_,rfl,(WT T r.wd).ty (CT T r.wd) (s2 _ _ g0),.inl ⟨_,rfl,zit T r.wd⟩,?_⟩;walk_at "a";refine zJ (λ b=>?_) (λ b=>⟨_,ks,rfl,s2,hI2,k1,by omega,kk⟩);obtain ⟨f3,h3⟩:=g3 b;have ok:r.kinds.length<=6/\xR r.kinds:=by
    unfold Row.ok at ok;rw [b] at ok;exact ⟨ok.2.2.2.2.2.1,ok.2.2.2.2.2.2⟩
   rw [b] at g0;refine ⟨.inl ⟨rfl,_,SqL.of hI2⟩,y1,a.k,dx1,fs1,_,rfl,s2 _ _ g0,T.gG,T.gI,f3,?_⟩;refine ⟨I,m3,iv ks,iv r.kinds,rfl,rfl,hI2,s2 _ _ h3,?_,?_⟩
   ·rw [zy,zy];exact bn (zk (by omega))
   refine ⟨_,ks ++ r.kinds,rfl,(λ b o hb=>by rw [nz (nA hb hI)];exact s2 b o hb),by rw [nk];simp [iv],by simp;omega,by simp;omega,λ z hz=>?_⟩;rcases aF.mp hz with hz|hz
   ·exact kk z hz
   ·exact ok.2 z hz
  ·rintro σ H2 ⟨v4,ks,rfl,s2,hI2,k1,k6,kk⟩;rw [lR] at k6;exact ⟨v4,ks,rfl,s2,hI2,k1,k6,kk⟩
 rintro σ' H2 ⟨v4,ks,rfl,s2,hI2,k1,k6,kk⟩;walk_at "a";refine ⟨_,.inl ⟨_,SqL.of hI2,rfl⟩,?_⟩;rw [zy];refine ⟨by omega,?_⟩;have v0:=aH n (show (ks.length:Int)≠0 by omega);have v1:=aG n (show (0:Int) < (ks.length:Int) by omega);obtain ⟨j,ej⟩:∃ j:Nat,n % (ks.length:Int)=j:=⟨(n % (ks.length:Int)).toNat,by omega⟩;rw [ej] at v1 ⊢;obtain ⟨y,hy⟩:∃ y,ks[j]?=some y:=⟨ks[j]'(by omega),ac _⟩;refine zq (SqL.of hI2) (zz (jf hy)) ?_;have:=kk y (ah hy);exact k _ y s2 this.1 this.2
def zg1 (n:Int):Wd:=if n=0 then .first else if n=1 then .sieve else .parter
def Wr (y kk wt:Int) (outs:A6):Row:=⟨zg1 wt,[y],outs,0,if wt=1 then [kk] else []⟩
def zaF {y kk wt:Int} (h2:2<=outs.length) (h4:outs.length<=4) (h1:wt=1->outs.length=2) (k0:0<=kk) (k1:kk < jH):(Wr y kk wt outs).ok:=by
 unfold Wr zg1 Row.ok;by_cases z:wt=0
 ·subst z;exact ⟨⟨_,rfl⟩,h2,h4⟩
 ·by_cases o:wt=1
  ·subst o;exact iA3 ⟨_,rfl⟩ (h1 rfl) ⟨kk,iA3 rfl k0 k1⟩
  ·simp only [am z,am o];exact ⟨⟨_,rfl⟩,h2,h4⟩
def zeq (a:Ad):Sp:=λ vs H Q _=>∃ (y kk wt:Int) (O:Addr) (outs:A6),vs=[.int y,.ref O,.int kk,.int wt]/\H O=some (.lst (iv outs))/\2<=outs.length/\outs.length<=4/\(wt=1->outs.length=2)/\0<=kk/\kk < jH/\∀ v H',Same H H'->KnP a H' (New H) v (Wr y kk wt outs)->Q v H'
def XM (T:Txt K mg a):Cal P w K mg base "_law_parted" 4 ["_law_into","_law_outs","_law_kind_here","_law_what"] [] (zeq a):=T.lV.cal λ F=>by
 refine F.okx zas ?_ ?_
 ·walk_at "i"
 walk_at "j";refine oE5 h λ y kk wt O outs m7=>oA8 m7 λ m8 hO o2 o4 o1 k0 k1 k=>?_;clear m7 h;subst m8;walk_at "T";refine ⟨_,(zg (zD (zm (qG hr.units1) (pq 3) zd (zt _))  (zc (zl (qw (x:="FirstParter") ⟨rfl,rfl,rfl⟩ hr (za (pq 0) (za (pq 1) zb)))))  zp)  (zg (zD (zm (qG hr.units1) (pq 3) zd (zt _))  (zc (zl (qw (x:="Sieve") ⟨rfl,rfl,rfl⟩ hr (za (pq 0) (za (xM ZB (pq 1) Zd (xX zd)) (za (pq 2) zb))))))  zp)  (zc (zl (qw (x:="Parter") ⟨rfl,rfl,rfl⟩ hr (za (pq 0) (za (pq 1) zb))))))),?_⟩;walk_at "a";refine zJ (λ b=>?_) (λ b=>?_)
 ·subst b;walk_at "a";refine iE4 a.n _ _ _ ⟨(Zt T).mono,?_⟩;intro z dz hz hdz hne;exact zeY hz hdz hO o2 o4 λ H1 s1 q1=>⟨rfl,k _ _ s1 q1⟩
 walk_at "a";refine zJ (λ b1=>?_) (λ b1=>?_)
 ·subst b1;walk_at "a";refine iE4 a.o _ _ _ ⟨(zcJ T).mono,ZM (SqL.of hO) λ q hq=>?_⟩;have s1:=zf (o:=.lst (iv outs)) hq;rw [show Zq (iv outs) none (some 2)=iv outs from (XG (iv outs) 2).trans (cG (by rw [zy];have:=o1 rfl;omega))];have hq1:upd H q (.lst (iv outs)) q=some (.lst (iv outs)):=nk;generalize upd H q (.lst (iv outs))=H1 at s1 hq1 ⊢;intro z dz hz hdz hne;exact zeX hz hdz hq1 (o1 rfl) k0 k1 λ H2 s2 q2=>⟨rfl,k _ _ (s1.trans s2) (q2.keep λ b o hb ho=>⟨zB s1 hb,ho⟩)⟩
 walk_at "a";refine iE4 a.m _ _ _ ⟨(Xu T).mono,?_⟩;intro z dz hz hdz hne;refine Wv hz hdz hO o2 o4 λ H1 s1 q1=>⟨rfl,k _ _ s1 ?_⟩;unfold Wr zg1;rw [am b,am b1,am b1];exact q1
def zhw {Q:VK} {p q:Addr} {xs:A6} (h1:H p=some (.lst (iv xs))) (h2:H q=some (.lst [])) (k:Q (.bl (!decide (xs=[]))) H):zbP K (.ref p) (.ref q) H Q:=by
 refine .inr (.inl (iE4 p q (iv xs) ([]) (iA6 rfl rfl (.inl ⟨SqL.of h1,SqL.of h2⟩) (by simp [iv,vo]) rfl ?_)));cases xs with
 | nil=>exact k
 | cons x xs=>exact k
def zfn {Q:VK} {p q:Addr} {xs:A6} (h1:H p=some (.lst (iv xs))) (h2:H q=some (.lst [])) (k:Q (.bl (decide (xs=[]))) H):zaz K (.ref p) (.ref q) H Q:=by
 refine .inr (.inl (iE4 p q (iv xs) ([]) (iA6 rfl rfl (.inl ⟨SqL.of h1,SqL.of h2⟩) (by simp [iv,vo]) rfl ?_)));cases xs with
 | nil=>exact k
 | cons x xs=>exact k
def Qr {xs:A6} {y:Int}:atI (iv (xs ++ [y])) (-1)=some (.int y):=by
 rw [show iv (xs ++ [y])=iv xs ++ [V.int y] by simp [iv]];unfold atI ixN;rw [am (by decide),aM,cQ,ap (by omega),show (-1 + (((iv xs).length + 1:Nat):Int)).toNat=(iv xs).length by omega];simp
def zeu (a:Ad):Sp:=λ vs H Q _=>∃ (ms:Ab) (L R En B:Addr) (bs:A1) (rs:At) (es ks:A6) (y c sp:Int),vs=[.ref L,.ref En,.ref B,.int y,.int c,.int sp]/\GS a ms H H L R En B bs rs es ks/\WInv bs rs (y :: es) ks/\1<=sp/\sp<=4/\bs.length<=60/\es.length<=60/\ks.length<=60 /\
 ∀ v H' bs' es' ks' r,GS a ms H H' L R En B bs' rs es' ks'->KnP a H' (Off ms) v r->WInv bs' (rs ++ [r]) es' ks'->bs'.length + ks'.length<=bs.length + ks.length + 3->es'.length + ks'.length<=es.length + ks.length + 2->Q v H'
def zcq (T:Txt K mg a):Cal P w K mg base "_law_joined" 4 ["_law_belts","_law_ends","_law_loops","_law_into","_law_cell","_law_span"] [] (zeu a):=T.lU.cal λ F=>by
 refine F.okx zat ?_ ?_
 ·walk_at "i"
 walk_at "j";refine oE8 h λ ms L R E B bs rs es m7=>oE4 m7 λ ks y c sp m8=>oA9 m8 λ n6 W I0 p1 p4 lb le lk k=>?_;clear m7 m8 h;subst n6;walk_at "T";refine ⟨_,(zh (zo 6 zat.nd (zx ⟨rfl,rfl,rfl⟩ hr (za (pq 4) (za zd zb))))  (zh (zo 7 zat.nd (zI (za (pq 3) zb)))  (qg (qo qC rfl (jP (za (z8 (pq 6)) zb)) (qj 8 zat.nd)  (zc (zD (zm (Xe hr.units1) (pq 1) (zI zb) (zt _))  (zc (zu (qB ao ay ax zL (pq 7) (za (qB ao dG dF Xl (pq 1) (za (zr qu (qd (pq 6)) (z6 zY zX (za (pq 1) zb))) zb)) zb))))  zp)))  (qg (zD (zm (qG hr.units1) (z6 zY zX (za (pq 7) zb)) zd (zt _))  (zh (zu (qB ao ay ax zL (pq 2) (za (zx ⟨rfl,rfl,rfl⟩ hr (za (pq 0) (za (zx ⟨rfl,rfl,rfl⟩ hr (za (pq 4) (za zd zb))) (za (pq 5) zb)))) zb)))  (zc (zu (qB ao ay ax zL (pq 7) (za (zn (pq 2) (vK xy zd)) zb)))))  zp)  (qg (zD (zm (qG hr.units1) (z8 (qd (pq 6))) zd (zt _))  (zc (zo 7 zat.nd (zr zN (xM ZB (pq 7) (xX zd) Zd) (xM ZB (pq 7) Zd (xX zd)))))  zp)  (zh (zu (qB ao ay ax zL (pq 1) (za (zx ⟨rfl,rfl,rfl⟩ hr (za (pq 0) (za (qd (pq 6)) (za (pq 5) zb)))) zb)))  (zc (zl (qw (x:="Joiner") ⟨rfl,rfl,rfl⟩ hr (za (pq 7) (za (zn (pq 1) (vK xy zd)) zb))))))))))),?_⟩;walk_at "a";refine uc (jh T).mono (iE2 c _ (iA4 rfl (by decide) (by decide) ?_));have n0:=jw c 1618033989;generalize wF c 1618033989=nu at n0 ⊢;walk_at "a";intro I hI;obtain ⟨W1,nI⟩:=W.ext (xs:=[V.int y]) hI;have hI1:upd H I (.lst [V.int y]) I=some (.lst (iv [y])):=nk;generalize upd H I (.lst [V.int y])=H1 at W1 hI1 ⊢;have mI:I∈I :: ms:=by simp
 have nu0:=aH nu (show (4:Int)≠0 by decide);have nu1:=aG nu (show (0:Int) < 4 by decide);walk_at "a";refine cut (λ σ' H'=>∃ (v8:Aq) (ins es2:A6),σ'=[some (.ref L),some (.ref E),some (.ref B),some (.int y),some (.int c),some (.int sp),some (.int nu),some (.ref I),v8]/\GS a (I :: ms) H H' L R E B bs rs es2 ks/\H' I=some (.lst (iv ins))/\(ins ++ es2).Perm (y :: es)/\1<=ins.length/\ins.length<=4) ?_ ?_
 ·walk_at "d";walk_at "a";refine ⟨by omega,by omega,?_⟩;refine wz (n:=(nu % 4).toNat) (λ i σ' H'=>∃ (v8:Aq) (ins es2:A6),σ'=[some (.ref L),some (.ref E),some (.ref B),some (.int y),some (.int c),some (.int sp),some (.int nu),some (.ref I),v8]/\GS a (I :: ms) H H' L R E B bs rs es2 ks/\H' I=some (.lst (iv ins))/\(ins ++ es2).Perm (y :: es)/\1<=ins.length/\ins.length<=1 + i) (iE3 _ ([y]) es (iA6 rfl W1 hI1 (aP _) (aq _) (aq _))) ?_ ?_
  ·clear W1 hI1;intro i σ' H3 hi m9;refine oE3 m9 λ v8 ins es2 m7=>oA6 m7 λ m8 W3 hI3 p3 i1 ii=>?_;clear m7 m9;subst m8;have pl:=p3.length_eq;rw [aM,bz] at pl;walk_at "a";intro q hq;have sq:=zf (o:=.lst []) hq;have W4:=W3.same sq;have hI4:=sq _ _ hI3;refine zhw W4.hE (nk) ?_;generalize upd H3 q (.lst [])=H4 at W4 hI4 ⊢;clear W3 hI3 hq sq;walk_at "a";refine zJ (λ b=>?_) (λ b=>(iE3 _ ins es2 (iA6 rfl W4 hI4 p3 i1 (by omega))));have el:(0:Int) < es2.length:=by
    rcases dW es2.length with z|z
    ·exact absurd (bw.mp z) (by simpa using b)
    ·omega
   refine iA4 (.inl ⟨rfl,_,SqL.of hI4⟩) (.inl ⟨rfl,_,SqL.of W4.hE⟩) gJ ⟨_,⟨.inl ⟨_,SqL.of W4.hE,rfl⟩,?_⟩⟩;rw [zy];refine ⟨el,?_⟩;have v0:=aH (nu / 4) (show (es2.length:Int)≠0 by omega);have v1:=aG (nu / 4) el;generalize nu / 4 % (es2.length:Int)=jj at v0 v1 ⊢;obtain ⟨y2,hy⟩:∃ y,es2[jj.toNat]?=some y:=⟨es2[jj.toNat]'(by omega),ac _⟩;refine iE5 E (iv es2) jj jj.toNat (.int y2) (iA8 rfl rfl W4.hE (by omega) (by omega) (Xa v0 (by rw [zy];exact v1)) (jf hy) ?_);rw [Xx];have W5:=W4.setE (es2.eraseIdx jj.toNat);have p5:=Z6 hy;have nIE:I≠E:=λ z=>nI (by rw [z];simp);have hI5:upd H4 E (.lst (iv (es2.eraseIdx jj.toNat))) I=some (.lst (iv ins)):=by rw [nz nIE];exact hI4
   generalize upd H4 E (.lst (iv (es2.eraseIdx jj.toNat)))=H5 at W5 hI5 ⊢;generalize es2.eraseIdx jj.toNat=es3 at p5 W5 ⊢;refine iE3 I _ _ (iA5 rfl rfl hI5 (zk (by rw [zy];omega)) ?_);rw [qP];refine iE3 _ (ins ++ [y2]) es3 (iA6 rfl (W5.setX mI nI hI) nk ?_ (by simp) (by simp;omega));rw [bK];exact (bL _ p5).trans p3
  ·intro σ' H3 m9;refine oE3 m9 λ v8 ins es2 m7=>oA6 m7 λ m8 W3 hI3 p3 i1 ii=>?_;clear m7 m9;subst m8;exact iE3 v8 ins es2 (iA6 rfl W3 hI3 p3 i1 (by omega))
 clear W1 hI1;intro σ' H2 m9;refine oE3 m9 λ v8 ins es2 m7=>oA6 m7 λ m8 W2 hI2 p2 i1 i4=>?_;clear m7 m9;subst m8;have I2:WInv bs rs (ins ++ es2) ks:=I0.perm p2 (aP _);have pl:=p2.length_eq;rw [aM,bz] at pl;clear I0 p2;walk_at "a";refine cut (λ σ' H'=>∃ (bs1:A1) (ins ks1:A6),σ'=[some (.ref L),some (.ref E),some (.ref B),some (.int y),some (.int c),some (.int sp),some (.int nu),some (.ref I),v8]/\GS a (I :: ms) H H' L R E B bs1 rs es2 ks1/\H' I=some (.lst (iv ins))/\WInv bs1 rs (ins ++ es2) ks1/\2<=ins.length/\ins.length<=4/\bs1.length + ks1.length<=bs.length + ks.length + 2/\ks1.length<=ks.length + 1/\bs1.length<=bs.length + 1) ?_ ?_
 ·walk_at "a";refine ⟨_,.inl ⟨_,SqL.of hI2,rfl⟩,?_⟩;rw [zy];walk_at "a";refine zJ (λ b=>?_) (λ b=>(iE3 bs ins ks (iA8 W2 hI2 I2 (by omega) i4 (by omega) (by omega) (by omega))));obtain ⟨bv,hL,rL⟩:=W2.hL;have lL:bv.length=bs.length:=by rw [rL.len,af]
  walk_at "a";refine ⟨.inl ⟨rfl,_,SqL.of W2.hB⟩,iE3 _ _ _ ⟨(vW T).mono,iE3 _ _ _ ⟨(jh T).mono,⟨c,_,rfl,by decide,by decide,?_⟩⟩⟩⟩;refine iE4 L bv _ sp (iA7 rfl (jw _ _) p1 p4 hL (by omega) (λ rm pc z H3 bk s3 q3=>?_));obtain ⟨W3,_⟩:=W2.addL hL s3 q3;rw [lL];have nIL:I≠L:=λ z=>nI (by rw [z];simp);have hI3:upd H3 L (.lst (bv ++ [.ref z])) I=some (.lst (iv ins)):=by rw [nz nIL];exact s3 _ _ hI2
  generalize upd H3 L (.lst (bv ++ [.ref z]))=H4 at W3 hI3 ⊢;have I3:=I2.belt (b:=(rm,pc)) bk;refine iE3 B _ _ (iA5 rfl rfl W3.hB (zk (by rw [zy];omega)) ?_);rw [qP];have W4:=W3.setB (ks ++ [(bs.length:Int)]);have nIB:I≠B:=λ z=>nI (by rw [z];simp);have hI4:upd H4 B (.lst (iv (ks ++ [(bs.length:Int)]))) I=some (.lst (iv ins)):=by rw [nz nIB];exact hI3
  generalize upd H4 B (.lst (iv (ks ++ [(bs.length:Int)])))=H5 at W4 hI4 ⊢;walk_at "a";refine ⟨.inl ⟨rfl,_,SqL.of hI4⟩,zq (SqL.of W4.hB) Qr ?_⟩;refine iE3 I _ _ (iA5 rfl rfl hI4 (zk (by rw [zy];omega)) ?_);rw [qP];refine iE3 (bs ++ [(rm,pc)]) (ins ++ [(bs.length:Int)]) (ks ++ [(bs.length:Int)]) (iA8 (W4.setX mI nI hI) nk (I3.perm ?_ (aP _)) (by simp;omega) (by simp;omega) (by simp;omega) (by simp) (by simp));rw [bK,bK];exact bL _ cP
 have e2l:es2.length<=es.length:=by omega
 clear W2 hI2 I2 i1 i4;intro σ' H3 m9;refine oE3 m9 λ bs1 ins ks1 m7=>oA9 m7 λ m8 W3 hI3 I3 i2 i4 q1 q2 q3=>?_;clear m7 m9;subst m8;walk_at "a";refine cut (λ σ' H'=>∃ (J:Addr) (ins:A6),σ'=[some (.ref L),some (.ref E),some (.ref B),some (.int y),some (.int c),some (.int sp),some (.int nu),some (.ref J),v8]/\GS a ms H H' L R E B bs1 rs es2 ks1/\H' J=some (.lst (iv ins))/\J ∉ ms4 L R E B/\WInv bs1 rs (ins ++ es2) ks1/\2<=ins.length/\ins.length<=4) ?_ ?_
 ·walk_at "a";walk_at "f";walk_at "a";refine zJ (λ b=>?_) (λ b=>(iE2 I ins (iA7 rfl (W3.less nI) hI3 nI I3 i2 i4)));walk_at "a";refine ZM (SqL.of hI3) λ j1 hj1=>?_;rw [show Zq (iv ins) (some 1) none=iv (ins.drop 1) from (za4 (iv ins) 1 (by rw [zy];omega)).trans (by simp [iv])];have a1:=zf (o:=.lst (iv (ins.drop 1))) hj1;refine ZM (SqL.of (a1 _ _ hI3)) λ j2 hj2=>?_;rw [show Zq (iv ins) none (some 1)=iv (ins.take 1) from (XG (iv ins) 1).trans (by simp [iv])];have a2:=zf (o:=.lst (iv (ins.take 1))) hj2;refine Vu (SqL.of (a2 _ _ nk)) (SqL.of nk) (Za (by rw [zy,zy,dn,aR];omega)) λ j3 hj3=>?_;have a3:=zf (o:=.lst (iv (ins.drop 1) ++ iv (ins.take 1))) hj3;have sA:=(a1.trans a2).trans a3;have W4:=W3.same sA;have n3:=(W3.same (a1.trans a2)).off hj3;refine iE2 j3 (ins.drop 1 ++ ins.take 1) (iA7 rfl (W4.less nI) (by rw [nk];simp [iv]) (λ z=>n3 (aB _ ?_)) (I3.perm (cy _ (Z4 ins 1)) (aP _)) (by rw [(Z4 ins 1).length_eq];exact i2) (by rw [(Z4 ins 1).length_eq];exact i4));exact W.m _ z
 clear W3 hI3 I3 i2 i4;intro σ' H4 m9;refine oE2 m9 λ J ins m7=>oA7 m7 λ m8 W4 hJ4 nJ I4 i2 i4=>?_;clear m7 m9;subst m8;obtain ⟨bv,hL,rL⟩:=W4.hL;have lL:bv.length=bs1.length:=by rw [rL.len,af]
 walk_at "a";refine ⟨.inl ⟨rfl,_,SqL.of W4.hE⟩,iE3 _ _ _ ⟨(vW T).mono,?_⟩⟩;refine iE4 L bv _ sp (iA7 rfl (bY n0 (by decide)) p1 p4 hL (by omega) (λ rm pc z H5 bk s5 q5=>?_));obtain ⟨W5,_⟩:=W4.addL hL s5 q5;rw [lL];have nJL:J≠L:=λ z=>nJ (by rw [z];simp);have hJ5:upd H5 L (.lst (bv ++ [.ref z])) J=some (.lst (iv ins)):=by rw [nz nJL];exact s5 _ _ hJ4
 generalize upd H5 L (.lst (bv ++ [.ref z]))=H6 at W5 hJ5 ⊢;have I5:=I4.belt (b:=(rm,pc)) bk;refine iE3 E _ _ (iA5 rfl rfl W5.hE (zk (by rw [zy];omega)) ?_);rw [qP];have W6:=W5.setE (es2 ++ [(bs1.length:Int)]);have nJE:J≠E:=λ z=>nJ (by rw [z];simp);have hJ6:upd H6 E (.lst (iv (es2 ++ [(bs1.length:Int)]))) J=some (.lst (iv ins)):=by rw [nz nJE];exact hJ5
 generalize upd H6 E (.lst (iv (es2 ++ [(bs1.length:Int)])))=H7 at W6 hJ6 ⊢;walk_at "a";refine iE4 a.p _ _ _ ⟨(Xv T).mono,zq (SqL.of W6.hE) Qr ?_⟩;intro z dz hz hdz hne;refine Ww hz hdz hJ6 i2 i4 λ H8 s8 q8=>⟨rfl,?_⟩;refine k _ H8 (bs1 ++ [(rm,pc)]) (es2 ++ [(bs1.length:Int)]) ks1 ⟨.joiner,ins,[(bs1.length:Int)],0,[]⟩ (W6.same s8) (W6.newK q8) (I5.knot ?_ cP ⟨⟨_,rfl⟩,i2,i4⟩) (by simp;omega) (by simp;omega);rw [bK]
noncomputable abbrev stG (L R E B:Addr) (c sp nu:Int) (v8 v9 v10 v11 v12:Aq):St:=[some (.ref L),some (.ref R),some (.ref E),some (.ref B),some (.int c),some (.int sp),some (.int nu),some (.int (nu % 9)),v8,v9,v10,v11,v12]
def zhO (h:k < 4):∃ m:Int,atI [V.int 941083987,.int 1726512289,.int 1999483721,.int 1103527591] (0 + (k:Int))=some (.int m)/\0<=m/\m < 2147483647:=by
 match k,h with
 | 0,_=>exact ⟨_,rfl,by decide,by decide⟩
 | 1,_=>exact ⟨_,rfl,by decide,by decide⟩
 | 2,_=>exact ⟨_,rfl,by decide,by decide⟩
 | 3,_=>exact ⟨_,rfl,by decide,by decide⟩
def zgk:∃ m:Int,atI [V.int 0,.int 0,.int 1,.int 2] (n % 4)=some (.int m)/\0<=m/\m<=2:=by
 have h0:=aH n (show (4:Int)≠0 by decide);have h1:=aG n (show (0:Int) < 4 by decide);generalize n % 4=j at h0 h1 ⊢;have:j=0\/j=1\/j=2\/j=3:=by omega
 rcases this with rfl|rfl|rfl|rfl <;> exact ⟨_,rfl,by decide,by decide⟩
def zg7 (a:Ad):Sp:=λ vs H Q _=>∃ (ms:Ab) (L R En B:Addr) (bs:A1) (rs:At) (es ks:A6) (c sp:Int),vs=[.ref L,.ref R,.ref En,.ref B,.int c,.int sp]/\GS a ms H H L R En B bs rs es ks/\WInv bs rs es ks/\1<=sp/\sp<=4/\bs.length<=50/\rs.length<=50/\es.length<=50/\ks.length<=50 /\
 ∀ H' bs' rs' es' ks',GS a ms H H' L R En B bs' rs' es' ks'->WInv bs' rs' es' ks'->bs'.length + ks'.length<=bs.length + ks.length + 4->rs'.length + es'.length + ks'.length<=rs.length + es.length + ks.length + 4->(es=[]->bs'.length + ks'.length<=bs.length + ks.length + 1/\rs'.length + es'.length + ks'.length<=rs.length + es.length + ks.length + 2)->1<=rs'.length->Q .non H'
theorem zbg (T:Txt K mg a):Cal P w K mg base "_law_grow" 5 ["_law_belts","_law_knots","_law_ends","_law_loops","_law_cell","_law_span"] [] (zg7 a):=T.mx.cal λ F=>by
 refine F.okx zdr ?_ ?_
 ·walk_at "i"
 walk_at "j";refine oE8 h λ ms L R E B bs rs es m7=>oE3 m7 λ ks c sp m8=>oA6 m8 λ n6 W I0 p1 p4 nh=>oA5 nh λ lb lr le lk k=>?_;clear m7 m8 nh h;subst n6;walk_at "T";refine ⟨_,(zh (zo 6 zdr.nd (zx ⟨rfl,rfl,rfl⟩ hr (za (pq 4) (za zd zb))))  (zh (zo 7 zdr.nd (z8 (pq 6)))  (zh (zD (PW.pt (pw_or (zm (qG hr.units1) (pq 2) (zI zb) (zt _)) (pw_or1 (zm (qG hr.units1) (pq 7) zd (zt _)))))  (zh (zu (qB ao ay ax zL (pq 2) (za (zx ⟨rfl,rfl,rfl⟩ hr (za (pq 0) (za (qd (pq 6)) (za (pq 5) zb)))) zb)))  (zh (zu (qB ao ay ax zL (pq 1) (za (zx ⟨rfl,rfl,rfl⟩ hr (za (zn (pq 2) (vK xy zd)) (za (pq 4) (za (qd (pq 6)) (za (pq 5) zb))))) zb)))  (zc (zl zG))))  zp)  (zh (zo 8 zdr.nd (qB ao dG dF Xl (pq 2) (za (zr qu (qd (pq 6)) (z6 zY zX (za (pq 2) zb))) zb)))  (qg (zD (zm (qG hr.units1) (pq 7) zd (zt _))  (zc (zu (qB ao ay ax zL (pq 1) (za (zx ⟨rfl,rfl,rfl⟩ hr (za (pq 8) (za (qd (pq 6)) (za (pq 5) zb)))) zb))))  (zc (zD (zm Wt (pq 7) zd (zt _))  (zc (zu (qB ao ay ax zL (pq 1) (za (zx ⟨rfl,rfl,rfl⟩ hr (za (pq 0) (za (pq 2) (za (pq 3) (za (pq 8) (za (pq 4) (za (pq 5) zb))))))) zb))))  (zh (zo 9 zdr.nd (zI zb))  (zh (zo 10 zdr.nd zd)  (qg (zD (zm (Xe hr.units1) (pq 7) zd (zt _))  (zc (zo 10 zdr.nd (zr zN zd (zn (zI (za zd (za zd (za zd (za zd zb))))) (z8 (qd (pq 6)))))))  zp)  (qg (qo qC rfl (jP (za (pq 10) zb)) (qj 11 zdr.nd)  (zh (zo 12 zdr.nd (zn (zI (za zd (za zd (za zd (za zd zb))))) (pq 11)))  (zc (zu (qB ao ay ax zL (pq 9) (za (zx ⟨rfl,rfl,rfl⟩ hr (za (pq 0) (za (zx ⟨rfl,rfl,rfl⟩ hr (za (pq 4) (za (pq 12) zb))) (za (pq 5) zb)))) zb))))))  (zh (zu (qB ao cj ci Zg (pq 2) (za (pq 9) zb)))  (zc (zu (qB ao ay ax zL (pq 1) (za (zx ⟨rfl,rfl,rfl⟩ hr (za (pq 8) (za (pq 9) (za (zx ⟨rfl,rfl,rfl⟩ hr (za (pq 1) (za (pq 4) (za (qd (pq 6)) zb)))) (za (pq 7) zb))))) zb))))))))))))  (zc (zl zG))))))),?_⟩;walk_at "a";refine uc (jh T).mono (iE2 c _ (iA4 rfl (by decide) (by decide) ?_));have n0:=jw c 1530421987;generalize wF c 1530421987=nu at n0 ⊢;walk_at "a";intro q hq;have sq:=zf (o:=.lst []) hq;have W1:=W.same sq;refine zfn W1.hE nk ?_;generalize upd H q (.lst [])=H1 at W1 ⊢;clear sq hq;walk_at "a";refine zgs (C:=nu % 9=8) (λ z=>?_) (λ a0 hp=>?_)
 ·obtain ⟨bv,hL,rL⟩:=W1.hL;have lL:bv.length=bs.length:=by rw [rL.len,af]
  walk_at "a";refine ⟨.inl ⟨rfl,_,SqL.of W1.hE⟩,iE3 _ _ _ ⟨(vW T).mono,?_⟩⟩;refine iE4 L bv _ sp (iA7 rfl (bY n0 (by decide)) p1 p4 hL (by omega) (λ rm pc z H3 bk s3 q3=>?_));obtain ⟨W3,_⟩:=W1.addL hL s3 q3;rw [lL];generalize upd H3 L (.lst (bv ++ [.ref z]))=H4 at W3 ⊢;have I3:=I0.belt (b:=(rm,pc)) bk;refine iE3 E _ _ (iA5 rfl rfl W3.hE (zk (by rw [zy];omega)) ?_);rw [qP];have W4:=W3.setE (es ++ [(bs.length:Int)]);generalize upd H4 E (.lst (iv (es ++ [(bs.length:Int)])))=H5 at W4 ⊢;obtain ⟨rv,hR,rR⟩:=W4.hR;have lR:rv.length=rs.length:=by rw [rR.len,af]
  walk_at "a";refine ⟨.inl ⟨rfl,_,SqL.of hR⟩,iE3 _ _ _ ⟨(XL T).mono,zq (SqL.of W4.hE) Qr ?_⟩⟩;refine iE4 _ c _ sp (iA5 rfl (bY n0 (by decide)) p1 p4 (λ v H6 pc' kd s6 c1 c4 d1 d6 dk q6=>?_));obtain ⟨W6,_⟩:=W4.addR hR s6 (W4.newK q6);refine iE3 R _ _ (iA5 rfl rfl (s6 _ _ hR) (zk (by omega)) ?_);walk_at "a";exact k _ _ _ _ _ W6 (I3.knot (r:=⟨.source,[],[(bs.length:Int)],pc',kd⟩) (aP _) cP (iA7 rfl ⟨_,rfl⟩ c1 c4 d1 d6 dk)) (by simp;omega) (by simp;omega) (λ _=>⟨by simp;omega,by simp;omega⟩) (by simp)
 refine zJ (λ z=>hp z) (λ n8=>?_);clear hp;have el:(0:Int) < es.length:=by
  rcases dW es.length with z|z
  ·exact absurd (bw.mp z) a0
  ·omega
 have k:=λ H' bs' rs' es' ks' a b c d=>k H' bs' rs' es' ks' a b c d (λ z=>absurd z a0);walk_at "a";refine iA3 (.inl ⟨rfl,_,SqL.of W1.hE⟩) gJ ⟨_,⟨.inl ⟨_,SqL.of W1.hE,rfl⟩,?_⟩⟩;rw [zy];refine ⟨el,?_⟩;have v0:=aH (nu / 9) (show (es.length:Int)≠0 by omega);have v1:=aG (nu / 9) el;generalize nu / 9 % (es.length:Int)=jj at v0 v1 ⊢;obtain ⟨y,hy⟩:∃ y,es[jj.toNat]?=some y:=⟨es[jj.toNat]'(by omega),ac _⟩;refine iE5 E (iv es) jj jj.toNat (.int y) (iA8 rfl rfl W1.hE (by omega) (by omega) (Xa v0 (by rw [zy];exact v1)) (jf hy) ?_);rw [Xx];have W2:=W1.setE (es.eraseIdx jj.toNat);have pp:=Z6 hy;have pl:=pp.length_eq;rw [bz] at pl;have I2:=I0.perm pp (aP _);generalize upd H1 E (.lst (iv (es.eraseIdx jj.toNat)))=H2 at W2 ⊢;generalize es.eraseIdx jj.toNat=es1 at pp pl W2 I2 ⊢;clear W W1 I0 pp;obtain ⟨rv,hR,rR⟩:=W2.hR;have lR:rv.length=rs.length:=by rw [rR.len,af]
 walk_at "a";let n9:St->Hp->Prop:=λ σ' H'=>∃ (v9 v10 v11 v12:Aq) (bs':A1) (rs':At) (es' ks':A6),σ'=stG L R E B c sp nu (some (.int y)) v9 v10 v11 v12/\GS a ms H H' L R E B bs' rs' es' ks'/\WInv bs' rs' es' ks'/\bs'.length + ks'.length<=bs.length + ks.length + 4/\rs'.length + es'.length + ks'.length<=rs.length + es.length + ks.length + 4/\1<=rs'.length;refine cut n9 ?_ ?_
 ·walk_at "a";refine zJ (λ w7=>?_) (λ w7=>?_)
  ·walk_at "a";refine ⟨.inl ⟨rfl,_,SqL.of hR⟩,iE3 _ _ _ ⟨(WQ T).mono,?_⟩⟩;refine iE3 y _ sp (iA5 rfl (bY n0 (by decide)) p1 p4 (λ v H3 pc s3 c0 c4 q3=>?_));obtain ⟨W3,_⟩:=W2.addR hR s3 (W2.newK q3);refine iE3 R _ _ (iA5 rfl rfl (s3 _ _ hR) (zk (by omega)) (iE8 _ _ _ _ bs _ es1 ks (iA6 rfl W3 (I2.knot (r:=⟨.drain,[y],[],pc,[]⟩) (aP _) (aP _) (iA4 ⟨_,rfl⟩ rfl c0 c4)) (by omega) (by simp;omega) (by simp))))
  walk_at "a";refine zJ (λ w3=>?_) (λ w3=>?_)
  ·walk_at "a";refine ⟨.inl ⟨rfl,_,SqL.of hR⟩,iE3 _ _ _ ⟨(zcq T).mono,⟨ms,L,R,E,B,bs,rs,es1,ks,y,c,sp,rfl,W2.here,I2,p1,p4,by omega,by omega,by omega,λ v H3 bs' es' ks' r W3 q3 I3 l1 l2=>?_⟩⟩⟩;have W3:=W2.trans W3;obtain ⟨rv3,hR3,rR3⟩:=W3.hR;obtain ⟨W4,_⟩:=W3.addR hR3 (Same.refl _) q3;have lR3:rv3.length=rs.length:=by rw [rR3.len,af]
   refine iE3 R _ _ (iA5 rfl rfl hR3 (zk (by omega)) (iE8 _ _ _ _ bs' _ es' ks' (iA6 rfl W4 I3 (by omega) (by simp;omega) (by simp))))
  walk_at "a";intro O hO;obtain ⟨W3,nO⟩:=W2.ext (xs:=[]) hO;have hO3:upd H2 O (.lst []) O=some (.lst (iv [])):=nk;have hO0:H O=none:=by
   cases e:H O with
   | none=>rfl
   | some u=>rw [W2.f O u nO e] at hO;cases hO
  generalize upd H2 O (.lst [])=H3 at W3 hO3 ⊢;have mO:O∈O :: ms:=by simp
  walk_at "a";let ni:St->Hp->Prop:=λ σ' H'=>∃ (v10:Nat),σ'=stG L R E B c sp nu (some (.int y)) (some (.ref O)) (some (.int v10)) none none/\GS a (O :: ms) H H' L R E B bs rs es1 ks/\H' O=some (.lst (iv []))/\2<=v10/\v10<=4/\(nu % 9=1->v10=2);refine cut ni ?_ ?_
  ·walk_at "a";refine zJ (λ w1=>?_) (λ w1=>⟨2,iA6 rfl W3 hO3 (by decide) (by decide) (λ _=>rfl)⟩);refine oE1 (zgk (n:=nu / 216)) λ m m7=>oA3 m7 λ em m0 m2=>?_;clear m7;walk_at "a";intro q hq;refine (zq (SqL.of nk) em ?_);have sq:=zf (o:=.lst [V.int 0,.int 0,.int 1,.int 2]) hq;walk_at "a";refine ⟨(2 + m).toNat,iA6 ?_ (W3.same sq) (sq _ _ hO3) (by omega) (by omega) (λ z=>absurd z w1)⟩;rw [show (((2 + m).toNat:Nat):Int)=2 + m by omega]
  clear W3 hO3;intro σ' H4 m9;refine oE1 m9 λ mn m7=>oA6 m7 λ m8 W4 hO4 m2 m4 m1=>?_;clear m7 m9;subst m8;walk_at "a";let nj:St->Hp->Prop:=λ σ' H'=>∃ (v11 v12:Aq) (bs':A1) (outs:A6),σ'=stG L R E B c sp nu (some (.int y)) (some (.ref O)) (some (.int mn)) v11 v12/\GS a (O :: ms) H H' L R E B bs' rs es1 ks/\H' O=some (.lst (iv outs))/\WInv bs' rs (y :: (es1 ++ outs)) (ks ++ outs)/\outs.length=mn/\bs'.length=bs.length + mn;refine cut nj ?_ ?_
  ·walk_at "d";walk_at "a";refine ⟨by omega,by omega,?_⟩;let M4_:Nat->St->Hp->Prop:=λ i σ' H'=>∃ (v11 v12:Aq) (bs':A1) (outs:A6),σ'=stG L R E B c sp nu (some (.int y)) (some (.ref O)) (some (.int mn)) v11 v12/\GS a (O :: ms) H H' L R E B bs' rs es1 ks/\H' O=some (.lst (iv outs))/\WInv bs' rs (y :: (es1 ++ outs)) (ks ++ outs)/\outs.length=i/\bs'.length=bs.length + i;refine wz (n:=(mn:Int).toNat) M4_ (iE4 _ _ bs ([]) (iA6 rfl W4 hO4 (by rw [bU,bU];exact I2) rfl rfl)) ?_ ?_
   ·clear W4 hO4;intro i σ' H5 hi m9;refine oE4 m9 λ v11 v12 bs' outs m7=>oA6 m7 λ m8 W5 hO5 I5 lo lb'=>?_;clear m7 m9;subst m8;have hi4:i < 4:=by omega
    refine oE1 (zhO hi4) λ fa m7=>oA3 m7 λ efa f0 f1=>?_;clear m7;walk_at "a";intro q hq;refine zq (SqL.of nk) efa ?_;have sq:=zf (o:=.lst [V.int 941083987,.int 1726512289,.int 1999483721,.int 1103527591]) hq;have W6:=W5.same sq;have hO6:=sq _ _ hO5;generalize upd H5 q (.lst [V.int 941083987,.int 1726512289,.int 1999483721,.int 1103527591])=H6 at W6 hO6 ⊢;clear W5 hO5 sq hq efa;obtain ⟨bv,hL,rL⟩:=W6.hL;have lL:bv.length=bs'.length:=by rw [rL.len,af]
    walk_at "a";refine ⟨.inl ⟨rfl,_,SqL.of hO6⟩,iE3 _ _ _ ⟨(vW T).mono,iE3 _ _ _ ⟨(jh T).mono,⟨c,fa,rfl,f0,f1,?_⟩⟩⟩⟩;refine iE4 L bv _ sp (iA7 rfl (jw _ _) p1 p4 hL (by omega) (λ rm pc z H7 bk s7 q7=>?_));obtain ⟨W7,_⟩:=W6.addL hL s7 q7;rw [lL];have nOL:O≠L:=λ z=>nO (by rw [z];simp);have hO7:upd H7 L (.lst (bv ++ [.ref z])) O=some (.lst (iv outs)):=by rw [nz nOL];exact s7 _ _ hO6
    generalize upd H7 L (.lst (bv ++ [.ref z]))=H8 at W7 hO7 ⊢;have I7:=I5.belt (b:=(rm,pc)) bk;refine iE3 O _ _ (iA5 rfl rfl hO7 (zk (by rw [zy];omega)) ?_);rw [qP];refine iE4 _ _ (bs' ++ [(rm,pc)]) (outs ++ [(bs'.length:Int)]) (iA6 rfl (W7.setX mO nO hO0) nk ?_ (by simp [lo]) (by simp [lb'];omega));rw [<- bK,<- bK];exact I7
   ·intro σ' H5 m9;refine oE4 m9 λ v11 v12 bs' outs m7=>oA6 m7 λ m8 W5 hO5 I5 lo lb'=>?_;clear m7 m9;subst m8;exact iE4 v11 v12 bs' outs (iA6 rfl W5 hO5 I5 (by omega) (by omega))
  clear W4 hO4;intro σ' H5 m9;refine oE4 m9 λ v11 v12 bs' outs m7=>oA6 m7 λ m8 W5 hO5 I5 lo lb'=>?_;clear m7 m9;subst m8;walk_at "a";refine ⟨.inl ⟨rfl,_,SqL.of W5.hE⟩,iE4 E O (iv es1) (iv outs) (iA6 rfl rfl W5.hE hO5 ?_ ?_)⟩
  ·rw [zy,zy];exact bn (zk (by omega))
  rw [show iv es1 ++ iv outs=iv (es1 ++ outs) by simp [iv]];have W6:=W5.setE (es1 ++ outs);have nOE:O≠E:=λ z=>nO (by rw [z];simp);have hO6:upd H5 E (.lst (iv (es1 ++ outs))) O=some (.lst (iv outs)):=by rw [nz nOE];exact hO5
  generalize upd H5 E (.lst (iv (es1 ++ outs)))=H6 at W6 hO6 ⊢;have W7:=W6.less nO;obtain ⟨rv7,hR7,rR7⟩:=W7.hR;have lR7:rv7.length=rs.length:=by rw [rR7.len,af]
  walk_at "a";refine ⟨.inl ⟨rfl,_,SqL.of hR7⟩,iE3 _ _ _ ⟨(XM T).mono,iE3 _ _ _ ⟨(zbf T).mono,?_⟩⟩⟩;refine iE6 R rv7 rs c _ _ (iA7 rfl hR7 rR7 I5.ro (by omega) (bY n0 (by decide)) (λ H8 kk s8 k0 k1=>?_));refine iE5 y kk (nu % 9) O outs (iA8 rfl (s8 _ _ hO6) (by omega) (by omega) (λ z=>by rw [lo];exact m1 z) k0 k1 (λ v H9 s9 q9=>?_));have s79:=s8.trans s9;have q9:KnP a H9 (New H6) v (Wr y kk (nu % 9) outs):=q9.keep λ b o hb ho=>⟨zB s8 hb,ho⟩;obtain ⟨W9,_⟩:=W7.addR hR7 s79 (W7.newK q9);refine iE3 R _ _ (iA5 rfl rfl (s79 _ _ hR7) (zk (by omega)) ?_);refine iE8 _ _ _ _ bs' _ (es1 ++ outs) ks (iA6 rfl W9 (I5.knot (aP _) cP (zaF (by omega) (by omega) (λ z=>by rw [lo];exact m1 z) k0 k1)) (by omega) (by simp;omega) (by simp))
 intro σ' H3 m9;refine oE8 m9 λ v9 v10 v11 v12 bs' rs' es' ks' m7=>oA6 m7 λ m8 W3 I3 l1 l2 r1=>?_;clear m7 m9;subst m8;walk_at "a";exact k _ _ _ _ _ W3 I3 l1 l2 r1
noncomputable abbrev stC (L R E B:Addr) (c sp:Int) (v6 v7 v8 v9 v10 v11:Aq):St:=[some (.ref L),some (.ref R),some (.ref E),some (.ref B),some (.int c),some (.int sp),v6,v7,v8,v9,v10,v11]
def zfR (a:Ad):Sp:=λ vs H Q _=>∃ (ms:Ab) (L R En B:Addr) (bs:A1) (rs:At) (es ks:A6) (c sp:Int),vs=[.ref L,.ref R,.ref En,.ref B,.int c,.int sp]/\GS a ms H H L R En B bs rs es ks/\WInv bs rs es ks/\1<=sp/\sp<=4/\bs.length + ks.length<=24/\rs.length + es.length + ks.length<=24 /\
 ∀ H' bs' rs' es',GS a ms H H' L R En B bs' rs' es' ks->WInv bs' rs' [] []->bs'.length<=bs.length + ks.length->rs'.length<=rs.length + es.length + ks.length->rs.length<=rs'.length->Q .non H'
def zd7 (T:Txt K mg a):Cal P w K mg base "_law_close" 5 ["_law_belts","_law_knots","_law_ends","_law_loops","_law_cell","_law_span"] [] (zfR a):=T.ma.cal λ F=>by
 refine F.okx zbI ?_ ?_
 ·walk_at "i"
 walk_at "j";refine oE8 h λ ms L R E B bs rs es m7=>oE3 m7 λ ks c sp m8=>oA8 m8 λ n6 W I0 p1 p4 lb lr k=>?_;clear m7 m8 h;subst n6;walk_at "T";refine ⟨_,(qg (qo qC rfl (qt (za (pq 3) zb)) (xL (n:=2) rfl (z9 (qj 6 zbI.nd) (z9 (qj 7 zbI.nd) jF)))  (zh (zo 8 zbI.nd (zx ⟨rfl,rfl,rfl⟩ hr (za (zr zN (pq 4) (zr jG (pq 6) (pq 6))) (za zd zb))))  (zc (zD (zm (qG hr.units1) (pq 2) (zI zb) (zt _))  (zc (zu (qB ao ay ax zL (pq 1) (za (zx ⟨rfl,rfl,rfl⟩ hr (za (pq 7) (za (pq 4) (za (pq 8) (za (pq 5) zb))))) zb))))  (zh (zo 9 zbI.nd (qB ao dG dF Xl (pq 2) (za (zr qu (pq 8) (z6 zY zX (za (pq 2) zb))) zb)))  (zh (zu (qB ao ay ax zL (pq 2) (za (zx ⟨rfl,rfl,rfl⟩ hr (za (pq 0) (za (qd (pq 8)) (za (pq 5) zb)))) zb)))  (zh (zo 10 zbI.nd (zI (za (pq 7) (za (zn (pq 2) (vK xy zd)) zb))))  (qg (zD (zm (qG hr.units1) (z8 (qd (pq 8))) zd (zt _))  (zc (zo 10 zbI.nd (zI (za (zn (pq 2) (vK xy zd)) (za (pq 7) zb)))))  zp)  (zc (zu (qB ao ay ax zL (pq 1) (za (zx ⟨rfl,rfl,rfl⟩ hr (za (pq 9) (za (pq 10) (za (zx ⟨rfl,rfl,rfl⟩ hr (za (pq 1) (za (pq 4) (za (qd (pq 8)) zb)))) (za (z8 (qd (pq 8))) zb))))) zb))))))))))))  (zc (qo qC rfl (qt (za (pq 2) zb)) (xL (n:=2) rfl (z9 (qj 6 zbI.nd) (z9 (qj 11 zbI.nd) jF)))  (zc (zu (qB ao ay ax zL (pq 1) (za (zx ⟨rfl,rfl,rfl⟩ hr (za (pq 11) (za (zx ⟨rfl,rfl,rfl⟩ hr (za (zr zN (pq 4) (zr jG (pq 6) (pq 6))) (za zd zb))) (za (pq 5) zb)))) zb))))))),?_⟩;walk_at "a";let n9:St->Hp->Prop:=λ σ' H'=>∃ (v6 v7 v8 v9 v10:Aq) (bs1:A1) (rs1:At) (es1:A6),σ'=stC L R E B c sp v6 v7 v8 v9 v10 none/\GS a ms H H' L R E B bs1 rs1 es1 ks/\WInv bs1 rs1 es1 []/\bs1.length<=bs.length + ks.length/\rs1.length + es1.length<=rs.length + es.length + ks.length/\rs.length<=rs1.length;refine cut n9 ?_ ?_
 ·walk_at "d";walk_at "a";refine iE2 B _ (iA3 rfl W.hB ?_);let ni:Nat->St->Hp->Prop:=λ i σ H'=>∃ (v6 v7 v8 v9 v10:Aq) (bs1:A1) (rs1:At) (es1:A6),σ=stC L R E B c sp v6 v7 v8 v9 v10 none/\GS a ms H H' L R E B bs1 rs1 es1 ks/\WInv bs1 rs1 es1 (ks.drop i)/\bs1.length<=bs.length + i/\rs1.length + es1.length<=rs.length + es.length + i/\rs.length<=rs1.length;refine Ql (K:=K) (a:=B) (xs:=iv ks) ni
   ⟨_,_,_,_,_,bs,rs,es,rfl,W,I0,aq _,aq _,aq _⟩ (λ i σ H' _ h=>by obtain ⟨_,_,_,_,_,_,_,_,_,W,_⟩:=h;exact SqL.of W.hB) ?_ ?_
  ·clear W I0;intro i x t σ H1 hi ht m9;refine oE8 m9 λ v6 v7 v8 v9 v10 bs1 rs1 es1 m7=>oA6 m7 λ m8 W1 I1 l1 l2 l3=>?_;clear m7 m9;subst m8;obtain ⟨yl,hyl,rfl⟩:=Qj hi;have hil:=(aa.mp hyl).1;rw [zcW hyl] at I1;have s2:=zf (o:=.tup [.int i,.int yl]) ht;have W2:=W1.same s2;refine un2 nk ?_;generalize upd H1 t (.tup [.int i,.int yl])=H2 at W2 ⊢;clear W1 s2 ht;walk_at "a";refine uc (jh T).mono ⟨mul_okR (by omega) (by omega),iE2 _ _ (iA4 rfl (by decide) (by decide) ?_)⟩;have n0:=jw (c + (i:Int) * i) 1726512289;generalize wF (c + (i:Int) * i) 1726512289=nu at n0 ⊢;walk_at "a";intro q hq;have W3:=W2.same (zf (o:=.lst []) hq);refine zfn W3.hE nk ?_;generalize upd H2 q (.lst [])=H3 at W3 ⊢;clear W2 hq;obtain ⟨rv,hR,rR⟩:=W3.hR;have lR:rv.length=rs1.length:=by rw [rR.len,af]
   walk_at "a";refine zJ (λ z=>?_) (λ z=>?_)
   ·walk_at "a";refine ⟨.inl ⟨rfl,_,SqL.of hR⟩,iE3 _ _ _ ⟨(XL T).mono,⟨yl,c,nu,sp,rfl,n0,p1,p4,λ v H4 pc kd s4 c1 c4 d1 d6 dk q4=>?_⟩⟩⟩;obtain ⟨W4,_⟩:=W3.addR hR s4 (W3.newK q4);refine iE3 R _ _ (iA5 rfl rfl (s4 _ _ hR) (zk (by omega)) ?_);exact iE8 _ _ _ _ _ bs1 _ es1 (iA6 rfl W4 (I1.knot (r:=⟨.source,[],[yl],pc,kd⟩) (aP _) (aP _) (iA7 rfl ⟨_,rfl⟩ c1 c4 d1 d6 dk)) (by omega) (by simp;omega) (by simp;omega))
   have el:(0:Int) < es1.length:=by
    rcases dW es1.length with y|y
    ·exact absurd (bw.mp y) z
    ·omega
   walk_at "a";refine iA3 (.inl ⟨rfl,_,SqL.of W3.hE⟩) gJ ⟨_,⟨.inl ⟨_,SqL.of W3.hE,rfl⟩,?_⟩⟩;rw [zy];refine ⟨el,?_⟩;have v0:=aH nu (show (es1.length:Int)≠0 by omega);have v1:=aG nu el;generalize nu % (es1.length:Int)=jj at v0 v1 ⊢;obtain ⟨y,hy⟩:∃ y,es1[jj.toNat]?=some y:=⟨es1[jj.toNat]'(by omega),ac _⟩;refine iE5 E (iv es1) jj jj.toNat (.int y) (iA8 rfl rfl W3.hE (by omega) (by omega) (Xa v0 (by rw [zy];exact v1)) (jf hy) ?_);rw [Xx];have W4:=W3.setE (es1.eraseIdx jj.toNat);have pp:=Z6 hy;have pl:=pp.length_eq;rw [bz] at pl;have I2:=I1.perm pp (aP _);generalize upd H3 E (.lst (iv (es1.eraseIdx jj.toNat)))=H4 at W4 ⊢;generalize es1.eraseIdx jj.toNat=es2 at pp pl W4 I2 ⊢;clear W3 I1 pp rR hR lR;obtain ⟨bv,hL,rL⟩:=W4.hL;have lL:bv.length=bs1.length:=by rw [rL.len,af]
   walk_at "a";refine ⟨.inl ⟨rfl,_,SqL.of W4.hE⟩,iE3 _ _ _ ⟨(vW T).mono,?_⟩⟩;refine iE4 L bv _ sp (iA7 rfl (bY n0 (by decide)) p1 p4 hL (by omega) (λ rm pc z H5 bk s5 q5=>?_));obtain ⟨W5,_⟩:=W4.addL hL s5 q5;rw [lL];generalize upd H5 L (.lst (bv ++ [.ref z]))=H6 at W5 ⊢;have I5:=I2.belt (b:=(rm,pc)) bk;refine iE3 E _ _ (iA5 rfl rfl W5.hE (zk (by rw [zy];omega)) ?_);rw [qP];have W6:=W5.setE (es2 ++ [(bs1.length:Int)]);generalize upd H6 E (.lst (iv (es2 ++ [(bs1.length:Int)])))=H7 at W6 ⊢;clear W5 W4 hL rL lL;walk_at "a";refine zq (SqL.of W6.hE) Qr λ O hO=>?_;have W7:=W6.same (zf (o:=.lst [V.int yl,.int (bs1.length:Int)]) hO);have hO7:upd H7 O (.lst [V.int yl,.int (bs1.length:Int)]) O=some (.lst (iv [yl,(bs1.length:Int)])):=nk;generalize upd H7 O (.lst [V.int yl,.int (bs1.length:Int)])=H8 at W7 hO7 ⊢;clear W6 hO;walk_at "a";let nj:St->Hp->Prop:=λ σ' H'=>∃ (O:Addr) (outs:A6),σ'=stC L R E B c sp (some (.int i)) (some (.int yl)) (some (.int nu)) (some (.int y)) (some (.ref O)) none/\GS a ms H H' L R E B (bs1 ++ [(rm,pc)]) rs1 (es2 ++ [(bs1.length:Int)]) ks/\H' O=some (.lst (iv outs))/\outs.Perm [yl,(bs1.length:Int)];refine cut nj ?_ ?_
   ·walk_at "a";walk_at "f";walk_at "a";refine zJ (λ b=>?_) (λ b=>(iE2 O _ (iA4 rfl W7 hO7 (aP _))));walk_at "a";refine zq (SqL.of W7.hE) Qr λ O2 hO2=>?_;walk_at "a";exact iE2 O2 ([(bs1.length:Int),yl]) (iA4 rfl (W7.same (zf hO2)) nk (List.Perm.swap _ _ _))
   clear W7 hO7;intro σ' H9 m9;refine oE2 m9 λ O outs m7=>oA4 m7 λ m8 W8 hO8 po=>?_;clear m7 m9;subst m8;have lo:outs.length=2:=po.length_eq;obtain ⟨rv,hR,rR⟩:=W8.hR;have lR:rv.length=rs1.length:=by rw [rR.len,af]
   walk_at "a";refine ⟨.inl ⟨rfl,_,SqL.of hR⟩,iE3 _ _ _ ⟨(XM T).mono,iE3 _ _ _ ⟨(zbf T).mono,?_⟩⟩⟩;refine iE6 R rv rs1 c _ _ (iA7 rfl hR rR I5.ro (by omega) (bY n0 (by decide)) (λ H10 kk s10 k0 k1=>?_));refine iE5 y kk (nu / 48 % 3) O outs (iA8 rfl (s10 _ _ hO8) (by omega) (by omega) (λ z=>lo) k0 k1 (λ v H11 s11 q11=>?_));have s9:=s10.trans s11;have q11:KnP a H11 (New H9) v (Wr y kk (nu / 48 % 3) outs):=q11.keep λ b o hb ho=>⟨zB s10 hb,ho⟩;obtain ⟨W11,_⟩:=W8.addR hR s9 (W8.newK q11);refine iE3 R _ _ (iA5 rfl rfl (s9 _ _ hR) (zk (by omega)) ?_);refine iE8 _ _ _ _ _ _ _ (es2 ++ [(bs1.length:Int)]) (iA6 rfl W11 (I5.knot (ks':=ks.drop (i + 1)) (aP _) ?_ (zaF (by omega) (by omega) (λ _=>lo) k0 k1)) (by simp;omega) (by simp;omega) (by simp;omega));refine (cy _ po).trans ?_;exact List.Perm.cons _ cP
  ·intro σ H1 m9;refine oE8 m9 λ v6 v7 v8 v9 v10 bs1 rs1 es1 m7=>oA6 m7 λ m8 W1 I1 l1 l2 l3=>?_;clear m7 m9;subst m8;rw [zy] at I1 l1 l2;rw [List.drop_length] at I1;exact iE8 _ _ _ _ _ bs1 rs1 es1 (iA6 rfl W1 I1 l1 l2 l3)
 clear W I0;intro σ' H1 m9;refine oE8 m9 λ v6 v7 v8 v9 v10 bs1 rs1 es1 m7=>oA6 m7 λ m8 W1 I1 l1 l2 l3=>?_;clear m7 m9;subst m8;walk_at "d";walk_at "a";refine iE2 E _ (iA3 rfl W1.hE ?_);let M4_:Nat->St->Hp->Prop:=λ i σ H'=>∃ (v6 v11:Aq) (rs2:At),σ=stC L R E B c sp v6 v7 v8 v9 v10 v11/\GS a ms H H' L R E B bs1 rs2 es1 ks/\WInv bs1 rs2 (es1.drop i) []/\rs2.length + (es1.length - i)<=rs1.length + es1.length/\rs1.length<=rs2.length;refine Ql (K:=K) (a:=E) (xs:=iv es1) M4_
  ⟨_,_,rs1,rfl,W1,I1,by omega,aq _⟩ (λ i σ H' _ h=>by obtain ⟨_,_,_,_,W,_⟩:=h;exact SqL.of W.hE) ?_ ?_
 ·clear W1 I1;intro i x t σ H2 hi ht m9;refine oE3 m9 λ v6 v11 rs2 m7=>oA5 m7 λ m8 W2 I2 m1 m2=>?_;clear m7 m9;subst m8;obtain ⟨y,hy,rfl⟩:=Qj hi;have hil:=(aa.mp hy).1;rw [zcW hy] at I2;have s3:=zf (o:=.tup [.int i,.int y]) ht;have W3:=W2.same s3;refine un2 nk ?_;generalize upd H2 t (.tup [.int i,.int y])=H3 at W3 ⊢;clear W2 s3 ht;obtain ⟨rv,hR,rR⟩:=W3.hR;have lR:rv.length=rs2.length:=by rw [rR.len,af]
  walk_at "a";refine ⟨.inl ⟨rfl,_,SqL.of hR⟩,iE3 _ _ _ ⟨(WQ T).mono,iE3 _ _ _ (iA3 ((jh T).mono) (mul_okR (by omega) (by omega)) ⟨_,_,rfl,by decide,by decide,?_⟩)⟩⟩;refine iE3 y _ sp (iA5 rfl (jw _ _) p1 p4 (λ v H4 pc s4 c0 c4 q4=>?_));obtain ⟨W4,_⟩:=W3.addR hR s4 (W3.newK q4);refine iE3 R _ _ (iA5 rfl rfl (s4 _ _ hR) (zk (by omega)) ?_);exact iE3 _ _ _ (iA5 rfl W4 (I2.knot (r:=⟨.drain,[y],[],pc,[]⟩) (aP _) (aP _) (iA4 ⟨_,rfl⟩ rfl c0 c4)) (by simp;omega) (by simp;omega))
 ·intro σ H2 m9;refine oE3 m9 λ v6 v11 rs2 m7=>oA5 m7 λ m8 W2 I2 m1 m2=>?_;clear m7 m9;subst m8;rw [zy] at I2 m1;rw [List.drop_length] at I2;walk_at "a";exact k _ _ _ _ W2 I2 l1 (by omega) (by omega)
noncomputable abbrev stK (l:Addr) (c nu:Int) (v4 v5 v6 v7 v8 v9 v10 v11 v12 v13 v14:Aq):St:=[some (.ref l),some (.int c),some (.int nu),some (.int (1 + nu % 4)),v4,v5,v6,v7,v8,v9,v10,v11,v12,v13,v14]
def zfY {x y:Int} (x1:1<=x) (x3:x<=6) (y1:1<=y) (y4:y<=4):zS [(x,y),(2,1),(1,y)] [⟨.joiner,[0,1],[2],0,[]⟩,⟨.parter,[2],[1,0],0,[]⟩]/\(∀ b∈[(x,y),(2,1),(1,y)],zC b.1 b.2)/\∀ r∈([⟨.joiner,[0,1],[2],0,[]⟩,⟨.parter,[2],[1,0],0,[]⟩]:At),r.ok:=by
 refine ⟨⟨⟨⟨by simp,by simp⟩,by simp,by simp⟩,?_,?_⟩,λ b hb=>?_,λ r hr=>?_⟩
 ·show List.Perm [2,1,0] [0,1,2]
  decide
 ·show List.Perm [0,1,2] [0,1,2]
  exact aP _
 ·simp only [aw,bZ,cK] at hb;rcases hb with rfl|rfl|rfl
  ·exact iA4 x1 x3 y1 y4
  ·exact iA4 (by decide) (by decide) (by decide) (by decide)
  ·exact iA4 (show (1:Int)<=1 by decide) (show (1:Int)<=6 by decide) y1 y4
 ·simp only [aw,bZ,cK] at hr;rcases hr with rfl|rfl
  ·exact ⟨⟨_,rfl⟩,by simp,by simp⟩
  ·exact ⟨⟨_,rfl⟩,by simp,by simp⟩
def zgo {k1 k2:A6} (a1:1<=k1.length) (a6:k1.length<=6) (ak:xR k1) (b1:1<=k2.length) (b6:k2.length<=6) (bk:xR k2):zS [(1,1),(1,1)] [⟨.source,[],[0],3,k1⟩,⟨.source,[],[1],4,k2⟩,⟨.drain,[0],[],1,[]⟩,⟨.drain,[1],[],1,[]⟩]/\(∀ b∈[((1:Int),(1:Int)),(1,1)],zC b.1 b.2)/\∀ r∈([⟨.source,[],[0],3,k1⟩,⟨.source,[],[1],4,k2⟩,⟨.drain,[0],[],1,[]⟩,⟨.drain,[1],[],1,[]⟩]:At),r.ok:=by
 refine ⟨⟨⟨⟨by simp,by simp⟩,by simp,by simp⟩,?_,?_⟩,λ b hb=>?_,λ r hr=>?_⟩
 ·show List.Perm [0,1] [0,1]
  exact aP _
 ·show List.Perm [0,1] [0,1]
  exact aP _
 ·simp only [aw,bZ,cK] at hb;rcases hb with rfl|rfl <;> exact ⟨by decide,by decide,by decide,by decide⟩
 ·simp only [aw,bZ,cK] at hr;rcases hr with rfl|rfl|rfl|rfl
  ·exact iA7 rfl ⟨_,rfl⟩ (show (1:Int)<=3 by decide) (show (3:Int)<=4 by decide) a1 a6 ak
  ·exact iA7 rfl ⟨_,rfl⟩ (show (1:Int)<=4 by decide) (show (4:Int)<=4 by decide) b1 b6 bk
  ·exact iA4 ⟨_,rfl⟩ rfl (by decide) (by decide)
  ·exact iA4 ⟨_,rfl⟩ rfl (by decide) (by decide)
inductive spWorkOf (K:A0) (a:Ad) (vs:Ap) (H:Hp) (Q:VK) (E:XK):Prop
 | i (l:Addr) (ns:A6):vs=[.ref l]->SqL K H l (iv ns)->(∀ v H' bs rs,Same H H'->Rep H' (Off []) v (qE a bs rs)->zS bs rs->(∀ b∈bs,zC b.1 b.2)->(∀ r∈rs,r.ok)->Q v H')->spWorkOf K a vs H Q E
theorem zfy (T:Txt K mg a):Cal P w K mg base "_law_work" 7 ["_law_script"] [] (spWorkOf K a):=T.my.cal λ F=>by
 refine F.okx zdp ?_ ?_
 ·walk_at "i"
 walk_at "j";rcases h with ⟨l,ns,rfl,hl,k⟩;walk_at "T";refine ⟨_,(zh (J8 (i:=1) zdp.nd rfl (Or.inr rfl) (zx ⟨rfl,rfl,rfl⟩ hr (za (pq 0) (za zd zb))))  (zh (zo 2 zdp.nd (zx ⟨rfl,rfl,rfl⟩ hr (za (pq 1) (za zd zb))))  (zh (zo 3 zdp.nd (zr zN zd (z8 (pq 2))))  (zh (zo 4 zdp.nd (zr zN zd (z8 (qd (pq 2)))))  (qg (zD (zm (qG hr.units1) (z8 (qd (pq 2))) zd (zt _))  (zc (zo 4 zdp.nd (zr zN (pq 4) zd)))  zp)  (zh (zD (zm (qG hr.units1) (z8 (qd (pq 2))) zd (zt _))  (zh (zo 5 zdp.nd (zI (za (qw (x:="Belt") ⟨rfl,rfl,rfl⟩ hr (za (zr zN zd (z8 (pq 2))) (za (pq 3) zb))) (za (qw (x:="Belt") ⟨rfl,rfl,rfl⟩ hr (za zd (za zd zb))) (za (qw (x:="Belt") ⟨rfl,rfl,rfl⟩ hr (za zd (za (pq 3) zb))) zb)))))  (zc (zl (qw (x:="Work") ⟨rfl,rfl,rfl⟩ hr (za (pq 5) (za (zI (za (qw (x:="Joiner") ⟨rfl,rfl,rfl⟩ hr (za (zI (za zd (za zd zb))) (za zd zb))) (za (qw (x:="Parter") ⟨rfl,rfl,rfl⟩ hr (za zd (za (zI (za zd (za zd zb))) zb))) zb))) zb))))))  zp)  (zh (zD (zm (qG hr.units1) (z8 (qd (pq 2))) zd (zt _))  (zh (zo 6 zdp.nd (zn (zI (za (qL (za zd (za zd zb))) (za (qL (za zd (za zd zb))) zb))) (z8 (qd (pq 2)))))  (zh (Wq (i:=7) zdp.nd rfl (Or.inl rfl) (vars:=["_law_count"]) (caps:=[1]) (N:=["_law_count","_law_first"]) (ON:=["_law_script","_law_first","_law_number","_law_span","_law_many","_law_ring","_law_counts","_law_kinds","_law_lanes","_law_belts","_law_knots","_law_ends","_law_loops","_law_cell","_law_cut"]) (osc:=ze Z3) rfl rfl (by first|decide +kernel|kernel_rfl) rfl rfl (qp (pq 6)) (λ s H fp m5=>(qj 0 (show (["_law_count","_law_first"]:A8).Nodup from by decide +kernel))) (λ s H fp m5=>qk) (λ s H fp m5=>(jK (vars:=["_law_k"]) (caps:=[1]) (N:=["_law_k","_law_first"]) (ON:=["_law_count","_law_first"]) (osc:=_) rfl rfl (by first|decide +kernel|kernel_rfl) rfl rfl (jP (za (pq 0) zb)) (λ s H fp m5=>(qj 0 (show (["_law_k","_law_first"]:A8).Nodup from by decide +kernel))) (λ s H fp m5=>qk) (λ s H fp m5=>(zbR (zr zN (pq 1) (pq 0)))))))  (zh (zo 8 zdp.nd (zI (za (qw (x:="Source") ⟨rfl,rfl,rfl⟩ hr (za zd (za zd (za (zn (pq 7) zd) zb)))) (za (qw (x:="Source") ⟨rfl,rfl,rfl⟩ hr (za zd (za zd (za (zn (pq 7) zd) zb)))) (za (qw (x:="Drain") ⟨rfl,rfl,rfl⟩ hr (za zd (za zd zb))) (za (qw (x:="Drain") ⟨rfl,rfl,rfl⟩ hr (za zd (za zd zb))) zb))))))  (zc (zl (qw (x:="Work") ⟨rfl,rfl,rfl⟩ hr (za (zI (za (qw (x:="Belt") ⟨rfl,rfl,rfl⟩ hr (za zd (za zd zb))) (za (qw (x:="Belt") ⟨rfl,rfl,rfl⟩ hr (za zd (za zd zb))) zb))) (za (pq 8) zb))))))))  zp)  (zh (zo 9 zdp.nd (zI zb))  (zh (zo 10 zdp.nd (zI zb))  (zh (zo 11 zdp.nd (zI zb))  (zh (zo 12 zdp.nd (zI zb))  (qg (qo qC rfl (qp (xM ZB (pq 0) (xX zd) (xX (zr zN zd (pq 4))))) (qj 13 zdp.nd)  (zc (zu (zx ⟨rfl,rfl,rfl⟩ hr (za (pq 9) (za (pq 10) (za (pq 11) (za (pq 12) (za (pq 13) (za (pq 3) zb))))))))))  (qg (zD (zm (zhv hr.units1) (pq 10) (zI zb) (zt _))  (zc (zu (zx ⟨rfl,rfl,rfl⟩ hr (za (pq 9) (za (pq 10) (za (pq 11) (za (pq 12) (za (pq 1) (za (pq 3) zb)))))))))  zp)  (zh (zu (zx ⟨rfl,rfl,rfl⟩ hr (za (pq 9) (za (pq 10) (za (pq 11) (za (pq 12) (za (pq 1) (za (pq 3) zb))))))))  (zh (zo 14 zdp.nd (zr qu (qd (pq 2)) (z6 zY zX (za (pq 10) zb))))  (zh (zo 10 zdp.nd (zr zN (xM ZB (pq 10) (xX (pq 14)) Zd) (xM ZB (pq 10) Zd (xX (pq 14)))))  (qg (zD (zm (qG hr.units1) (z8 (qd (pq 2))) zd (zt _))  (zc (zo 10 zdp.nd (zgd rfl (za (pq 10) zb))))  zp)  (zc (zl (qw (x:="Work") ⟨rfl,rfl,rfl⟩ hr (za (pq 9) (za (pq 10) zb)))))))))))))))))))))),?_⟩;walk_at "a";refine uc (zfz T).mono (iE3 l ns 0 (iA3 rfl hl ?_));generalize Q4 ns 0=c;walk_at "a";refine uc (jh T).mono (iE2 c _ (iA4 rfl (by decide) (by decide) ?_));have n0:=jw c 1873046521;generalize wF c 1873046521=nu at n0 ⊢;have s0:=aH nu (show (4:Int)≠0 by decide);have s1:=aG nu (show (0:Int) < 4 by decide);have m0:=aH (nu / 4) (show (4:Int)≠0 by decide);have m1:=aG (nu / 4) (show (0:Int) < 4 by decide);walk_at "a";walk_at "f";walk_at "a";let n9:St->Hp->Prop:=λ σ' H'=>∃ m:Nat,σ'=stK l c nu (some (.int m)) none none none none none none none none none none/\H'=H/\m<=6;refine cut n9 ?_ ?_
 ·walk_at "a";walk_at "f";walk_at "a";refine zJ (λ _=>?_) (λ _=>?_)
  ·walk_at "a";refine ⟨(1 + nu / 4 % 4 + 2).toNat,iA3 ?_ rfl (by omega)⟩;rw [show (((1 + nu / 4 % 4 + 2).toNat:Nat):Int)=1 + nu / 4 % 4 + 2 by omega]
  ·refine ⟨(1 + nu / 4 % 4).toNat,iA3 ?_ rfl (by omega)⟩;rw [show (((1 + nu / 4 % 4).toNat:Nat):Int)=1 + nu / 4 % 4 by omega]
 intro σ' H' m9;refine oE1 m9 λ mn m7=>oA3 m7 λ m8 n6 m6=>?_;clear m7 m9;subst m8 n6;clear m0 m1;walk_at "a";walk_at "f";walk_at "a";refine zJ (λ _=>?_) (λ _=>?_)
 ·have z0:=aH nu (show (3:Int)≠0 by decide);have z1:=aG nu (show (0:Int) < 3 by decide);walk_at "a";refine iE4 a.i _ _ _ ⟨(ZS T).mono,?_⟩;intro b1 d1 hb1 hd1 _;refine Zh hb1 hd1 (iA4 (by omega) (by omega) (by omega) (by omega)) λ H1 s1 q1=>⟨rfl,?_⟩;refine iE4 a.i _ _ _ ⟨(ZS T).mono,?_⟩;intro b2 d2 hb2 hd2 _;refine Zh hb2 hd2 (iA4 (by decide) (by decide) (by decide) (by decide)) λ H2 s2 q2=>⟨rfl,?_⟩;refine iE4 a.i _ _ _ ⟨(ZS T).mono,?_⟩;intro b3 d3 hb3 hd3 _;refine Zh hb3 hd3 (iA4 (by decide) (by decide) (by omega) (by omega)) λ H3 s3 q3=>⟨rfl,?_⟩;intro L hL;have s4:=zf (o:=.lst [V.ref b1,.ref b2,.ref b3]) hL;have hL4:upd H3 L (.lst [V.ref b1,.ref b2,.ref b3]) L=some (.lst [V.ref b1,.ref b2,.ref b3]):=nk;generalize upd H3 L (.lst [V.ref b1,.ref b2,.ref b3])=H4 at s4 hL4 ⊢;walk_at "a";refine iE4 a.q _ _ _ ⟨(zb5 T).mono,(iE4 a.p _ _ _ ⟨(Xv T).mono,λ j hj=>?_⟩)⟩;have s5:=zf (o:=.lst [V.int 0,.int 1]) hj;have hj5:upd H4 j (.lst [V.int 0,.int 1]) j=some (.lst (iv [0,1])):=nk;generalize upd H4 j (.lst [V.int 0,.int 1])=H5 at s5 hj5 ⊢;intro k1 e1 hk1 he1 _;refine Ww hk1 he1 hj5 (by decide) (by decide) λ H6 s6 q6=>⟨rfl,?_⟩;refine iE4 a.m _ _ _ ⟨(Xu T).mono,λ j2 hj2=>?_⟩;have s7:=zf (o:=.lst [V.int 1,.int 0]) hj2;have hj7:upd H6 j2 (.lst [V.int 1,.int 0]) j2=some (.lst (iv [1,0])):=nk;generalize upd H6 j2 (.lst [V.int 1,.int 0])=H7 at s7 hj7 ⊢;intro k2 e2 hk2 he2 _;refine Wv hk2 he2 hj7 (by decide) (by decide) λ H8 s8 q8=>⟨rfl,?_⟩;intro R hR;have s9:=zf (o:=.lst [V.ref k1,.ref k2]) hR;have hR9:upd H8 R (.lst [V.ref k1,.ref k2]) R=some (.lst [V.ref k1,.ref k2]):=nk;generalize upd H8 R (.lst [V.ref k1,.ref k2])=H9 at s9 hR9 ⊢;have t69:=(s7.trans s8).trans s9;have t49:=(s5.trans s6).trans t69;have t19:=((s2.trans s3).trans s4).trans t49;have tr:∀ {H1 H2:Hp} {p:A5} {v:V} {d:D},Rep H1 p v d->Same H1 H2->Rep H2 (λ _=>True) v d:=λ r s=>r.keep λ b o _ hb=>⟨trivial,s b o hb⟩;intro z dz hz hdz _;obtain ⟨o1,o2,o3⟩:=zfY (x:=1 + nu % 3) (y:=1 + nu % 4) (by omega) (by omega) (by omega) (by omega);refine VD (p:=λ _=>True) (q:=λ _=>True) (bs:=[(1 + nu % 3,1 + nu % 4),(2,1),(1,1 + nu % 4)]) (rs:=[⟨.joiner,[0,1],[2],0,[]⟩,⟨.parter,[2],[1,0],0,[]⟩]) hz hdz (t49 _ _ hL4) hR9 ?_ ?_ ?_ ?_ ?_ λ H10 s10 r10=>⟨rfl,k _ _ _ _ ((s1.trans t19).trans s10) r10 ?_ ?_ ?_⟩
  ·exact .cons (tr q1 t19) (.cons (tr q2 ((s3.trans s4).trans t49)) (.cons (tr q3 (s4.trans t49)) .nil))
  ·exact .cons (tr q6 t69) (.cons (tr q8 s9) .nil)
  ·exact o1
  ·exact o2
  ·exact o3
  ·exact o1
  ·exact o2
  ·exact o3
 walk_at "a";walk_at "f";walk_at "a";refine zJ (λ _=>?_) (λ _=>?_)
 ·walk_at "a";intro p hp p1 hp1 p2 hp2;have sA:=((zf (o:=.tup [V.int 5,.int 4]) hp).trans (zf (o:=.tup [V.int 3,.int 5]) hp1)).trans (zf (o:=.lst [V.ref p,.ref p1]) hp2);have g1:=nB (o:=.lst [V.ref p,.ref p1]) (nB (o:=.tup [V.int 3,.int 5]) (nk (H:=H') (a:=p) (o:=.tup [V.int 5,.int 4])) hp1) hp2;have g2:=nB (o:=.lst [V.ref p,.ref p1]) (nk (H:=upd H' p (.tup [V.int 5,.int 4])) (a:=p1) (o:=.tup [V.int 3,.int 5])) hp2;have g3:upd (upd (upd H' p (.tup [V.int 5,.int 4])) p1 (.tup [V.int 3,.int 5])) p2 (.lst [V.ref p,.ref p1]) p2=some (.lst [V.ref p,.ref p1]):=nk;generalize upd (upd (upd H' p (.tup [V.int 5,.int 4])) p1 (.tup [V.int 3,.int 5])) p2 (.lst [V.ref p,.ref p1])=H1 at sA g1 g2 g3 ⊢;obtain ⟨tc,u1,u2,etc,htc,a1,a6,b1,b6⟩:∃ (tc:Addr) (u1 u2:Int),atI [V.ref p,.ref p1] (nu / 51200 % 2)=some (.ref tc)/\H1 tc=some (.tup [.int u1,.int u2])/\1<=u1/\u1<=6/\1<=u2/\u2<=6:=by
   have h:nu / 51200 % 2=0\/nu / 51200 % 2=1:=by omega
   rcases h with h|h <;> rw [h]
   ·exact iE3 p 5 4 (iA6 rfl g1 (by decide) (by decide) (by decide) (by decide))
   ·exact iE3 p1 3 5 (iA6 rfl g2 (by decide) (by decide) (by decide) (by decide))
  refine zq (SqL.of g3) etc ?_;clear g1 g2 g3 etc hp hp1 hp2;walk_at "e";walk_at "a";refine ⟨tc,rfl,.inr ⟨⟨_,SqT.of htc⟩,λ _ _ _ _ mY hacc=>?_⟩⟩;let ni:Nat->St->Hp->Prop:=λ i σ H'=>∃ (v:Aq) (as:Ab),σ=[v,some (.int c)]/\Same H1 H'/\H' mY=some (.lst (as.map V.ref))/\as.length=i/\∀ (j:Nat) b,as[j]?=some b->b≠mY/\∃ kd:List Int,H' b=some (.lst (iv kd))/\1<=kd.length/\kd.length<=6/\xR kd;refine ziy (K:=K) (a:=tc) (xs:=[.int u1,.int u2]) ni (iE2 _ ([]) (iA5 rfl (zf hacc) nk rfl (λ j b h=>by simp at h))) (λ i σ H' _ ⟨_,_,_,s,_⟩=>SqT.of (s _ _ htc)) ?_ ?_
  ·intro i x σ H2 hi m9;refine oE2 m9 λ v as m7=>oA5 m7 λ m8 s2 ha la hk=>?_;clear m7 m9;subst m8;obtain ⟨u,rfl,ub,u6⟩:∃ u:Int,x=.int u/\1<=u/\u<=6:=by
    match i,hi with
    | 0,hi=>cases hi;exact ⟨u1,rfl,a1,a6⟩
    | 1,hi=>cases hi;exact ⟨u2,rfl,b1,b6⟩
   have la2:i < 2:=(aa.mp hi).1;walk_at "e";walk_at "a";refine ⟨by omega,by omega,λ _ _ _ _ ac2 hac2=>?_⟩;let nj:Nat->St->Hp->Prop:=λ j σ H'=>∃ v ks,σ=[v,some (.int c)]/\Same H2 H'/\ks.length=j/\xR ks/\H' ac2=some (.lst (iv ks));refine wz (n:=u.toNat) nj (iE2 _ ([]) (iA5 rfl (zf hac2) rfl (λ _ z=>nomatch z) nk)) ?_ ?_
   ·intro j σ H3 hj m9;refine oE2 m9 λ v ks m7=>oA5 m7 λ m8 s3 lk hkk ha3=>?_;clear m7 m9;subst m8;walk_at "a";have x0:=aH (c + (0 + (j:Int))) (show (1000000000000000000000000000000:Int)≠0 by decide);have x1:=aG (c + (0 + (j:Int))) (show (0:Int) < 1000000000000000000000000000000 by decide);generalize (c + (0 + (j:Int))) % 1000000000000000000000000000000=kk at x0 x1 ⊢;refine ⟨_,iA3 ha3 (zk (by rw [zy];omega)) (iE2 _ (ks ++ [kk]) (iA5 rfl (λ b o hb=>by rw [nz (nA hb hac2)];exact s3 b o hb) (by simp [lk]) ?_ (by rw [nk,qP])))⟩;intro z hz;rcases aF.mp hz with hz|hz
    ·exact hkk z hz
    ·rw [ar.mp hz];exact ⟨x0,x1⟩
   intro σ H3 m9;refine oE2 m9 λ v ks m7=>oA5 m7 λ m8 s3 lk hkk ha3=>?_;clear m7 m9;subst m8;have nac:ac2≠mY:=(nA ha hac2).symm;refine ⟨_,iA3 (s3 _ _ ha) (zk (by rw [af];omega)) (iE2 _ (as ++ [ac2]) (iA5 rfl (λ b o hb=>by rw [nz (nA hb hacc)];exact s3 _ _ (s2 b o hb)) (by rw [nk];simp) (by simp [la]) (λ j b h=>?_)))⟩;by_cases hj:j < as.length
   ·rw [aT hj] at h;refine oA2 (hk j b h) λ n1 m7=>oE1 m7 λ kd m8=>oA2 m8 λ h1 h2=>?_;clear m7 m8;exact ⟨n1,⟨kd,⟨by rw [nz n1];exact s3 _ _ h1,h2⟩⟩⟩
   ·rw [aJ (by omega)] at h;have:=(aa.mp h).1;rw [show j - as.length=0 by simp at this;omega] at h;cases h;exact ⟨nac,⟨ks,iA4 (by rw [nz nac];exact ha3) (by omega) (by omega) hkk⟩⟩
  intro σ H2 m9;refine oE2 m9 λ v as m7=>oA5 m7 λ m8 s2 ha la hk=>?_;clear m7 m9;subst m8;obtain ⟨q1,q2,rfl⟩:∃ q1 q2,as=[q1,q2]:=by
   match as,la with
   | [x,y],_=>exact ⟨x,y,rfl⟩
  refine oA2 (hk 0 q1 rfl) λ _ m7=>oE1 m7 λ kd1 m8=>oA4 m8 λ h1 k11 k16 kk1=>?_;clear m7 m8;refine oA2 (hk 1 q2 rfl) λ _ m7=>oE1 m7 λ kd2 m8=>oA4 m8 λ h2 k21 k26 kk2=>?_;clear m7 m8;have ha:H2 mY=some (.lst [V.ref q1,.ref q2]):=ha;clear hk la htc hacc;walk_at "a";refine iE4 a.k _ _ _ ⟨(Qh T).mono,zq (SqL.of ha) at0 ?_⟩;intro z1 d1 hz1 hd1 _;refine QM hz1 hd1 h1 (by decide) (by decide) k11 k16 kk1 λ H3 s3 w1=>⟨rfl,?_⟩;refine iE4 a.k _ _ _ ⟨(Qh T).mono,zq (SqL.of (s3 _ _ ha)) (show atI _ 1=some (.ref q2) from rfl) ?_⟩;intro z2 d2 hz2 hd2 _;refine QM hz2 hd2 (s3 _ _ h2) (by decide) (by decide) k21 k26 kk2 λ H4 s4 w2=>⟨rfl,?_⟩;refine iE4 a.l _ _ _ ⟨(Qi T).mono,?_⟩;intro z3 d3 hz3 hd3 _;refine Qa hz3 hd3 (by decide) (by decide) λ H5 s5 w3=>⟨rfl,?_⟩;refine iE4 a.l _ _ _ ⟨(Qi T).mono,?_⟩;intro z4 d4 hz4 hd4 _;refine Qa hz4 hd4 (by decide) (by decide) λ H6 s6 w4=>⟨rfl,?_⟩;intro R hR;have s7:=zf (o:=.lst [V.ref z1,.ref z2,.ref z3,.ref z4]) hR;have hR7:upd H6 R (.lst [V.ref z1,.ref z2,.ref z3,.ref z4]) R=some (.lst [V.ref z1,.ref z2,.ref z3,.ref z4]):=nk;generalize upd H6 R (.lst [V.ref z1,.ref z2,.ref z3,.ref z4])=H7 at s7 hR7 ⊢;walk_at "a";refine iE4 a.q _ _ _ ⟨(zb5 T).mono,(iE4 a.i _ _ _ ⟨(ZS T).mono,?_⟩)⟩;intro b1 f1 hb1 hf1 _;refine Zh hb1 hf1 (iA4 (by decide) (by decide) (by decide) (by decide)) λ H8 s8 r1=>⟨rfl,?_⟩;refine iE4 a.i _ _ _ ⟨(ZS T).mono,?_⟩;intro b2 f2 hb2 hf2 _;refine Zh hb2 hf2 (iA4 (by decide) (by decide) (by decide) (by decide)) λ H9 s9 r2=>⟨rfl,?_⟩;intro L hL;have s10:=zf (o:=.lst [V.ref b1,.ref b2]) hL;have hL10:upd H9 L (.lst [V.ref b1,.ref b2]) L=some (.lst [V.ref b1,.ref b2]):=nk;generalize upd H9 L (.lst [V.ref b1,.ref b2])=H10 at s10 hL10 ⊢;have tr:∀ {H1 H2:Hp} {p:A5} {v:V} {d:D},Rep H1 p v d->Same H1 H2->Rep H2 (λ _=>True) v d:=λ r s=>r.keep λ b o _ hb=>⟨trivial,s b o hb⟩;have t7:=(s8.trans s9).trans s10;have t6:=s7.trans t7;have t5:=s6.trans t6;have t4:=s5.trans t5;have t3:=s4.trans t4;obtain ⟨o1,o2,o3⟩:=zgo k11 k16 kk1 k21 k26 kk2;intro z dz hz hdz _;refine VD (p:=λ _=>True) (q:=λ _=>True) (bs:=[(1,1),(1,1)]) (rs:=[⟨.source,[],[0],3,kd1⟩,⟨.source,[],[1],4,kd2⟩,⟨.drain,[0],[],1,[]⟩,⟨.drain,[1],[],1,[]⟩]) hz hdz hL10 (t7 _ _ hR7) (.cons (tr r1 (s9.trans s10)) (.cons (tr r2 s10) .nil)) (.cons (tr w1 t3) (.cons (tr w2 t4) (.cons (tr w3 t5) (.cons (tr w4 t6) .nil)))) o1 o2 o3 λ H11 s11 r11=>⟨rfl,k _ _ _ _ (((sA.trans s2).trans (s3.trans t3)).trans s11) r11 o1 o2 o3⟩
 walk_at "a";intro L hL;walk_at "a";intro R hR;walk_at "a";intro E hE;walk_at "a";intro B hB;have sH:=(((zf (o:=.lst []) hL).trans (zf (o:=.lst []) hR)).trans (zf (o:=.lst []) hE)).trans (zf (o:=.lst []) hB);have nw:∀ m∈ms4 L R E B,H' m=none:=λ m hm=>by
  simp only [aw,bZ,cK] at hm;rcases hm with rfl|rfl|rfl|rfl
  ·exact hL
  ·exact zT hR
  ·exact zT (zT hE)
  ·exact zT (zT (zT hB))
 have e1:=nB (o:=.lst []) (nB (o:=.lst []) (nB (o:=.lst []) (nk (H:=H') (a:=L) (o:=.lst [])) hR) hE) hB;have e2:=nB (o:=.lst []) (nB (o:=.lst []) (nk (H:=upd H' L (.lst [])) (a:=R) (o:=.lst [])) hE) hB;have e3:=nB (o:=.lst []) (nk (H:=upd (upd H' L (.lst [])) R (.lst [])) (a:=E) (o:=.lst [])) hB;have e4:upd (upd (upd (upd H' L (.lst [])) R (.lst [])) E (.lst [])) B (.lst []) B=some (.lst []):=nk;have W0:GS a (ms4 L R E B) (upd (upd (upd (upd H' L (.lst [])) R (.lst [])) E (.lst [])) B (.lst [])) (upd (upd (upd (upd H' L (.lst [])) R (.lst [])) E (.lst [])) B (.lst [])) L R E B [] [] [] [] :=
  ⟨Fr.refl,nA nk hR,nA (nB nk hR) hE,nA (nB (nB nk hR) hE) hB,nA nk hE,nA (nB nk hE) hB,nA nk hB,λ _ h=>h,λ m hm=>by
   simp only [aw,bZ,cK] at hm;rcases hm with rfl|rfl|rfl|rfl
   ·exact ⟨_,e1⟩
   ·exact ⟨_,e2⟩
   ·exact ⟨_,e3⟩
   ·exact ⟨_,e4⟩,⟨[],e1,.nil⟩,⟨[],e2,.nil⟩,e3,e4⟩
 generalize upd (upd (upd (upd H' L (.lst [])) R (.lst [])) E (.lst [])) B (.lst [])=H1 at sH W0 ⊢;clear e1 e2 e3 e4 hL hR hE hB;walk_at "a";let M4_:St->Hp->Prop:=λ σ' H2=>∃ (v13:Aq) (bs:A1) (rs:At) (es ks:A6),σ'=stK l c nu (some (.int mn)) none none none none (some (.ref L)) (some (.ref R)) (some (.ref E)) (some (.ref B)) v13 none/\GS a (ms4 L R E B) H1 H2 L R E B bs rs es ks/\WInv bs rs es ks/\(rs.length=0->bs.length + ks.length=0/\es=[])/\bs.length + ks.length<=21/\rs.length + es.length + ks.length<=22;refine cut M4_ ?_ ?_
 ·walk_at "d";walk_at "a";refine ZM (JI sH hl) λ p hp=>?_;obtain ⟨cs,ecs,lcs⟩:=zhT ns mn;rw [ecs];have W1:=W0.same (zf (o:=.lst (iv cs)) hp);have np:=W0.off hp;have gp:upd H1 p (.lst (iv cs)) p=some (.lst (iv cs)):=nk;generalize upd H1 p (.lst (iv cs))=H2 at W1 gp ⊢;refine ⟨p,rfl,.inl ⟨⟨_,SqL.of gp⟩,?_⟩⟩;let M5_:Nat->St->Hp->Prop:=λ i σ' H2=>∃ (v13:Aq) (bs:A1) (rs:At) (es ks:A6),σ'=stK l c nu (some (.int mn)) none none none none (some (.ref L)) (some (.ref R)) (some (.ref E)) (some (.ref B)) v13 none/\GS a (ms4 L R E B) H1 H2 L R E B bs rs es ks/\H2 p=some (.lst (iv cs))/\WInv bs rs es ks/\(i=0->bs.length + ks.length=0/\rs.length=0/\es=[])/\(1<=i->bs.length + ks.length + 3<=4 * i/\rs.length + es.length + ks.length + 2<=4 * i/\1<=rs.length);refine qS (K:=K) (a:=p) (xs:=iv cs) M5_
   ⟨_,[],[],[],[],rfl,W1,gp,⟨aP _,aP _,(λ _ z=>nomatch z),(λ _ z=>nomatch z)⟩,λ _=>⟨rfl,rfl,rfl⟩,λ z=>absurd z (by decide)⟩ (λ i σ H' _ h=>by obtain ⟨_,_,_,_,_,_,_,g,_⟩:=h;exact SqL.of g) ?_ ?_
  ·clear W1 gp;intro i x σ' H3 hi m9;refine oE5 m9 λ v13 bs rs es ks m7=>oA6 m7 λ m8 W gp I0 i0 i1=>?_;clear m7 m9;subst m8;obtain ⟨y,hy,rfl⟩:=Qj hi;have hil:=(aa.mp hy).1;have z:i=0\/1<=i:=by omega
   have bb:bs.length<=21/\rs.length<=22/\es.length<=22/\ks.length<=22:=by
    rcases z with z|z
    ·obtain ⟨q1,q2,rfl⟩:=i0 z;exact iA4 (by omega) (by omega) (by simp) (by omega)
    ·have:=i1 z;omega
   walk_at "a";refine uc (zbg T).mono (iE8 _ L R E B bs rs es (iE3 ks y _ (iA6 rfl W.here I0 (by omega) (by omega) (iA5 (by omega) (by omega) (by omega) (by omega) (λ H4 bs2 rs2 es2 ks2 W2 I2 l1 l2 l3 r1=>?_)))));walk_at "a";refine iE5 _ bs2 rs2 es2 ks2 (iA6 rfl (W.trans W2) (W2.f _ _ np gp) I2 (λ z=>nomatch z) (λ _=>?_));rcases z with z|z
   ·obtain ⟨q1,q2,q3⟩:=i0 z;obtain ⟨n1,n2⟩:=l3 q3;subst q3;simp only [cR] at n2;omega
   ·have:=i1 z;omega
  ·intro σ' H3 m9;refine oE5 m9 λ v13 bs rs es ks m7=>oA6 m7 λ m8 W gp I0 i0 i1=>?_;clear m7 m9;subst m8;rw [zy] at i0 i1;have z:cs.length=0\/1<=cs.length:=by omega
   refine iE5 v13 bs rs es ks (iA6 rfl W I0 (λ r0=>?_) ?_ ?_)
   ·rcases z with z|z
    ·exact ⟨(i0 z).1,(i0 z).2.2⟩
    ·have:=i1 z;omega
   ·rcases z with z|z
    ·have:=i0 z;omega
    ·have:=i1 z;omega
   ·rcases z with z|z
    ·obtain ⟨q1,q2,rfl⟩:=i0 z;simp only [cR];omega
    ·have:=i1 z;omega
 clear W0;intro σ' H2 m9;refine oE5 m9 λ v13 bs rs es ks m7=>oA6 m7 λ m8 W I0 r0 l1 l2=>?_;clear m7 m9;subst m8;walk_at "a";let M6_:St->Hp->Prop:=λ σ' H2=>∃ (bs:A1) (rs:At) (es ks:A6),σ'=stK l c nu (some (.int mn)) none none none none (some (.ref L)) (some (.ref R)) (some (.ref E)) (some (.ref B)) v13 none/\GS a (ms4 L R E B) H1 H2 L R E B bs rs es ks/\WInv bs rs es ks/\1<=rs.length/\bs.length + ks.length<=24/\rs.length + es.length + ks.length<=24;refine cut M6_ ?_ ?_
 ·walk_at "a";intro q hq;have W1:=W.same (zf (o:=.lst []) hq);obtain ⟨rv,hR,rR⟩:=W1.hR;have lR:rv.length=rs.length:=by rw [rR.len,af]
  refine iE3 R q rv (iA5 rfl rfl (SqL.of hR) (SqL.of nk) ?_);rw [lR];generalize upd H2 q (.lst [])=H3 at W1 hR rR ⊢;walk_at "a";refine zJ (λ z=>?_) (λ z=>(iE4 bs rs es ks (iA6 rfl W1 I0 (by omega) (by omega) (by omega))));obtain ⟨q1,rfl⟩:=r0 z;simp only [cR] at l2;walk_at "a";refine uc (zbg T).mono (iE8 _ L R E B bs rs ([]) (iE3 ks c _ (iA6 rfl W1.here I0 (by omega) (by omega) (iA5 (by omega) (by omega) (by simp) (by omega) (λ H4 bs2 rs2 es2 ks2 W2 I2 _ _ l3 r1=>?_)))));obtain ⟨n1,n2⟩:=l3 rfl;simp only [cR] at n2;exact iE4 bs2 rs2 es2 ks2 (iA6 rfl (W1.trans W2) I2 r1 (by omega) (by omega))
 clear W I0 r0 l1 l2;intro σ' H2 m9;refine oE4 m9 λ bs rs es ks m7=>oA6 m7 λ m8 W I0 r1 l1 l2=>?_;clear m7 m9;subst m8;walk_at "a";refine uc (zd7 T).mono (iE8 _ L R E B bs rs es (iE3 ks c _ (iA8 rfl W.here I0 (by omega) (by omega) l1 l2 (λ H3 bs' rs' es' W2 I2 lb lr rr=>?_))));have W3:=W.trans W2;have sK:Same H' H3:=(sH.fr.trans W3.f).same nw;obtain ⟨bv,hL,rL⟩:=W3.hL;obtain ⟨rv,hR,rR⟩:=W3.hR;have lR:rv.length=rs'.length:=by rw [rR.len,af]
 clear W W2 I0;walk_at "a";refine ⟨_,.inl ⟨_,SqL.of hR,rfl⟩,?_⟩;rw [lR];refine ⟨by omega,?_⟩;have w0:=aH (nu / 64) (show (rs'.length:Int)≠0 by omega);have w1:=aG (nu / 64) (show (0:Int) < (rs'.length:Int) by omega);obtain ⟨ct,ect⟩:∃ m:Nat,nu / 64 % (rs'.length:Int)=m:=⟨(nu / 64 % (rs'.length:Int)).toNat,by omega⟩;rw [ect] at w1 ⊢;clear w0 ect;walk_at "a";refine ZM (SqL.of hR) λ q1 hq1=>?_;rw [za4 rv ct (by omega)];have a1:=zf (o:=.lst (rv.drop ct)) hq1;refine ZM (SqL.of (a1 _ _ hR)) λ q2 hq2=>?_;rw [XG rv ct];have a2:=zf (o:=.lst (rv.take ct)) hq2;refine Vu (SqL.of (a2 _ _ nk)) (SqL.of nk) (Za (by rw [dn,aR];omega)) λ q3 hq3=>?_;have a3:=zf (o:=.lst (rv.drop ct ++ rv.take ct)) hq3;have sA:=(a1.trans a2).trans a3;have g3:upd (upd (upd H3 q1 (.lst (rv.drop ct))) q2 (.lst (rv.take ct))) q3 (.lst (rv.drop ct ++ rv.take ct)) q3=some (.lst (rv.drop ct ++ rv.take ct)):=nk;generalize upd (upd (upd H3 q1 (.lst (rv.drop ct))) q2 (.lst (rv.take ct))) q3 _=H4 at sA g3 ⊢;clear a1 a2 a3 hq1 hq2 hq3;have tr:∀ {H1 H2:Hp} {p:A5} {vs:Ap} {ds:List D},Reps H1 p vs ds->Same H1 H2->Reps H2 (λ _=>True) vs ds:=λ r s=>r.keep λ b o _ hb=>⟨trivial,s b o hb⟩;have b2:=tr ((rR.drop ct).append (rR.take ct)) sA;rw [<- List.map_drop,<- List.map_take,<- bd] at b2;have pm:=Z4 rs' ct;generalize rs'.drop ct ++ rs'.take ct=rs3 at b2 pm;generalize rv.drop ct ++ rv.take ct=rv3 at b2 g3;have rL4:=tr rL sA;have hL4:=sA _ _ hL;have sK4:=sK.trans sA;clear sA hL rL hR rR lR;walk_at "a";let M7_:St->Hp->Prop:=λ σ' H5=>∃ (R':Addr) (rv':Ap) (rs2:At),σ'=stK l c nu (some (.int mn)) none none none none (some (.ref L)) (some (.ref R')) (some (.ref E)) (some (.ref B)) v13 (some (.int ct))/\Same H4 H5/\H5 R'=some (.lst rv')/\Reps H5 (λ _=>True) rv' (rs2.map (vp a))/\rs2.Perm rs';refine cut M7_ ?_ ?_
 ·walk_at "a";walk_at "f";walk_at "a";refine zJ (λ z=>?_) (λ z=>(iE3 q3 rv3 rs3 (iA5 rfl (Same.refl _) g3 b2 pm)));walk_at "a";refine iE2 q3 _ (iA3 rfl (SqL.of g3) (λ q hq=>?_));have b3:=tr b2.reverse (zf (o:=.lst rv3.reverse) hq);rw [<- List.map_reverse] at b3;walk_at "a";exact iE3 q _ _ (iA5 rfl (zf hq) nk b3 ((List.reverse_perm _).trans pm))
 intro σ' H5 m9;refine oE3 m9 λ R' rv' rs2 m7=>oA5 m7 λ m8 s5 hR5 rR5 pm2=>?_;clear m7 m9;subst m8;obtain ⟨mZ,ro⟩:=I2.work pm2 (by omega) (by omega) (by omega);walk_at "a";refine iE4 a.q _ _ _ ⟨(zb5 T).mono,?_⟩;intro z dz hz hdz _;exact VD hz hdz (s5 _ _ hL4) hR5 (tr rL4 s5) rR5 mZ I2.bo ro λ H11 s11 r11=>⟨rfl,k _ _ _ _ ((sK4.trans s5).trans s11) r11 mZ I2.bo ro⟩
def Told (H:Hp) (v:V) (r:Option Ap):Prop:=match r with
 | none=>v=.non
 | some xs=>∃ p,v=.ref p/\H p=some (.tup xs)
def Told.same {H H':Hp} {r:Option Ap} (h:Told H v r) (s:Same H H'):Told H' v r:=by
 cases r with
 | none=>exact h
 | some xs=>exact let ⟨p,e,hp⟩:=h;⟨p,e,s _ _ hp⟩
noncomputable def Ve (side:V) (p:Int) (t:Int) (b:Bool):Option Ap:=if b=true/\t % p=0 then some [.non,.int 0,side] else none
def JJ (K:A0) (C:Addr):Sp:=λ vs H Q _=>∃ (y dx l1 l2 l3 fl:Addr) (p t:Int) (hs side:V) (b:Bool) (bs:Ap),vs=[.ref y,hs,.ref fl,.int t,side]/\H y=some (.ins C dx (sf l1 l2 p l3))/\1<=p /\
 SqL K H fl (.bl b :: bs)/\∀ v H',Same H H'->Told H' v (Ve side p t b)->Q v H'
theorem Ji (T:Txt K mg a):MCal P w K mg base a.k "choice" 1 ["self","heads","free","turn","side"] [] (JJ K a.k):=T.iR.cal T.gG λ F=>by
 refine F.okx Qx ?_ ?_
 ·walk_at "i"
 walk_at "k";refine oE8 h λ y dx l1 l2 l3 fl p t m7=>oE4 m7 λ hs side b bs m8=>oA5 m8 λ n6 hy p1 hf k=>?_;clear m7 m8 h;subst n6;unfold Ve at k;walk_at "T";refine ⟨_,(zg (zD (PW.pt (pw_or (xK (jY (zn (pq 2) zd) (λ _=>rfl))) (pw_or1 (zm (Xe hr.units1) (zr qu (pq 3) (zj (pq 0) rfl)) zd (zt _)))))  (zc (zl zG))  zp)  (zc (zl (qL (za zG (za zd (za (pq 4) zb))))))),?_⟩;walk_at "a";refine zq hf at0 ?_;walk_at "a";cases b with
 | false =>
  rw [am (by simp)] at k;walk_at "a";exact k _ _ (Same.refl _) rfl
 | true =>
  walk_at "a";refine ra hy T.gG T.gQ zfT ?_;walk_at "a";refine zJ (λ h=>?_) (λ h=>?_)
  ·rw [am (λ z=>h z.2)] at k;walk_at "a";exact k _ _ (Same.refl _) rfl
  ·rw [ap ⟨rfl,fM h⟩] at k;walk_at "a";intro q hq;exact k _ _ (zf hq) ⟨q,rfl,nk⟩
noncomputable def zci (side:V) (p:Int) (t:Int) (hd:V):Option Ap:=if p=0\/hd=.non\/t % p≠0 then none else some [.int 0,.non,side]
def XS (K:A0) (C:Addr):Sp:=λ vs H Q _=>∃ (y dx l1 l2 hl:Addr) (p t:Int) (fr side:V) (hd:V) (hs:Ap),vs=[.ref y,.ref hl,fr,.int t,side]/\H y=some (.ins C dx (df l1 l2 p))/\0<=p/\p<=4 /\
 SqL K H hl (hd :: hs)/\∀ v H',Same H H'->Told H' v (zci side p t hd)->Q v H'
def Xr (T:Txt K mg a):MCal P w K mg base a.l "choice" 1 ["self","heads","free","turn","side"] [] (XS K a.l):=T.kg.cal T.gS λ F=>by
 refine F.okx Jf ?_ ?_
 ·walk_at "i"
 walk_at "k";refine oE8 h λ y dx l1 l2 hl p t fr m7=>oE3 m7 λ side hd hs m8=>oA6 m8 λ n6 hy p0 p4 hh k=>?_;clear m7 m8 h;subst n6;unfold zci at k;walk_at "T";refine ⟨_,(zg (zD (zm (qG hr.units1) (zj (pq 0) rfl) zd (zt _))  (zc (zl zG))  zp)  (zg (zD (PW.pt (pw_or (zm jo (zn (pq 1) zd) zG (zt _)) (pw_or1 (zm (Xe hr.units1) (zr qu (pq 3) (zj (pq 0) rfl)) zd (zt _)))))  (zc (zl zG))  zp)  (zc (zl (qL (za zd (za zG (za (pq 4) zb)))))))),?_⟩;walk_at "a";refine ra hy T.gS T.gO VO ?_;walk_at "a";refine zJ (λ h1=>?_) (λ h1=>?_)
 ·rw [ap (.inl h1)] at k;walk_at "a";exact k _ _ (Same.refl _) rfl
 ·walk_at "a";refine zq hh at0 ?_;walk_at "a";refine zJ (λ h2=>?_) (λ h2=>?_)
  ·rw [ap (.inr (.inl h2))] at k;walk_at "a";exact k _ _ (Same.refl _) rfl
  ·walk_at "a";refine ra hy T.gS T.gO VO ?_;walk_at "a";refine And.intro (by omega) ?_;refine zJ (λ h3=>?_) (λ h3=>?_)
   ·rw [ap (.inr (.inr h3))] at k;walk_at "a";exact k _ _ (Same.refl _) rfl
   ·rw [am (λ z=>z.elim h1 λ z=>z.elim h2 h3)] at k;walk_at "a";intro q hq;exact k _ _ (zf hq) ⟨q,rfl,nk⟩
noncomputable def zgT (n:Nat) (p:Option Nat):Option Ap:=p.map λ (p:Nat)=>[.int 0,.int p,.int ((p + 1) % n:Nat)]
def JK (K:A0) (C:Addr):Sp:=λ vs H Q _=>∃ (y dx l1 l2 hl fl:Addr) (turn:V) (side:Nat) (hd:V) (hs outs:Ap) (bs:Ai),vs=[.ref y,.ref hl,.ref fl,turn,.int side]/\H y=some (.ins C dx (kf l1 l2))/\H l2=some (.lst outs) /\
 SqL K H hl (hd :: hs)/\SqL K H fl (bs.map V.bl)/\bs.length=outs.length/\bs.length<=1000 /\
 ∀ v H',Same H H'->Told H' v (if hd=.non then none else zgT bs.length (jQ bs side))->Q v H'
theorem Jk (T:Txt K mg a):MCal P w K mg base a.m "choice" 3 ["self","heads","free","turn","side"] [] (JK K a.m):=T.iT.cal T.gU λ F=>by
 refine F.okx Qz ?_ ?_
 ·walk_at "i"
 walk_at "k";refine oE8 h λ y dx l1 l2 hl fl turn side m7=>oE4 m7 λ hd hs outs bs m8=>oA8 m8 λ n6 hy h2 hh hf hbl hb k=>?_;clear m7 m8 h;subst n6;walk_at "T";refine ⟨_,(zg (zo 5 Qz.nd (zx ⟨rfl,rfl,rfl⟩ hr (za (zn (pq 1) zd) (za (pq 2) (za (pq 4) zb)))))  (zg (zD (zm jo (pq 5) zG (zt _))  (zc (zl zG))  zp)  (zc (zl (qL (za zd (za (pq 5) (za (zr qu (zr zN (pq 5) zd) (z6 zY zX (za (zj (pq 0) rfl) zb))) zb)))))))),?_⟩;walk_at "a";refine iE3 _ _ _ ⟨wE T,zq hh at0 (iE4 hd fl bs side (iA4 rfl hf hb ?_))⟩;by_cases hn:hd=.non
 ·rw [ap hn] at k ⊢;walk_at "a";exact k _ _ (Same.refl _) rfl
 ·rw [am hn] at k ⊢;cases hp:jQ bs side with
  | none =>
   rw [hp] at k;simp only [Zo];walk_at "a";exact k _ _ (Same.refl _) rfl
  | some p =>
   rw [hp] at k;simp only [Zo];have hlt:=wB hp;walk_at "a";refine ra hy T.gU T.gR zgq ⟨_,.inl ⟨_,SqL.of h2,rfl⟩,?_⟩;walk_at "a";rw [<- hbl];refine And.intro (by omega) ?_;walk_at "a";intro q hq;have e:((p:Int) + 1) % (bs.length:Int)=(((p + 1) % bs.length:Nat):Int):=by push_cast;rfl
   rw [e];exact k _ _ (zf hq) ⟨q,rfl,nk⟩
noncomputable def zfl (side:V) (p:Option Nat):Option Ap:=p.map λ (p:Nat)=>[.int 0,.int p,side]
def XR (K:A0):Sp:=λ vs H Q _=>∃ (y hl fl:Addr) (turn side:V) (hd:V) (hs:Ap) (bs:Ai),vs=[.ref y,.ref hl,.ref fl,turn,side] /\
 SqL K H hl (hd :: hs)/\SqL K H fl (bs.map V.bl)/\bs.length<=1000/\∀ v H',Same H H'->Told H' v (if hd=.non then none else zfl side (jQ bs 0))->Q v H'
theorem vR (T:Txt K mg a):MCal P w K mg base a.n "choice" 3 ["self","heads","free","turn","side"] [] (XR K):=T.ib.cal T.gH λ F=>by
 refine F.okx vx ?_ ?_
 ·walk_at "i"
 walk_at "k";refine oE8 h λ y hl fl turn side hd hs bs m7=>oA5 m7 λ m8 hh hf hb k=>?_;clear m7 h;subst m8;walk_at "T";refine ⟨_,(zg (zo 5 vx.nd (zx ⟨rfl,rfl,rfl⟩ hr (za (zn (pq 1) zd) (za (pq 2) (za zd zb)))))  (zg (zD (zm jo (pq 5) zG (zt _))  (zc (zl zG))  zp)  (zc (zl (qL (za zd (za (pq 5) (za (pq 4) zb)))))))),?_⟩;walk_at "a";refine iE3 _ _ _ ⟨wE T,zq hh at0 (iE4 hd fl bs 0 (iA4 rfl hf hb ?_))⟩;by_cases hn:hd=.non
 ·rw [ap hn] at k ⊢;walk_at "a";exact k _ _ (Same.refl _) rfl
 ·rw [am hn] at k ⊢;cases hp:jQ bs 0 with
  | none =>
   rw [hp] at k;simp only [Zo];walk_at "a";exact k _ _ (Same.refl _) rfl
  | some p =>
   rw [hp] at k;simp only [Zo];walk_at "a";intro q hq;exact k _ _ (zf hq) ⟨q,rfl,nk⟩
def zfO (C:Addr):Sp:=λ vs H Q _=>∃ (y dx l1 l2:Addr) (n j:Int),vs=[.ref y,.int j]/\H y=some (.ins C dx (vf l1 l2 n))/\Q (.int (if j=n then 0 else 1)) H
def Wa (T:Txt K mg a):MCal P w K mg base a.o "place_for" 1 ["self","kind"] [] (zfO a.o):=T.iz.cal T.gP λ F=>by
 refine F.okx ZF ?_ ?_
 ·walk_at "i"
 walk_at "k";refine oE6 h λ y dx l1 l2 n j m7=>oA3 m7 λ m8 hy k=>?_;clear m7 h;subst m8;walk_at "T";refine ⟨_,(zc (zl (ww (zm (qG hr.units1) (pq 1) (zj (pq 0) rfl) (zt _)) zd zd))),?_⟩;walk_at "a";refine ra hy T.gP T.ie zfL ?_;walk_at "a";refine zJ (λ h=>?_) (λ h=>?_)
 ·rw [ap h] at k;walk_at "a";exact k
 ·rw [am h] at k;walk_at "a";exact k
noncomputable def zbA (side:V) (n:Int) (bs:Ai) (hd:V):Option Ap:=if hd=.non then none else if bs.getD (if hd=.int n then 0 else 1) false=true then some [.int 0,.int (if hd=.int n then 0 else 1),side] else none
def XQ (K:A0) (C:Addr):Sp:=λ vs H Q _=>∃ (y dx l1 l2 hl fl:Addr) (n:Int) (turn side:V) (hd:V) (hs:Ap) (bs:Ai),vs=[.ref y,.ref hl,.ref fl,turn,side]/\H y=some (.ins C dx (vf l1 l2 n)) /\
 SqL K H hl (hd :: hs)/\(hd=.non\/∃ j,hd=.int j)/\SqL K H fl (bs.map V.bl)/\bs.length=2/\∀ v H',Same H H'->Told H' v (zbA side n bs hd)->Q v H'
theorem Xo (T:Txt K mg a):MCal P w K mg base a.o "choice" 2 ["self","heads","free","turn","side"] [] (XQ K a.o):=T.ki.cal T.gP λ F=>by
 refine F.okx Jc ?_ ?_
 ·walk_at "i"
 walk_at "k";refine oE8 h λ y dx l1 l2 hl fl n turn m7=>oE4 m7 λ side hd hs bs m8=>oA7 m8 λ n6 hy hh hhd hf hb k=>?_;clear m7 m8 h;subst n6;walk_at "T";refine ⟨_,(zg (zD (zm jo (zn (pq 1) zd) zG (zt _))  (zc (zl zG))  zp)  (zg (zo 5 Jc.nd (QK ⟨rfl,rfl,rfl⟩ hr (pq 0) (za (zn (pq 1) zd) zb)))  (zg (zD (xK (jY (zn (pq 2) (pq 5)) (λ _=>rfl)))  (zc (zl zG))  zp)  (zc (zl (qL (za zd (za (pq 5) (za (pq 4) zb))))))))),?_⟩;walk_at "a";refine zq hh at0 ?_;rcases hhd with rfl|⟨j,rfl⟩
 ·walk_at "a";exact k _ _ (Same.refl _) rfl
 ·walk_at "a";refine iE7 y a.o dx _ _ _ _ (iA5 rfl hy (zh7 (by decide +kernel) (by decide +kernel) (by decide +kernel)) (Wa T) (zq hh at0 (iE6 y dx l1 l2 n j (iA3 rfl hy ?_))));walk_at "a";obtain ⟨pp,hpp,hp2⟩:∃ pp:Nat,(if j=n then (0:Int) else 1)=pp/\pp < 2:=by split;exact ⟨0,rfl,by decide⟩;exact ⟨1,rfl,by decide⟩
  have e1:(if V.int j=V.int n then (0:Nat) else 1)=pp:=by
   by_cases h:j=n
   ·rw [ap h] at hpp;rw [ap (by rw [h])];omega
   ·rw [am h] at hpp;rw [am (λ z=>h (by cases z;rfl))];omega
  have e2:(if V.int j=V.int n then (0:Int) else 1)=pp:=by
   by_cases h:j=n
   ·rw [ap h] at hpp;rw [ap (by rw [h])];omega
   ·rw [am h] at hpp;rw [am (λ z=>h (by cases z;rfl))];omega
  rw [hpp];have hlt:pp < bs.length:=by omega
  refine zq hf (zz (by rw [aj,ac hlt];rfl)) ?_;have eg:bs.getD pp false=bs[pp]:=by simp [hlt]
  unfold zbA at k;rw [am (by intro z;cases z),e1,e2,eg] at k;walk_at "a";cases hbb:bs[pp] with
  | true =>
   rw [hbb,ap rfl] at k;walk_at "a";intro q hq;exact k _ _ (zf hq) ⟨q,rfl,nk⟩
  | false =>
   rw [hbb,am (by decide)] at k;walk_at "a";exact k _ _ (Same.refl _) rfl
noncomputable def zgV (n:Nat) (p:Option Nat):Option Ap:=p.map λ (p:Nat)=>[.int p,.int 0,.int ((p + 1) % n:Nat)]
noncomputable def there (hs:Ap):List Bool:=hs.map λ h=>!decide (h=.non)
def JM (K:A0) (C:Addr):Sp:=λ vs H Q _=>∃ (y dx l1 l2 hl fl:Addr) (turn:V) (side:Nat) (hs ins:Ap) (b:Bool) (bs:Ap),vs=[.ref y,.ref hl,.ref fl,turn,.int side]/\H y=some (.ins C dx (kf l1 l2))/\H l1=some (.lst ins) /\
 SqL K H hl hs/\SqL K H fl (.bl b :: bs)/\hs.length=ins.length/\hs.length<=900/\∀ v H',Same H H'->Told H' v (if b=true then zgV hs.length (jQ (there hs) side) else none)->Q v H'
theorem Jm (T:Txt K mg a):MCal P w K mg base a.p "choice" 2 ["self","heads","free","turn","side"] [] (JM K a.p):=T.iV.cal T.gW λ F=>by
 refine F.okx QB ?_ ?_
 ·walk_at "i"
 walk_at "k";refine oE8 h λ y dx l1 l2 hl fl turn side m7=>oE4 m7 λ hs ins b bs m8=>oA8 m8 λ n6 hy h1 hh hf hlen hb k=>?_;clear m7 m8 h;subst n6;walk_at "T";refine ⟨_,(zg (zD (xK (jY (zn (pq 2) zd) (λ _=>rfl)))  (zc (zl zG))  zp)  (zg (zo 5 QB.nd (zx ⟨rfl,rfl,rfl⟩ hr (za (jK (vars:=["head"]) (caps:=[]) (N:=["head"]) (ON:=["self","heads","free","turn","side","place"]) (osc:=ze jr) rfl rfl (by first|decide +kernel|kernel_rfl) rfl rfl (qp (pq 1)) (λ s H fp m5=>(qj 0 (show (["head"]:A8).Nodup from by decide +kernel))) (λ s H fp m5=>qk) (λ s H fp m5=>(zcB op_notN (pq 0) zG (zt _)))) (za (pq 4) zb))))  (zg (zD (zm jo (pq 5) zG (zt _))  (zc (zl zG))  zp)  (zc (zl (qL (za (pq 5) (za zd (za (zr qu (zr zN (pq 5) zd) (z6 zY zX (za (zj (pq 0) rfl) zb))) zb))))))))),?_⟩;walk_at "a";refine zq hf at0 ?_;walk_at "a";cases b with
 | false =>
  rw [am (by decide)] at k;walk_at "a";exact k _ _ (Same.refl _) rfl
 | true =>
  rw [ap rfl] at k;walk_at "a";refine iE3 _ _ _ ⟨Zw T,?_⟩;walk_at "e";walk_at "a";refine ⟨hl,rfl,.inl ⟨⟨_,hh⟩,λ _ _ _ _ mY hacc=>?_⟩⟩;refine qS (K:=K) (a:=hl) (xs:=hs) (λ i σ H'=>∃ (v:Aq),σ=[v]/\Same H H'/\H' mY=some (.lst ((there (hs.take i)).map V.bl))) ⟨_,iA3 rfl (zf hacc) nk⟩ (λ i σ H' _ ⟨_,_,s,_⟩=>s.seq hh) ?_ ?_
  ·intro i x σ H' hi m9;refine oE1 m9 λ v m7=>oA3 m7 λ m8 s ha=>?_;clear m7 m9;subst m8;walk_at "a";refine ⟨_,iA3 ha ?_ ⟨_,iA3 rfl ?_ ?_⟩⟩
   ·simp only [there,af,aR];exact zk (by omega)
   ·intro b o hb;rw [nz (nA hb hacc)];exact s b o hb
   ·rw [nk,fZ,hi];simp [there]
  ·intro σ H' m9;refine oE1 m9 λ v m7=>oA3 m7 λ m8 s ha=>?_;clear m7 m9;subst m8;rw [aQ] at ha;refine iE3 mY (there hs) side (iA4 rfl (SqL.of ha) (by simp [there];omega) ?_);have hlt:(there hs).length=hs.length:=by simp [there]
   cases hp:jQ (there hs) side with
   | none =>
    rw [hp] at k;simp only [Zo];walk_at "a";exact k _ _ s rfl
   | some p =>
    rw [hp] at k;simp only [Zo];have hlt':=wB hp;walk_at "a";refine ra (s _ _ hy) T.gW T.gX zhA ⟨_,.inl ⟨_,SqL.of (s _ _ h1),rfl⟩,?_⟩;walk_at "a";rw [<- hlen];refine And.intro (by omega) ?_;walk_at "a";intro q hq;have e:((p:Int) + 1) % (hs.length:Int)=(((p + 1) % hs.length:Nat):Int):=by push_cast;rfl
    rw [e];exact k _ _ (s.trans (zf hq)) ⟨q,rfl,nk⟩
def MCal.imp {m:Str} {dvs:Ap} {sp sp':Sp} (c:MCal P w K mg base C m k ps dvs sp) (h:∀ vs H Q E,sp' vs H Q E->sp vs H Q E):MCal P w K mg base C m k ps dvs sp' :=
 let ⟨f,fd,ds,x,y⟩:=c.ex;⟨c.cl,f,fd,ds,x.imp h,y⟩
def VM {k:Str} {ks:A8} (n:fs.map (·.1)=k :: ks):∃ v gs,fs=(k,v) :: gs/\gs.map (·.1)=ks:=by
 cases fs with
 | nil=>cases n
 | cons x gs =>
  obtain ⟨k',v⟩:=x;injection n with n1 n2
  exact iE2 v gs ⟨by rw [<- n1],n2⟩
def zhM (n:fs.map (·.1)=[]):fs=[]:=List.map_eq_nil_iff.mp n
def fs2 {k1 k2:Str} {d1 d2:D} (n:fs.map (·.1)=[k1,k2]) (g:∀ (i:Nat) f g,fs[i]?=some f->[(k1,d1),(k2,d2)][i]?=some g->Rep H p f.2 g.2):∃ v1 v2,fs=[(k1,v1),(k2,v2)]/\Rep H p v1 d1/\Rep H p v2 d2:=by
 obtain ⟨v1,f1,rfl,n1⟩:=VM n;obtain ⟨v2,f2,rfl,n2⟩:=VM n1;obtain rfl:=zhM n2;exact ⟨v1,v2,rfl,g 0 _ _ rfl rfl,g 1 _ _ rfl rfl⟩
section
variable {H:Hp} {p:A5} {y:Addr} {ins outs kinds:A6} {pace:Int}
def KnP.parter (h:KnP a H p (.ref y) ⟨.parter,ins,outs,pace,kinds⟩):∃ dx l1 l2,H y=some (.ins a.m dx (kf l1 l2))/\H l2=some (.lst (iv outs)):=by
 cases h with|ob _ hy n g =>
  refine oE2 (fs2 n g) λ v1 v2 m7=>oA3 m7 λ m8 r1 r2=>?_;clear m7;subst m8;refine oE1 r1.ints' λ l1 m7=>oA3 m7 λ m8 _ _=>?_;clear m7;subst m8;refine oE1 r2.ints' λ l2 m7=>oA3 m7 λ m8 _ h2=>?_;clear m7;subst m8;exact iE3 _ l1 l2 ⟨by rw [Xt];exact hy,h2⟩
end
def fs3 {k1 k2 k3:Str} {d1 d2 d3:D} (n:fs.map (·.1)=[k1,k2,k3]) (g:∀ (i:Nat) f g,fs[i]?=some f->[(k1,d1),(k2,d2),(k3,d3)][i]?=some g->Rep H p f.2 g.2):∃ v1 v2 v3,fs=[(k1,v1),(k2,v2),(k3,v3)]/\Rep H p v1 d1/\Rep H p v2 d2/\Rep H p v3 d3:=by
 obtain ⟨v1,f1,rfl,n1⟩:=VM n;obtain ⟨v2,f2,rfl,n2⟩:=VM n1;obtain ⟨v3,f3,rfl,n3⟩:=VM n2;obtain rfl:=zhM n3;exact ⟨v1,v2,v3,rfl,g 0 _ _ rfl rfl,g 1 _ _ rfl rfl,g 2 _ _ rfl rfl⟩
def fs4 {k1 k2 k3 k4:Str} {d1 d2 d3 d4:D} (n:fs.map (·.1)=[k1,k2,k3,k4]) (g:∀ (i:Nat) f g,fs[i]?=some f->[(k1,d1),(k2,d2),(k3,d3),(k4,d4)][i]?=some g->Rep H p f.2 g.2):∃ v1 v2 v3 v4,fs=[(k1,v1),(k2,v2),(k3,v3),(k4,v4)]/\Rep H p v1 d1/\Rep H p v2 d2/\Rep H p v3 d3/\Rep H p v4 d4:=by
 obtain ⟨v1,f1,rfl,n1⟩:=VM n;obtain ⟨v2,f2,rfl,n2⟩:=VM n1;obtain ⟨v3,f3,rfl,n3⟩:=VM n2;obtain ⟨v4,f4,rfl,n4⟩:=VM n3;obtain rfl:=zhM n4;exact ⟨v1,v2,v3,v4,rfl,g 0 _ _ rfl rfl,g 1 _ _ rfl rfl,g 2 _ _ rfl rfl,g 3 _ _ rfl rfl⟩
section
variable {H:Hp} {p:A5} {y:Addr} {ins outs kinds:A6} {pace:Int}
def KnP.source (h:KnP a H p (.ref y) ⟨.source,ins,outs,pace,kinds⟩):∃ dx l1 l2 l3,H y=some (.ins a.k dx (sf l1 l2 pace l3)):=by
 cases h with|ob _ hy n g =>
  refine oE4 (fs4 n g) λ v1 v2 v3 v4 m7=>oA5 m7 λ m8 r1 r2 r3 r4=>?_;clear m7;subst m8;refine oE1 r1.ints' λ l1 m7=>oA3 m7 λ m8 _ _=>?_;clear m7;subst m8;refine oE1 r2.ints' λ l2 m7=>oA3 m7 λ m8 _ _=>?_;clear m7;subst m8;cases r3;refine oE1 r4.ints' λ l4 m7=>oA3 m7 λ m8 _ _=>?_;clear m7;subst m8;exact iE4 _ l1 l2 l4 (by rw [zgP];exact hy)
def KnP.drain (h:KnP a H p (.ref y) ⟨.drain,ins,outs,pace,kinds⟩):∃ dx l1 l2,H y=some (.ins a.l dx (df l1 l2 pace)):=by
 cases h with|ob _ hy n g =>
  refine oE3 (fs3 n g) λ v1 v2 v3 m7=>oA4 m7 λ m8 r1 r2 r3=>?_;clear m7;subst m8;refine oE1 r1.ints' λ l1 m7=>oA3 m7 λ m8 _ _=>?_;clear m7;subst m8;refine oE1 r2.ints' λ l2 m7=>oA3 m7 λ m8 _ _=>?_;clear m7;subst m8;cases r3;exact iE3 _ l1 l2 (by rw [zfq];exact hy)
def KnP.sieve {k:Int} (h:KnP a H p (.ref y) ⟨.sieve,ins,outs,pace,[k]⟩):∃ dx l1 l2,H y=some (.ins a.o dx (vf l1 l2 k)):=by
 cases h with|ob _ hy n g =>
  refine oE3 (fs3 n g) λ v1 v2 v3 m7=>oA4 m7 λ m8 r1 r2 r3=>?_;clear m7;subst m8;refine oE1 r1.ints' λ l1 m7=>oA3 m7 λ m8 _ _=>?_;clear m7;subst m8;refine oE1 r2.ints' λ l2 m7=>oA3 m7 λ m8 _ _=>?_;clear m7;subst m8;cases r3;exact iE3 _ l1 l2 (by rw [zgL];exact hy)
def KnP.joiner (h:KnP a H p (.ref y) ⟨.joiner,ins,outs,pace,kinds⟩):∃ dx l1 l2,H y=some (.ins a.p dx (kf l1 l2))/\H l1=some (.lst (iv ins)):=by
 cases h with|ob _ hy n g =>
  refine oE2 (fs2 n g) λ v1 v2 m7=>oA3 m7 λ m8 r1 r2=>?_;clear m7;subst m8;refine oE1 r1.ints' λ l1 m7=>oA3 m7 λ m8 _ h1=>?_;clear m7;subst m8;refine oE1 r2.ints' λ l2 m7=>oA3 m7 λ m8 _ _=>?_;clear m7;subst m8;exact iE3 _ l1 l2 ⟨by rw [Xt];exact hy,h1⟩
end
noncomputable def hdV:Option Int->V
 | none=>.non
 | some k=>.int k
noncomputable def qh (r:Row) (hs:List A9) (bs:Ai) (t:Int) (side:Nat):Option Ak:=match r.wd with
 | .source=>if bs.getD 0 false=true/\t % r.pace=0 then some (none,some 0,side) else none
 | .drain=>if r.pace=0\/hs.getD 0 none=none\/t % r.pace≠0 then none else some (some 0,none,side)
 | .parter=>if hs.getD 0 none=none then none else (jQ bs side).map λ p=>(some 0,some p,(p + 1) % bs.length)
 | .first=>if hs.getD 0 none=none then none else (jQ bs 0).map λ p=>(some 0,some p,side)
 | .sieve=>if hs.getD 0 none=none then none else if bs.getD (if hs.getD 0 none=some (r.kinds.headD 0) then 0 else 1) false=true then some (some 0,some (if hs.getD 0 none=some (r.kinds.headD 0) then 0 else 1),side) else none
 | .joiner=>if bs.getD 0 false=true then (jQ (hs.map Option.isSome) side).map λ p=>(some p,some 0,(p + 1) % hs.length) else none
noncomputable def chV (x:Ak):List V:=[Zo x.1,Zo x.2.1,.int (x.2.2:Nat)]
def zex (K:A0) (a:Ad) (wd:Wd):Sp:=λ vs H Q _=>∃ (y hl fl:Addr) (r:Row) (p:A5) (hs:List A9) (bs:Ai) (t:Int) (side:Nat),vs=[.ref y,.ref hl,.ref fl,.int t,.int side]/\KnP a H p (.ref y) r/\r.wd=wd/\r.ok /\
 H hl=some (.lst (hs.map hdV))/\H fl=some (.lst (bs.map V.bl))/\hs.length=r.ins.length/\bs.length=r.outs.length/\∀ v H',Same H H'->Told H' v ((qh r hs bs t side).map chV)->Q v H'
def JD {x:A9}:(hdV x=.non)=(x=none):=by
 cases x <;> simp [hdV]
def zej (hs:List A9):there (hs.map hdV)=hs.map Option.isSome:=by
 simp only [there,eM]
 congr 1
 funext x
 cases x <;> simp [hdV]
def ze0 (T:Txt K mg a) (wd:Wd):MCal P w K mg base (vb a wd) "choice" 3 ["self","heads","free","turn","side"] [] (zex K a wd):=by
 cases wd with
 | source =>
  refine MCal.imp (Ji T).mono λ vs H Q E h=>?_;refine oE5 h λ y hl fl m7 p m8=>oE4 m8 λ hs bs t side n6=>oA9 n6 λ nh hK hw ok hh hf l1 l2 k=>?_;clear m8 n6 h;obtain ⟨wd,ins,outs,pace,kinds⟩:=m7;subst nh;simp only at hw;subst hw;refine oE4 hK.source λ dx m1 m2 m3 hy=>?_;refine oA4 ok λ _ m7 p1 _=>?_;clear ok;obtain ⟨o,eo⟩:=m7;simp only at eo p1 l2;subst eo
  match bs,l2 with
  | [b],_ =>
   refine iE8 y dx m1 m2 m3 fl pace t (iE4 _ _ b ([]) (iA5 rfl hy p1 (SqL.of hf) (λ v H' s ht=>k v H' s ?_)));unfold Ve at ht;simp only [qh];by_cases hc:b=true/\t % pace=0
   ·rw [ap hc] at ht;rw [ap (by simpa using hc)];exact ht
   ·rw [am hc] at ht;rw [am (by simpa using hc)];exact ht
 | drain =>
  refine MCal.imp (Xr T).mono λ vs H Q E h=>?_;refine oE5 h λ y hl fl m7 p m8=>oE4 m8 λ hs bs t side n6=>oA9 n6 λ nh hK hw ok hh hf l1 l2 k=>?_;clear m8 n6 h;obtain ⟨wd,ins,outs,pace,kinds⟩:=m7;subst nh;simp only at hw;subst hw;refine oE3 hK.drain λ dx m1 m2 hy=>?_;refine oA4 ok λ m7 _ p1 p4=>?_;clear ok;obtain ⟨o,eo⟩:=m7;simp only at eo p1 p4 l1;subst eo
  match hs,l1 with
  | [hd],_ =>
   refine iE8 y dx m1 m2 hl pace t _ (iE3 _ (hdV hd) ([]) (iA6 rfl hy p1 p4 (SqL.of hh) (λ v H' s ht=>k v H' s ?_)));unfold zci at ht;simp only [JD] at ht;simp only [qh];by_cases hc:pace=0\/hd=none\/t % pace≠0
   ·rw [ap hc] at ht;rw [ap (by simpa using hc)];exact ht
   ·rw [am hc] at ht;rw [am (by simpa using hc)];exact ht
 | parter =>
  refine MCal.imp (Jk T).mono λ vs H Q E h=>?_;refine oE5 h λ y hl fl m7 p m8=>oE4 m8 λ hs bs t side n6=>oA9 n6 λ nh hK hw ok hh hf l1 l2 k=>?_;clear m8 n6 h;obtain ⟨wd,ins,outs,pace,kinds⟩:=m7;subst nh;simp only at hw;subst hw;refine oE3 hK.parter λ dx m1 m2 m7=>oA2 m7 λ hy h2=>?_;clear m7;obtain ⟨⟨o,eo⟩,q1,q2⟩:=ok;simp only at eo l1 l2 q1 q2;subst eo
  match hs,l1 with
  | [hd],_ =>
   refine iE8 y dx m1 m2 hl fl _ side (iE4 (hdV hd) ([]) (iv outs) bs (iA8 rfl hy h2 (SqL.of hh) (SqL.of hf) (by rw [zy];exact l2) (by omega) (λ v H' s ht=>k v H' s ?_)));simp only [JD] at ht;simp only [qh];by_cases hc:hd=none
   ·rw [ap hc] at ht;rw [ap (by simpa using hc)];exact ht
   ·rw [am hc] at ht;rw [am (by simpa using hc)];unfold zgT at ht;rw [eP];exact ht
 | first =>
  refine MCal.imp (vR T).mono λ vs H Q E h=>?_;refine oE5 h λ y hl fl m7 p m8=>oE4 m8 λ hs bs t side n6=>oA9 n6 λ nh hK hw ok hh hf l1 l2 k=>?_;clear m8 n6 h;obtain ⟨wd,ins,outs,pace,kinds⟩:=m7;subst nh;simp only at hw;subst hw;obtain ⟨⟨o,eo⟩,q1,q2⟩:=ok;simp only at eo l1 l2 q1 q2;subst eo
  match hs,l1 with
  | [hd],_ =>
   refine iE8 y hl fl _ _ (hdV hd) ([]) bs (iA5 rfl (SqL.of hh) (SqL.of hf) (by omega) (λ v H' s ht=>k v H' s ?_));simp only [JD] at ht;simp only [qh];by_cases hc:hd=none
   ·rw [ap hc] at ht;rw [ap (by simpa using hc)];exact ht
   ·rw [am hc] at ht;rw [am (by simpa using hc)];unfold zfl at ht;rw [eP];exact ht
 | sieve =>
  refine MCal.imp (Xo T).mono λ vs H Q E h=>?_;refine oE5 h λ y hl fl m7 p m8=>oE4 m8 λ hs bs t side n6=>oA9 n6 λ nh hK hw ok hh hf l1 l2 k=>?_;clear m8 n6 h;obtain ⟨wd,ins,outs,pace,kinds⟩:=m7;subst nh;simp only at hw;subst hw;refine oA3 ok λ m7 q1 m8=>oE1 m8 λ kk n6=>oA2 n6 λ q2 _=>?_;clear m8 n6 ok;obtain ⟨o,eo⟩:=m7;simp only at eo l1 l2 q1 q2;subst eo q2;refine oE3 hK.sieve λ dx m1 m2 hy=>?_
  match hs,l1 with
  | [hd],_ =>
   refine iE8 y dx m1 m2 hl fl kk _ (iE4 _ (hdV hd) ([]) bs (iA7 rfl hy (SqL.of hh) (by cases hd;exact .inl rfl;exact .inr ⟨_,rfl⟩) (SqL.of hf) (by omega) (λ v H' s ht=>k v H' s ?_)));unfold zbA at ht;simp only [JD] at ht;simp only [qh];by_cases hc:hd=none
   ·rw [ap hc] at ht;rw [ap (by simpa using hc)];exact ht
   ·rw [am hc] at ht;rw [am (by simpa using hc)];have e:(hdV hd=.int kk)=([hd].getD 0 none=some (List.headD [kk] 0)):=by
     cases hd with
     | none=>exact absurd rfl hc
     | some x=>simp [hdV]
    have e1:(if hdV hd=V.int kk then (0:Nat) else 1)=(if [hd].getD 0 none=some (List.headD [kk] 0) then 0 else 1):=by simp only [e]
    have e2:(if hdV hd=V.int kk then (0:Int) else 1)=((if [hd].getD 0 none=some (List.headD [kk] 0) then 0 else 1:Nat):Int):=by simp only [e];split <;> rfl
    rw [e1,e2] at ht;generalize (if [hd].getD 0 none=some (List.headD [kk] 0) then 0 else 1)=q at ht ⊢;by_cases hb:bs.getD q false=true
    ·rw [ap hb] at ht ⊢;exact ht
    ·rw [am hb] at ht ⊢;exact ht
 | joiner =>
  refine MCal.imp (Jm T).mono λ vs H Q E h=>?_;refine oE5 h λ y hl fl m7 p m8=>oE4 m8 λ hs bs t side n6=>oA9 n6 λ nh hK hw ok hh hf l1 l2 k=>?_;clear m8 n6 h;obtain ⟨wd,ins,outs,pace,kinds⟩:=m7;subst nh;simp only at hw;subst hw;obtain ⟨⟨o,eo⟩,q1,q2⟩:=ok;simp only at eo l1 l2 q1 q2;subst eo;refine oE3 hK.joiner λ dx m1 m2 m7=>oA2 m7 λ hy h1=>?_;clear m7
  match bs,l2 with
  | [b],_ =>
   refine iE8 y dx m1 m2 hl fl _ side (iE4 (hs.map hdV) (iv ins) b ([]) (iA8 rfl hy h1 (SqL.of hh) (SqL.of hf) (by rw [af,zy];exact l1) (by rw [af];omega) (λ v H' s ht=>k v H' s ?_)));rw [zej,af] at ht;simp only [qh];by_cases hc:b=true
   ·rw [ap hc] at ht;rw [ap (by simpa using hc)];unfold zgV at ht;rw [eP];exact ht
   ·rw [am hc] at ht;rw [am (by simpa using hc)];exact ht
abbrev zE:=Option (Int × Int)
abbrev Av:=List zE
abbrev Au:=List Av
noncomputable def qf:zE->D
 | none=>.non
 | some (s,n)=>.tup [.int s,.int n]
def zdS (x:zE):Hard (qf x):=by
 cases x with
 | none=>exact .non
 | some x =>
  refine .tup λ i d h=>?_;have:d∈[D.int x.1,D.int x.2]:=ah h;simp at this;rcases this with rfl|rfl <;> exact .int
structure PSt where
 turn:Int
 cells:List Av
 sides:List Int
 gone:List A6
noncomputable abbrev zW (cs:Au):List (List D):=cs.map λ c=>c.map qf
noncomputable abbrev qi (gs:List A6):List (List D):=gs.map λ g=>g.map D.int
noncomputable def stF (st:PSt):List (Str × D):=[("turn",.int st.turn),("cells",.lst ((zW st.cells).map D.lst)),("sides",.ints st.sides),("gone",.lst ((qi st.gone).map D.lst))]
noncomputable def XF (a:Ad) (st:PSt):D:=.ob a.h (stF st)
def V8 (st:PSt):(stF st).lookup ("turn":Str)=some (.int st.turn):=je
def Wl (st:PSt):(stF st).lookup ("cells":Str)=some (.lst ((zW st.cells).map D.lst)):=(zV (by decide +kernel)).trans je
def Wk (st:PSt):(stF st).lookup ("sides":Str)=some (.ints st.sides):=(zV (by decide +kernel)).trans ((zV (by decide +kernel)).trans je)
def V9 (st:PSt):(stF st).lookup ("gone":Str)=some (.lst ((qi st.gone).map D.lst)):=(zV (by decide +kernel)).trans ((zV (by decide +kernel)).trans ((zV (by decide +kernel)).trans je))
noncomputable def sff (t:Int) (lc ls lg:Addr):List (Str × V):=[(("turn":Str),V.int t),(("cells":Str),V.ref lc),(("sides":Str),V.ref ls),(("gone":Str),V.ref lg)]
def ziT {t:Int}:zP "turn" (.int t) []=([(("turn":Str),V.int t)]:Ar):=rfl
def ziS {t:Int} {lc:Addr}:zP "cells" (.ref lc) [(("turn":Str),V.int t)]=([(("turn":Str),V.int t),(("cells":Str),V.ref lc)]:Ar):=by
 simp only [zP];rw [am (by decide +kernel)]
def ziR {t:Int} {lc ls:Addr}:zP "sides" (.ref ls) [(("turn":Str),V.int t),(("cells":Str),V.ref lc)]=([(("turn":Str),V.int t),(("cells":Str),V.ref lc),(("sides":Str),V.ref ls)]:Ar):=by
 simp only [zP];rw [am (by decide +kernel),am (by decide +kernel)]
def ziQ {t:Int} {lc ls lg:Addr}:zP "gone" (.ref lg) [(("turn":Str),V.int t),(("cells":Str),V.ref lc),(("sides":Str),V.ref ls)]=sff t lc ls lg:=by
 unfold sff;simp only [zP];rw [am (by decide +kernel),am (by decide +kernel),am (by decide +kernel)]
structure SN where
 dx:Addr
 lc:Addr
 ls:Addr
 lg:Addr
 acs:List Addr
 ags:List Addr
noncomputable def SN.all (n:SN):List Addr:=n.ls :: n.lc :: n.lg :: (n.acs ++ n.ags)
structure StO (a:Ad) (H:Hp) (y:Addr) (n:SN) (st:PSt):Prop where
 hy:H y=some (.ins a.h n.dx (sff st.turn n.lc n.ls n.lg))
 hc:NL H (zU H) n.lc n.acs (zW st.cells)
 hs:H n.ls=some (.lst (iv st.sides))
 hg:NL H (zU H) n.lg n.ags (qi st.gone)
 nd:n.all.Nodup
def StO.rep {y:Addr} {n:SN} {st:PSt} (h:StO a H y n st):Rep H (Off []) (.ref y) (XF a st) :=
 wV (λ z=>nomatch z) h.hy rfl (.cons .int (.cons h.hc.rep (.cons (qm (λ z=>nomatch z) h.hs) (.cons h.hg.rep .nil))))
def StO.same {H H':Hp} {y:Addr} {n:SN} {st:PSt} (h:StO a H y n st) (s:Same H H'):StO a H' y n st :=
 ⟨s _ _ h.hy,h.hc.keep (λ b o _ hb=>s b o hb) (λ b ⟨xs,hx⟩ _=>⟨xs,s _ _ hx⟩),s _ _ h.hs,h.hg.keep (λ b o _ hb=>s b o hb) (λ b ⟨xs,hx⟩ _=>⟨xs,s _ _ hx⟩),h.nd⟩
def vC (a:Ad):Sp:=λ vs H Q _=>∃ (y dx:Addr) (vc vs' vg:V) (st:PSt) (p:A5),vs=[.ref y,.int st.turn,vc,vs',vg]/\H y=some (.ins a.h dx [])/\(∀ b,p b->b≠y) /\
 Rep H p vc (.lst ((zW st.cells).map D.lst))/\Rep H p vs' (.ints st.sides)/\Rep H p vg (.lst ((qi st.gone).map D.lst))/\st.cells.length<=100/\st.gone.length<=100 /\
 ∀ H' n,n.dx=dx->Own H H' y->StO a H' y n st->(∀ b∈n.all,H b=none)->Q .non H'
def zax {ds:List D} (h:Reps H p vs ds) (hd:∀ d∈ds,Hard d):Reps H (zU H) vs ds :=
 ⟨h.len,λ i v d e1 e2=>(h.g i v d e1 e2).hard (hd d (ah e2)) λ b xs _ hb=>⟨xs,hb⟩⟩
def zcb (c:Av):∀ d∈c.map qf,Hard d:=λ d hd=>by
 obtain ⟨x,_,rfl⟩:=bc.mp hd;exact zdS x
def zdT (c:A6):∀ d∈c.map D.int,Hard d:=λ d hd=>by
 obtain ⟨x,_,rfl⟩:=bc.mp hd;exact .int
def X6 (T:Txt K mg a) (F:Fun K "__init__" "State.__init__" jk f fd):FnOk P w K mg base (CXr P w) 1 f fd ["self","turn","cells","sides","gone"] (vC a):=by
 refine F.okx X3 ?_ ?_
 ·walk_at "i"
 walk_at "j";refine oE7 h λ y dx vc vs' vg st p m7=>oA9 m7 λ m8 hy hp rc rs rg lc lg k=>?_;clear m7 h;subst m8;refine oE2 rc.lst' λ c0 ucs m7=>oA4 m7 λ m8 pc0 hc0 rcs=>?_;clear m7;subst m8;refine oE1 rs.ints' λ s0 m7=>oA3 m7 λ m8 ps0 hs0=>?_;clear m7;subst m8;have hs0:H s0=some (.lst (iv st.sides)):=hs0;refine oE2 rg.lst' λ g0 ugs m7=>oA4 m7 λ m8 pg0 hg0 rgs=>?_;clear m7;subst m8;have lcs:ucs.length=st.cells.length:=by rw [rcs.len,af,af]
 have lgs:ugs.length=st.gone.length:=by rw [rgs.len,af,af]
 walk_at "T";refine ⟨_,(zh (qT (pq 0) (pq 1) rfl)  (zh (qT (pq 0) (jK (vars:=["belt_cells"]) (caps:=[]) (N:=["belt_cells"]) (ON:=["self","turn","cells","sides","gone"]) (osc:=ze jk) rfl rfl (by first|decide +kernel|kernel_rfl) rfl rfl (qp (pq 2)) (λ s H fp m5=>(qj 0 (show (["belt_cells"]:A8).Nodup from by decide +kernel))) (λ s H fp m5=>qk) (λ s H fp m5=>(vL Zk we (za (pq 0) zb)))) rfl)  (zh (qT (pq 0) (vL Zk we (za (pq 3) zb)) rfl)  (zc (qT (pq 0) (jK (vars:=["counts"]) (caps:=[]) (N:=["counts"]) (ON:=["self","turn","cells","sides","gone"]) (osc:=ze jk) rfl rfl (by first|decide +kernel|kernel_rfl) rfl rfl (qp (pq 4)) (λ s H fp m5=>(qj 0 (show (["counts"]:A8).Nodup from by decide +kernel))) (λ s H fp m5=>qk) (λ s H fp m5=>(vL Zk we (za (pq 0) zb)))) rfl))))),?_⟩;walk_at "a";refine iE4 y a.h dx ([]) (iA6 rfl hy T.gq T.gu (by decide) ?_);rw [ziT];have o1:Own H (upd H y (.ins a.h dx [(("turn":Str),V.int st.turn)])) y:=js;have y1:upd H y (.ins a.h dx [(("turn":Str),V.int st.turn)]) y=some (.ins a.h dx [(("turn":Str),V.int st.turn)]):=nk;generalize upd H y (.ins a.h dx [(("turn":Str),V.int st.turn)])=H1 at o1 y1 ⊢;have kp:∀ b,zU H b->H b≠none->b≠y:=λ b ⟨xs,hx⟩ _ z=>by rw [z,hy] at hx;cases hx
 walk_at "e";walk_at "a";refine ⟨c0,rfl,.inl ⟨⟨_,SqL.of (o1 _ _ (hp _ pc0) hc0)⟩,λ _ _ _ _ mY hacc=>?_⟩⟩;let n9:Nat->St->Hp->Prop:=λ i σ H'=>∃ (v0:Aq) (as:Ab),σ=[v0]/\Same H1 H'/\NL H' (zU H) mY as (zW (st.cells.take i))/\∀ b∈as,H1 b=none;refine qS (K:=K) (a:=c0) (xs:=ucs) n9 (iE2 _ ([]) (iA4 rfl (zf hacc) (by rw [bX];exact VC nk) (by simp))) (λ i σ H' _ h=>by obtain ⟨_,_,_,s,_⟩:=h;exact SqL.of (s _ _ (o1 _ _ (hp _ pc0) hc0))) ?_ ?_
 ·intro i x σ H2 hi m9;refine oE2 m9 λ v0 as m7=>oA4 m7 λ m8 s2 nl fr=>?_;clear m7 m9;subst m8;obtain ⟨d,hd,rx⟩:=rcs.at hi;rw [aj,aj] at hd;obtain ⟨c,hc⟩:∃ c,st.cells[i]?=some c:=by
   cases e:st.cells[i]? with
   | none=>rw [e] at hd;cases hd
   | some c=>exact ⟨c,rfl⟩
  rw [hc] at hd;cases hd;refine oE2 (Rep.lst' rx) λ li vi m7=>oA4 m7 λ m8 pli hli ri=>?_;clear m7;subst m8;have hil:=(aa.mp hc).1;have hli2:=s2 _ _ (o1 _ _ (hp _ pli) hli);walk_at "a";refine iE2 li _ (iA3 rfl (.inl (SqL.of hli2)) (λ b hb=>?_));have nb:b ∉ as:=λ z=>by
   obtain ⟨j,hj⟩:=bj z;obtain ⟨vs,h1,_⟩:=nl.g j b _ hj (ac (by rw [<- nl.len];exact (aa.mp hj).1));rw [h1] at hb;cases hb
  have nG:b≠mY:=λ z=>by rw [z,nl.out] at hb;cases hb
  have s3:Same H2 (upd H2 b (.lst vi)):=zf hb;have ac3:=nB (o:=.lst vi) nl.out hb;refine ⟨_,iA3 ac3 (zk (by rw [af,nl.len,af,aR];omega)) ?_⟩;have ri3:Reps (upd H2 b (.lst vi)) (zU H) vi (c.map qf):=(zax ri (zcb c)).keep λ z o pz hz=>⟨pz,s3 _ _ (s2 _ _ (o1 _ _ (kp z pz (by rw [hz];intro q;cases q)) hz))⟩;have nl3:=(nl.same s3).push (b:=b) (vs:=vi) (ys:=c.map qf) nk nb nG (λ ⟨xs,hx⟩=>by
   have:=o1 _ _ (kp mY ⟨xs,hx⟩ (by rw [hx];intro q;cases q)) hx;rw [hacc] at this;cases this) ri3
  refine iE2 _ (as ++ [b]) (iA4 rfl ?_ ?_ ?_)
  ·exact λ z o hz=>by rw [nz (nA hz hacc)];exact s3 _ _ (s2 _ _ hz)
  ·rw [aO,hc];rw [show zW (st.cells.take i ++ (some c).toList)=zW (st.cells.take i) ++ [c.map qf] by simp [zW]];exact nl3
  ·intro z hz;rcases aF.mp hz with hz|hz
   ·exact fr z hz
   ·rw [ar.mp hz];exact zB s2 hb
 intro σ H2 m9;refine oE2 m9 λ v0 acs m7=>oA4 m7 λ m8 s2 nlc frc=>?_;clear m7 m9;subst m8;rw [lcs,aQ] at nlc;have y2:=s2 _ _ y1;walk_at "a";refine iE4 y a.h dx _ (iA6 rfl y2 T.gq T.gw (by simp) ?_);rw [ziS];have nay:mY≠y:=λ z=>by rw [z,y1] at hacc;cases hacc
 have hx0:∀ {z:Addr},H1 z=none->z≠y/\H z=none:=λ {z} hz=>by
  have n1:z≠y:=λ q=>by rw [q,y1] at hz;cases hz
  refine ⟨n1,?_⟩;cases e:H z with
  | none=>rfl
  | some o=>rw [o1 z o n1 e] at hz;cases hz
 have o3:Own H (upd H2 y (.ins a.h dx [(("turn":Str),V.int st.turn),(("cells":Str),V.ref mY)])) y:=(o1.trans (Same.own s2)).trans js;have y3:upd H2 y (.ins a.h dx [(("turn":Str),V.int st.turn),(("cells":Str),V.ref mY)]) y=some (.ins a.h dx [(("turn":Str),V.int st.turn),(("cells":Str),V.ref mY)]):=nk;have nl3:NL (upd H2 y (.ins a.h dx [(("turn":Str),V.int st.turn),(("cells":Str),V.ref mY)])) (zU H) mY acs (zW st.cells):=nlc.keep (λ z o hz ho=>by
  refine (nz (λ q=>?_)).trans ho;rcases hz with h|h|h
  ·exact nay (h.symm.trans q)
  ·exact (hx0 (frc z h)).1 q
  ·obtain ⟨xs,hx⟩:=h;rw [q,hy] at hx;cases hx) λ _ hp _=>hp
 generalize upd H2 y (.ins a.h dx [(("turn":Str),V.int st.turn),(("cells":Str),V.ref mY)])=H3 at o3 y3 nl3 ⊢;walk_at "a";refine iE2 s0 _ (iA3 rfl (.inl (SqL.of (o3 _ _ (hp _ ps0) hs0))) (λ ls hls=>?_));walk_at "a";have y4:=nB (o:=.lst (iv st.sides)) y3 hls;refine iE4 y a.h dx _ (iA6 rfl y4 T.gq T.gF (by simp) ?_);rw [ziR];have nlsy:ls≠y:=λ z=>by rw [z,y3] at hls;cases hls
 have hls0:H ls=none:=by
  cases e:H ls with
  | none=>rfl
  | some o=>rw [o3 ls o nlsy e] at hls;cases hls
 have o5:Own H (upd (upd H3 ls (.lst (iv st.sides))) y (.ins a.h dx [(("turn":Str),V.int st.turn),(("cells":Str),V.ref mY),(("sides":Str),V.ref ls)])) y:=(o3.trans (Same.own (zf hls))).trans js;have y5:upd (upd H3 ls (.lst (iv st.sides))) y (.ins a.h dx [(("turn":Str),V.int st.turn),(("cells":Str),V.ref mY),(("sides":Str),V.ref ls)]) y=some (.ins a.h dx [(("turn":Str),V.int st.turn),(("cells":Str),V.ref mY),(("sides":Str),V.ref ls)]):=nk;have nl5:NL (upd (upd H3 ls (.lst (iv st.sides))) y (.ins a.h dx [(("turn":Str),V.int st.turn),(("cells":Str),V.ref mY),(("sides":Str),V.ref ls)])) (zU H) mY acs (zW st.cells):=nl3.keep (λ z o hz ho=>by
  refine (nz (λ q=>?_)).trans (nB ho hls);rcases hz with h|h|h
  ·exact nay (h.symm.trans q)
  ·exact (hx0 (frc z h)).1 q
  ·obtain ⟨xs,hx⟩:=h;rw [q,hy] at hx;cases hx) λ _ hp _=>hp
 have ls5:upd (upd H3 ls (.lst (iv st.sides))) y (.ins a.h dx [(("turn":Str),V.int st.turn),(("cells":Str),V.ref mY),(("sides":Str),V.ref ls)]) ls=some (.lst (iv st.sides)):=by rw [nz nlsy];exact nk
 have nlsa:ls ∉ mY :: acs:=λ z=>by
  rcases aw.mp z with h|h
  ·rw [h,nl3.out] at hls;cases hls
  ·obtain ⟨j,hj⟩:=bj h;obtain ⟨vs,h1,_⟩:=nl3.g j ls _ hj (ac (by rw [<- nl3.len];exact (aa.mp hj).1));rw [h1] at hls;cases hls
 generalize upd (upd H3 ls (.lst (iv st.sides))) y (.ins a.h dx [(("turn":Str),V.int st.turn),(("cells":Str),V.ref mY),(("sides":Str),V.ref ls)])=H5 at o5 y5 nl5 ls5 ⊢;clear nl3 o3 y3 hls y4;walk_at "e";walk_at "a";refine ⟨g0,rfl,.inl ⟨⟨_,SqL.of (o5 _ _ (hp _ pg0) hg0)⟩,λ _ _ _ _ ag hag=>?_⟩⟩;let ni:Nat->St->Hp->Prop:=λ i σ H'=>∃ (v0:Aq) (as:Ab),σ=[v0]/\Same H5 H'/\NL H' (zU H) ag as (qi (st.gone.take i))/\∀ b∈as,H5 b=none;refine qS (K:=K) (a:=g0) (xs:=ugs) ni (iE2 _ ([]) (iA4 rfl (zf hag) (by rw [bX];exact VC nk) (by simp))) (λ i σ H' _ h=>by obtain ⟨_,_,_,s,_⟩:=h;exact SqL.of (s _ _ (o5 _ _ (hp _ pg0) hg0))) ?_ ?_
 ·intro i x σ H2 hi m9;refine oE2 m9 λ v0 as m7=>oA4 m7 λ m8 s2 nl fr=>?_;clear m7 m9;subst m8;obtain ⟨d,hd,rx⟩:=rgs.at hi;rw [aj,aj] at hd;obtain ⟨c,hc⟩:∃ c,st.gone[i]?=some c:=by
   cases e:st.gone[i]? with
   | none=>rw [e] at hd;cases hd
   | some c=>exact ⟨c,rfl⟩
  rw [hc] at hd;cases hd;refine oE2 (Rep.lst' rx) λ li vi m7=>oA4 m7 λ m8 pli hli ri=>?_;clear m7;subst m8;have hil:=(aa.mp hc).1;have hli2:=s2 _ _ (o5 _ _ (hp _ pli) hli);walk_at "a";refine iE2 li _ (iA3 rfl (.inl (SqL.of hli2)) (λ b hb=>?_));have nb:b ∉ as:=λ z=>by
   obtain ⟨j,hj⟩:=bj z;obtain ⟨vs,h1,_⟩:=nl.g j b _ hj (ac (by rw [<- nl.len];exact (aa.mp hj).1));rw [h1] at hb;cases hb
  have nG:b≠ag:=λ z=>by rw [z,nl.out] at hb;cases hb
  have s3:Same H2 (upd H2 b (.lst vi)):=zf hb;have ac3:=nB (o:=.lst vi) nl.out hb;refine ⟨_,iA3 ac3 (zk (by rw [af,nl.len,af,aR];omega)) ?_⟩;have ri3:Reps (upd H2 b (.lst vi)) (zU H) vi (c.map D.int):=(zax ri (zdT c)).keep λ z o pz hz=>⟨pz,s3 _ _ (s2 _ _ (o5 _ _ (kp z pz (by rw [hz];intro q;cases q)) hz))⟩;have nl3:=(nl.same s3).push (b:=b) (vs:=vi) (ys:=c.map D.int) nk nb nG (λ ⟨xs,hx⟩=>by
   have:=o5 _ _ (kp ag ⟨xs,hx⟩ (by rw [hx];intro q;cases q)) hx;rw [hag] at this;cases this) ri3
  refine iE2 _ (as ++ [b]) (iA4 rfl ?_ ?_ ?_)
  ·exact λ z o hz=>by rw [nz (nA hz hag)];exact s3 _ _ (s2 _ _ hz)
  ·rw [aO,hc];rw [show qi (st.gone.take i ++ (some c).toList)=qi (st.gone.take i) ++ [c.map D.int] by simp [qi]];exact nl3
  ·intro z hz;rcases aF.mp hz with hz|hz
   ·exact fr z hz
   ·rw [ar.mp hz];exact zB s2 hb
 intro σ H6 m9;refine oE2 m9 λ v0' ags m7=>oA4 m7 λ m8 s6 nlg frg=>?_;clear m7 m9;subst m8;rw [lgs,aQ] at nlg;have y6:=s6 _ _ y5;walk_at "a";refine iE4 y a.h dx _ (iA6 rfl y6 T.gq T.gx (by simp) ?_);rw [ziQ];have hx5:∀ {z:Addr},H5 z=none->z≠y/\H z=none:=λ {z} hz=>by
  have n1:z≠y:=λ q=>by rw [q,y5] at hz;cases hz
  refine ⟨n1,?_⟩;cases e:H z with
  | none=>rfl
  | some o=>rw [o5 z o n1 e] at hz;cases hz
 have ngy:=(hx5 hag).1;have o7:Own H (upd H6 y (.ins a.h dx (sff st.turn mY ls ag))) y:=(o5.trans (Same.own s6)).trans js;have tp:∀ b,zU H b->H b≠none->zU (upd H6 y (.ins a.h dx (sff st.turn mY ls ag))) b:=λ b ⟨xs,hx⟩ hn=>⟨xs,o7 _ _ (kp b ⟨xs,hx⟩ hn) hx⟩;have inA:∀ z,z∈mY :: acs->∃ o,H5 z=some o:=λ z hz=>by
  rcases aw.mp hz with h|h
  ·exact ⟨_,h ▸ nl5.out⟩
  ·obtain ⟨j,hj⟩:=bj h;obtain ⟨vs,h1,_⟩:=nl5.g j z _ hj (ac (by rw [<- nl5.len];exact (aa.mp hj).1));exact ⟨_,h1⟩
 refine k _ ⟨dx,mY,ls,ag,acs,ags⟩ rfl o7 ⟨nk,?_,?_,?_,?_⟩ ?_
 ·exact (nl5.same s6).keep (λ z o hz ho=>by
   refine (nz (λ q=>?_)).trans ho;rcases hz with h|h|h
   ·exact nay (h.symm.trans q)
   ·exact (hx0 (frc z h)).1 q
   ·obtain ⟨xs,hx⟩:=h;rw [q,hy] at hx;cases hx) λ b hb hn=>by
    obtain ⟨xs,hx⟩:=hb;exact tp b ⟨xs,hx⟩ (by rw [hx];intro q;cases q)
 ·show upd H6 y _ ls=_
  rw [nz nlsy];exact s6 _ _ ls5
 ·exact nlg.keep (λ z o hz ho=>by
   refine (nz (λ q=>?_)).trans ho;rcases hz with h|h|h
   ·exact ngy (h.symm.trans q)
   ·exact (hx5 (frg z h)).1 q
   ·obtain ⟨xs,hx⟩:=h;rw [q,hy] at hx;cases hx) λ b hb hn=>by
    obtain ⟨xs,hx⟩:=hb;exact tp b ⟨xs,hx⟩ (by rw [hx];intro q;cases q)
 ·show (ls :: mY :: ag :: (acs ++ ags)).Nodup
  have ls5':∀ z,H5 z=none->z≠ls:=λ z hz q=>by rw [q,ls5] at hz;cases hz
  rw [dA,dA,dA];refine iA4 (λ z=>?_) (λ z=>?_) (λ z=>?_) ?_
  ·rcases aw.mp z with h|z
   ·exact nlsa (h ▸ bT ..)
   rcases aw.mp z with h|z
   ·exact ls5' ag hag h.symm
   rcases aF.mp z with z|z
   ·exact nlsa (aB _ z)
   ·exact ls5' ls (frg ls z) rfl
  ·rcases aw.mp z with h|z
   ·rw [<- h,nl5.out] at hag;cases hag
   rcases aF.mp z with z|z
   ·exact nl5.nG z
   ·have:=frg mY z;rw [nl5.out] at this;cases this
  ·rcases aF.mp z with z|z
   ·obtain ⟨o,ho⟩:=inA ag (aB _ z);rw [hag] at ho;cases ho
   ·exact nlg.nG z
  ·rw [nodup_append];refine ⟨nl5.nd,nlg.nd,λ u hu v hv q=>?_⟩;subst q;obtain ⟨o,ho⟩:=inA u (aB _ hu);rw [frg u hv] at ho;cases ho
 ·intro b hb;rcases aw.mp hb with rfl|hb
  ·exact hls0
  rcases aw.mp hb with rfl|hb
  ·exact (hx0 hacc).2
  rcases aw.mp hb with rfl|hb
  ·exact (hx5 hag).2
  rcases aF.mp hb with hb|hb
  ·exact (hx0 (frc b hb)).2
  ·exact (hx5 (frg b hb)).2
def VG (T:Txt K mg a):KCal P w K mg base "State" a.h 1 ["self","turn","cells","sides","gone"] [] (vC a):=T.kY.cal T.mJ (X6 T)
def qY {rs:At} (h:Rep H p v (qE a bs rs)):∃ y dx fs l1 l2 bvs mW,v=.ref y/\H y=some (.ins a.q dx fs)/\fs.lookup ("belts":Str)=some (.ref l1)/\fs.lookup ("knots":Str)=some (.ref l2) /\
  H l1=some (.lst bvs)/\H l2=some (.lst mW)/\Bts a H p bvs bs/\Kns a H p mW rs/\∀ f:Str,f≠"belts"->f≠"knots"->fs.lookup f=none:=by
 refine oE3 (Rep.ob' h) λ y dx fs m7=>oA5 m7 λ m8 py hy g1 g2=>?_;clear m7;subst m8;obtain ⟨u1,e1,r1⟩:=g1 _ _ V1;obtain ⟨u2,e2,r2⟩:=g1 _ _ zee;refine oE2 r1.lst' λ l1 bvs m7=>oA4 m7 λ m8 _ h1 b1=>?_;clear m7;subst m8;refine oE2 r2.lst' λ l2 mW m7=>oA4 m7 λ m8 _ h2 b2=>?_;clear m7;subst m8;exact iE7 y dx fs l1 l2 bvs mW (iA9 rfl hy e1 e2 h1 h2 (.of b1) (.of b2) (λ f n1 n2=>g2 f (zh5 n1 n2)))
noncomputable def wm (ks:A6) (n:Int):Int:=ks.getD (n % (ks.length:Int)).toNat 0
def zdN {ks:A6} (n:Int) (h:0 < ks.length):atI (iv ks) (n % (ks.length:Int))=some (.int (wm ks n)):=by
 have h0:=aH n (show (ks.length:Int)≠0 by omega);have h1:=aG n (show (0:Int) < ks.length by omega);unfold wm;generalize n % (ks.length:Int)=m at h0 h1 ⊢;have hlt:m.toNat < ks.length:=by omega
 have e:m=(m.toNat:Int):=by omega
 have:=zz (jf (ac hlt));rw [<- e] at this;rw [this];simp [hlt]
def V3 {s n:Int} (h:Rep H p v (.tup [.int s,.int n])):∃ t,v=.ref t/\H t=some (.tup [.int s,.int n]):=vM (b:=(s,n)) h
def VE {mW:Ap} {rs:At} {r:Row} (hK:Kns a H p mW rs) (h:rs[j]?=some r):∃ kv,mW[j]?=some kv/\KnP a H p kv r:=by
 have hj:=(aa.mp h).1;have e:mW[j]?=some (mW[j]'(by rw [hK.len];exact hj)):=ac _;exact ⟨_,e,hK.g j _ r e h⟩
def zet (a:Ad):Sp:=λ vs H Q _=>∃ (v vwr:V) (bs:A1) (rs:At) (p q:A5) (s:Nat) (n:Int) (r:Row),vs=[v,vwr]/\Rep H p v (qE a bs rs)/\Rep H q vwr (.tup [.int s,.int n])/\rs[s]?=some r/\r.wd=.source/\0 < r.kinds.length/\Q (.int (wm r.kinds n)) H
def WO (T:Txt K mg a):Cal P w K mg base "kind_of" 1 ["work","ware"] [] (zet a):=T.l5.cal λ F=>by
 refine F.okx zbC ?_ ?_
 ·walk_at "i"
 walk_at "j";refine oE5 h λ v vwr bs rs p m7=>oE4 m7 λ q sc n r m8=>oA7 m8 λ n6 hv hw hr' hs hk k=>?_;clear m7 m8 h;subst n6;refine oE7 (qY hv) λ y dx fs l1 l2 bvs mW m7=>oA9 m7 λ m8 hy e1 e2 h1 h2 hB hK no=>?_;clear m7;subst m8;obtain ⟨t,rfl,ht⟩:=V3 hw;obtain ⟨kv,hkv,hKn⟩:=VE hK hr';refine oE6 hKn.inv λ y1 dx1 m1 m2 m3 fs1 m7=>oA9 m7 λ m8 _ _ _ _ g0 _ _ n6=>oA5 n6 λ _ _ _ g3 _=>?_;clear m7 n6;subst m8;obtain ⟨g3a,g3b⟩:=g3 hs;walk_at "T";refine ⟨_,(zg (zo 2 zbC.nd (zj (zn (zj (pq 0) rfl) (zn (pq 1) zd)) rfl))  (zc (zl (zn (pq 2) (zr qu (zn (pq 1) zd) (z6 zY zX (za (pq 2) zb))))))),?_⟩;walk_at "a";refine ra hy T.gz T.gy e2 (nC ht at0 (zq (SqL.of h2) (zz hkv) ?_));refine iE5 y1 (vb a r.wd) dx1 fs1 _ (iA6 rfl g0 (CT T _) (by rw [hs];exact T.gI) g3a ?_);walk_at "a";refine nC ht rfl ?_;walk_at "a";refine ⟨_,.inl ⟨_,SqL.of g3b,rfl⟩,?_⟩;rw [zy];walk_at "a";exact ⟨by omega,zq (SqL.of g3b) (zdN n hk) k⟩
noncomputable def qv (r:Row):List Int:=List.replicate (max r.ins.length r.outs.length) 0
def zhe {α:Type} (n:Nat) (x:α):(List.replicate n [x]).flatten=List.replicate n x:=by
 induction n with
 | zero=>rfl
 | succ n ih=>rw [cH,dO,ih];rfl
def zfb (n:Nat) (x:Int):List.replicate n (V.int x)=iv (List.replicate n x):=by simp [iv]
def zhx (m n:Nat):(if (n:Int) > (m:Int) then (n:Int) else (m:Int))=((max m n:Nat):Int):=by
 by_cases h:(n:Int) > (m:Int)
 ·rw [ap h];omega
 ·rw [am h];omega
def xJ {r:Row} (h:r.ok):r.ins.length<=4/\r.outs.length<=4:=by
 obtain ⟨wd,ins,outs,pc,ks⟩:=r;cases wd
 ·obtain ⟨h1,⟨o,h2⟩,_⟩:=h;simp only at h1 h2;subst h1 h2;simp
 ·obtain ⟨⟨o,h1⟩,h2,_⟩:=h;simp only at h1 h2;subst h1 h2;simp
 ·obtain ⟨⟨o,h1⟩,_,h2⟩:=h;simp only at h1 h2;subst h1;exact ⟨by simp,h2⟩
 ·obtain ⟨⟨o,h1⟩,_,h2⟩:=h;simp only at h1 h2;subst h1;exact ⟨by simp,h2⟩
 ·obtain ⟨⟨o,h1⟩,h2,_⟩:=h;simp only at h1 h2;subst h1;exact ⟨by simp,by show outs.length<=4;omega⟩
 ·obtain ⟨⟨o,h1⟩,_,h2⟩:=h;simp only at h1 h2;subst h1;exact ⟨h2,by simp⟩
def Q8 (a:Ad) (H H':Hp) (v:V) (st:PSt):Prop:=∃ y n,v=.ref y/\StO a H' y n st/\H y=none/\H n.dx=none/\∀ b∈n.all,H b=none
def Xm (T:Txt K mg a) {st:PSt} {vc vs' vg:V} {Q:Addr->Hp->Prop} {E:XK} (rc:Rep H p vc (.lst ((zW st.cells).map D.lst))) (rs:Rep H p vs' (.ints st.sides)) (rg:Rep H p vg (.lst ((qi st.gone).map D.lst))) (lc:st.cells.length<=100) (lg:st.gone.length<=100)
  (k:∀ y H',Same H H'->Q8 a H H' (.ref y) st->Q y H'):∀ (x dx:Addr),H x=none->H dx=none->dx≠x->vC a [.ref x,.int st.turn,vc,vs',vg] (upd (upd H dx (.own x)) x (.ins a.h dx [])) (λ v H2=>v=.non/\Q x H2) E:=by
 intro y dy hy hdy hne;have kp:∀ b o,p b->H b=some o->b≠y/\upd (upd H dy (.own y)) y (.ins a.h dy []) b=some o:=λ b o _ hb=>⟨nA hb hy,qx hy hdy hb⟩;refine iE7 y dy vc vs' vg st (λ b=>b≠y) (iA9 rfl nk (λ _ h=>h) (rc.keep kp) (rs.keep kp) (rg.keep kp) lc lg (λ H' n en o so fr=>⟨rfl,?_⟩));exact k _ _ (Own.of_new hy hdy o) (iE2 y n (iA5 rfl so hy (by rw [en];exact hdy) (λ b hb=>zK (fr b hb))))
def zbv (a:Ad):Sp:=λ vs H Q _=>∃ (v:V) (r:Row) (p:A5),vs=[v]/\KnP a H p v r/\r.ins.length<=100/\r.outs.length<=100/\∀ q H',Same H H'->H q=none->H' q=some (.lst (iv (qv r)))->Q (.ref q) H'
def zbc (T:Txt K mg a):Cal P w K mg base "no_counts" 1 ["knot"] [] (zbv a):=T.ly.cal λ F=>by
 refine F.okx Vk ?_ ?_
 ·walk_at "i"
 walk_at "j";refine oE3 h λ v r p m7=>oA5 m7 λ m8 hKn l1 l2 k=>?_;clear m7 h;subst m8;refine oE6 hKn.inv λ y1 dx1 m1 m2 m3 fs1 m7=>oA9 m7 λ m8 _ _ _ _ g0 f1 f2 n6=>oA5 n6 λ _ g1 g2 g3 _=>?_;clear m7 n6;subst m8;walk_at "T";refine ⟨_,(zc (zl (zr zbT (zI (za zd zb)) (z6 (WN rfl) zfB (za (z6 zY zX (za (zj (pq 0) rfl) zb)) (za (z6 zY zX (za (zj (pq 0) rfl) zb)) zb)))))),?_⟩;walk_at "a";intro q hq;have sq:=zf (o:=.lst [V.int 0]) hq;refine ⟨mq,gJ,?_⟩;refine ra (sq _ _ g0) (CT T _) (NI T _) f1 ⟨_,.inl ⟨_,SqL.of (sq _ _ g1),rfl⟩,?_⟩;refine ⟨gJ,?_⟩;refine ra (sq _ _ g0) (CT T _) (NO T _) f2 ⟨_,.inl ⟨_,SqL.of (sq _ _ g2),rfl⟩,?_⟩;rw [zy,zy];refine iE2 _ _ ⟨rfl,?_⟩;rw [zhx];refine iE3 q _ _ (iA7 rfl rfl nk (by omega) (by omega) ?_ (λ q2 hq2=>?_))
 ·refine Za ?_;simp;omega
 ·rw [zhe,aE,zfb];exact k q2 _ (sq.trans (zf hq2)) (zB sq hq2) nk
noncomputable def qQ (bs:A1) (rs:At):PSt:=⟨0,bs.map λ b=>List.replicate b.1.toNat none,List.replicate rs.length 0,rs.map qv⟩
def zfP (a:Ad):Sp:=λ vs H Q _=>∃ (v:V) (bs:A1) (rs:At) (p:A5),vs=[v]/\Rep H p v (qE a bs rs)/\bs.length<=24/\rs.length<=24/\(∀ b∈bs,zC b.1 b.2)/\(∀ r∈rs,r.ok)/\∀ v' H',Same H H'->Q8 a H H' v' (qQ bs rs)->Q v' H'
def Zx (T:Txt K mg a):Cal P w K mg base "empty_state" 3 ["work"] [] (zfP a):=T.kA.cal λ F=>by
 refine F.okx JS ?_ ?_
 ·walk_at "i"
 walk_at "j";refine oE4 h λ v bs rs p m7=>oA7 m7 λ m8 hv lb lr bo ro k=>?_;clear m7 h;subst m8;refine oE7 (qY hv) λ y dx fs l1 l2 bvs mW m7=>oA9 m7 λ m8 hy e1 e2 h1 h2 hB hK no=>?_;clear m7;subst m8;walk_at "T";refine ⟨_,(zh (Wq (i:=1) JS.nd rfl (Or.inl rfl) (vars:=["belt"]) (caps:=[]) (N:=["belt"]) (ON:=["work","cells","sides"]) (osc:=ze jp) rfl rfl (by first|decide +kernel|kernel_rfl) rfl rfl (qp (zj (pq 0) rfl)) (λ s H fp m5=>(qj 0 (show (["belt"]:A8).Nodup from by decide +kernel))) (λ s H fp m5=>qk) (λ s H fp m5=>(zr zbT (zI (za zG zb)) (zj (pq 0) rfl))))  (zh (zo 2 JS.nd (zr zbT (zI (za zd zb)) (z6 zY zX (za (zj (pq 0) rfl) zb))))  (zc (zl (qw (x:="State") ⟨rfl,rfl,rfl⟩ hr (za zd (za (pq 1) (za (pq 2) (za (jK (vars:=["knot"]) (caps:=[]) (N:=["knot"]) (ON:=["work","cells","sides"]) (osc:=ze jp) rfl rfl (by first|decide +kernel|kernel_rfl) rfl rfl (qp (zj (pq 0) rfl)) (λ s H fp m5=>(qj 0 (show (["knot"]:A8).Nodup from by decide +kernel))) (λ s H fp m5=>qk) (λ s H fp m5=>(ZN hr (za (pq 0) zb)))) zb))))))))),?_⟩;walk_at "a";walk_at "e";walk_at "a";refine ra hy T.gz T.gA e1 ⟨l1,rfl,.inl ⟨⟨_,SqL.of h1⟩,λ _ _ _ _ mY hacc=>?_⟩⟩;let n9:Nat->St->Hp->Prop:=λ i σ H'=>∃ (v0:Aq) (us:Ap),σ=[v0]/\Same H H'/\H' mY=some (.lst us)/\Reps H' (Off [mY]) us ((bs.take i).map λ b=>D.lst (List.replicate b.1.toNat .non));refine qS (K:=K) (a:=l1) (xs:=bvs) n9 (iE2 _ ([]) (iA4 rfl (zf hacc) nk (by rw [bX];exact .nil))) (λ i σ H' _ h=>by obtain ⟨_,_,_,s,_⟩:=h;exact SqL.of (s _ _ h1)) ?_ ?_
 ·intro i x σ H2 hi m9;refine oE2 m9 λ v0 us m7=>oA4 m7 λ m8 s2 ha ru=>?_;clear m7 m9;subst m8;obtain ⟨b,hb',hBt⟩:=hB.at hi;refine oE3 hBt.inv λ y1 dx1 fs1 m7=>oA5 m7 λ m8 _ g0 f1 f2=>?_;clear m7;subst m8;have hil:=(aa.mp hb').1;have bk:=bo b (ah hb');walk_at "a";intro q hq;have sq:=zf (o:=.lst [V.non]) hq;refine ra (sq _ _ (s2 _ _ g0)) T.iu T.io f1 ?_;have b1:=bk.1;have b2:=bk.2.1;refine iE3 q _ _ (iA7 rfl rfl nk (by omega) (by omega) (Za (by simp;omega)) (λ q2 hq2=>?_));rw [zhe];have s3:=sq.trans (zf (o:=.lst (List.replicate b.1.toNat V.non)) hq2);have h3:upd (upd H2 q (.lst [V.non])) q2 (.lst (List.replicate b.1.toNat V.non)) q2=some (.lst (List.replicate b.1.toNat V.non)):=nk;have n2:H2 q2=none:=zB sq hq2;generalize upd (upd H2 q (.lst [V.non])) q2 (.lst (List.replicate b.1.toNat V.non))=H3 at s3 h3 ⊢;have f5:Fr [mY] H3 (upd H3 mY (.lst (us ++ [.ref q2]))):=qz (by simp);have nq:=zeT ha n2;refine ⟨_,iA3 (s3 _ _ ha) (zk (by rw [ru.len,af,aR];omega)) (iE2 _ (us ++ [.ref q2]) (iA4 rfl (((s2.trans s3).fr.trans f5).same (by intro m hm;rw [ar.mp hm];exact hacc)) nk ?_))⟩;rw [aO,hb',bd];refine ((ru.same s3).fr f5).append (.one ?_);refine Reps.mk' ⟨by simp,λ j u d a1 a2=>?_⟩ nq (f5 _ _ nq h3);have a1:=ah a1;have a2:=ah a2;rw [(cr.mp a1).2,(cr.mp a2).2];exact .non
 intro σ H2 m9;refine oE2 m9 λ v0 us m7=>oA4 m7 λ m8 s2 ha ru=>?_;clear m7 m9;subst m8;rw [hB.len,aQ] at ru;walk_at "a";intro q hq;have sq:=zf (o:=.lst [V.int 0]) hq;walk_at "a";refine ra (sq _ _ (s2 _ _ hy)) T.gz T.gy e2 ⟨_,.inl ⟨_,SqL.of (sq _ _ (s2 _ _ h2)),rfl⟩,?_⟩;rw [hK.len];refine iE3 q _ _ (iA7 rfl rfl nk (by omega) (by omega) (Za (by simp;omega)) (λ ls hls=>?_));rw [zhe,aE,zfb];have s3:Same H (upd (upd H2 q (.lst [V.int 0])) ls (.lst (iv (List.replicate rs.length 0)))):=(s2.trans sq).trans (zf hls);have ha3:=nB (o:=.lst (iv (List.replicate rs.length 0))) (sq _ _ ha) hls;have ru3:=(ru.same sq).same (zf (o:=.lst (iv (List.replicate rs.length 0))) hls);have h3:upd (upd H2 q (.lst [V.int 0])) ls (.lst (iv (List.replicate rs.length 0))) ls=some (.lst (iv (List.replicate rs.length 0))):=nk;generalize upd (upd H2 q (.lst [V.int 0])) ls (.lst (iv (List.replicate rs.length 0)))=H3 at s3 ha3 ru3 h3 ⊢;walk_at "a";refine iE4 a.h _ _ _ ⟨(VG T).mono,?_⟩;walk_at "e";walk_at "a";refine ra (s3 _ _ hy) T.gz T.gy e2 ⟨l2,rfl,.inl ⟨⟨_,SqL.of (s3 _ _ h2)⟩,λ _ _ _ _ ac2 hac2=>?_⟩⟩;let ni:Nat->St->Hp->Prop:=λ i σ H'=>∃ (v0:Aq) (us:Ap),σ=[v0]/\Same H3 H'/\H' ac2=some (.lst us)/\Reps H' (Off [ac2]) us ((rs.take i).map λ r=>D.ints (qv r));refine qS (K:=K) (a:=l2) (xs:=mW) ni (iE2 _ ([]) (iA4 rfl (zf hac2) nk (by rw [bX];exact .nil))) (λ i σ H' _ h=>by obtain ⟨_,_,_,s,_⟩:=h;exact SqL.of (s _ _ (s3 _ _ h2))) ?_ ?_
 ·intro i x σ H4 hi m9;refine oE2 m9 λ v0 us m7=>oA4 m7 λ m8 s4 ha4 ru4=>?_;clear m7 m9;subst m8;obtain ⟨r,hr',hKn⟩:=hK.at hi;have hil:=(aa.mp hr').1;have rl:=xJ (ro r (ah hr'));walk_at "a";refine uc (zbc T).mono (iE3 x r p (iA5 rfl (hKn.keep (λ b o pb hb=>⟨pb,s4 _ _ (s3 _ _ hb)⟩)) (by omega) (by omega) (λ q2 H5 s5 n2 h5=>?_)));have f5:Fr [ac2] H5 (upd H5 ac2 (.lst (us ++ [.ref q2]))):=qz (by simp);have nq:=zeT ha4 n2;refine ⟨_,iA3 (s5 _ _ ha4) (zk (by rw [ru4.len,af,aR];omega)) (iE2 _ (us ++ [.ref q2]) (iA4 rfl (((s4.trans s5).fr.trans f5).same (by intro m hm;rw [ar.mp hm];exact hac2)) nk ?_))⟩;rw [aO,hr',bd];exact ((ru4.same s5).fr f5).append (.one (qm nq (f5 _ _ nq h5)))
 intro σ H4 m9;refine oE2 m9 λ v0' us4 m7=>oA4 m7 λ m8 s4 ha4 ru4=>?_;clear m7 m9;subst m8;rw [hK.len,aQ] at ru4;have s34:=s3.trans s4;refine Xm T (st:=qQ bs rs) (p:=Off []) ?_ ?_ ?_ (by simp [qQ];omega) (by simp [qQ];omega) (λ v' H5 s5 so=>k _ _ (s34.trans s5) ?_)
 ·have:=(ru3.same s4).all;rw [show (bs.map λ b=>D.lst (List.replicate b.1.toNat .non))=(zW (qQ bs rs).cells).map D.lst by simp [qQ,zW,qf,eB]] at this;exact this.mk' (λ z=>nomatch z) (s4 _ _ ha3)
 ·exact qm (λ z=>nomatch z) (s4 _ _ h3)
 ·have:=ru4.all;rw [show (rs.map λ r=>D.ints (qv r))=(qi (qQ bs rs).gone).map D.lst by simp [qQ,qi,eB]] at this;exact this.mk' (λ z=>nomatch z) ha4
 ·refine oE2 so λ y5 n5 m7=>oA5 m7 λ e5 o5 f1 f2 f3=>?_;clear m7 so;exact iE2 y5 n5 (iA5 e5 o5 (zB s34 f1) (zB s34 f2) (λ b hb=>zB s34 (f3 b hb)))
def za7 {r:Row} (h:r.ok) (hw:r.wd=.joiner):qv r=List.replicate r.ins.length 0:=by
 obtain ⟨wd,ins,outs,pc,ks⟩:=r;simp only at hw;subst hw;obtain ⟨⟨o,h1⟩,h2,_⟩:=h;simp only at h1 h2;subst h1;unfold qv;rw [Nat.max_eq_left (by simp;omega)]
def zck {r:Row} (h:r.ok) (hw:r.wd≠.joiner):qv r=List.replicate (max 1 r.outs.length) 0:=by
 obtain ⟨wd,ins,outs,pc,ks⟩:=r;unfold qv;cases wd
 ·obtain ⟨h1,⟨o,h2⟩,_⟩:=h;simp only at h1 h2;subst h1 h2;rfl
 ·obtain ⟨⟨o,h1⟩,h2,_⟩:=h;simp only at h1 h2;subst h1 h2;rfl
 ·obtain ⟨⟨o,h1⟩,h2,_⟩:=h;simp only at h1 h2;subst h1;rfl
 ·obtain ⟨⟨o,h1⟩,h2,_⟩:=h;simp only at h1 h2;subst h1;rfl
 ·obtain ⟨⟨o,h1⟩,h2,_⟩:=h;simp only at h1 h2;subst h1;rfl
 ·exact absurd rfl hw
def wC {r:Row} (h:r.ok):1<=(qv r).length/\(qv r).length<=4:=by
 have:=xJ h;by_cases hw:r.wd=.joiner
 ·rw [za7 h hw,a8];obtain ⟨wd,ins,outs,pc,ks⟩:=r;simp only at hw;subst hw;have:=h.2.1;simp only at this;constructor
  ·show 1<=ins.length;omega
  ·exact h.2.2
 ·rw [zck h hw,a8];omega
def vB (rs:At) (x:zE):Prop:=∀ s n,x=some (s,n)->∃ (j:Nat) (r:Row),s=j/\rs[j]?=some r/\r.wd=.source/\0<=n
def zcc (rs:At) (gss:List A6):Prop:=gss.length=rs.length/\∀ (i:Nat) r g,rs[i]?=some r->gss[i]?=some g->g.length=(qv r).length/\∀ n∈g,0<=n
def xv (bs:A1) (rs:At) (css:Au):Prop:=css.length=bs.length/\∀ (i:Nat) b c,bs[i]?=some b->css[i]?=some c->c.length=b.1.toNat/\∀ x∈c,vB rs x
def zfg {rs:At} {gss:List A6} (h:zcc rs gss) {g g':A6} (e:gss[j]?=some g) (l:g'.length=g.length) (n:∀ x∈g',0<=x):zcc rs (gss.set j g'):=by
 refine ⟨by rw [bN];exact h.1,λ i r x h1 h2=>?_⟩;by_cases hj:i=j
 ·subst hj;rw [aY (aa.mp e).1] at h2;cases h2;exact ⟨by rw [l];exact (h.2 i r g h1 e).1,n⟩
 ·rw [bH (aW hj)] at h2;exact h.2 i r x h1 h2
def wI (r:Row) (s:Int):Prop:=0<=s/\(r.wd=.parter->s < r.outs.length)/\(r.wd=.joiner->s < r.ins.length)/\(r.wd≠.parter->r.wd≠.joiner->s=0)
def Vg (rs:At) (sds:A6):Prop:=sds.length=rs.length/\∀ (i:Nat) r s,rs[i]?=some r->sds[i]?=some s->wI r s
noncomputable def zO (cs:Au) (b:Int):List zE:=cs.getD b.toNat []
noncomputable def va (c:Av):zE:=c.getLastD none
noncomputable def zgA (c:Av):zE:=c.headD none
noncomputable def jL (rs:At):zE->Option Int:=Option.map λ x=>wm ((rs[x.1.toNat]?.map Row.kinds).getD []) x.2
noncomputable def qq (rs:At) (cs:Au) (r:Row):List A9:=r.ins.map λ b=>jL rs (va (zO cs b))
noncomputable def qX (cs:Au) (r:Row):List Bool:=r.outs.map λ b=>decide (zgA (zO cs b)=none)
def zcI {α:Type} {xs:List α} {d:α} (h:xs≠[]):atI xs (-1)=some (xs.getLastD d):=by
 have hl:0 < xs.length:=dP.mpr h;unfold atI ixN;rw [am (by decide),ap (by omega)];have e:((-1:Int) + xs.length).toNat=xs.length - 1:=by omega
 simp only [Option.bind_some,e];rw [ac (by omega),bA,eV,ac (by omega)]
 rfl
def zaP {c:Av}:(c.map qf).getLastD .non=qf (va c):=by
 unfold va;rw [bA,bA,List.getLast?_map];cases c.getLast? <;> rfl
structure stWf (bs:A1) (rs:At) (st:PSt):Prop where
 co:xv bs rs st.cells
 so:Vg rs st.sides
 go:zcc rs st.gone
def vd {rs:At} {cs:Au} (h:xv bs rs cs) (bo:∀ b∈bs,zC b.1 b.2) {b:Int} (hb:b∈rgI bs.length):∃ (i:Nat),b=i/\i < cs.length/\cs[i]?=some (zO cs b)/\zO cs b≠[]/\∀ x∈zO cs b,vB rs x:=by
 obtain ⟨h0,h1⟩:=zgl hb;obtain ⟨i,rfl⟩:∃ i:Nat,b=i:=⟨b.toNat,by omega⟩;have hi:i < cs.length:=by rw [h.1];omega
 have e:cs[i]?=some (zO cs i):=by
  unfold zO;rw [aE,ac hi];simp [hi]
 have hib:i < bs.length:=by omega
 obtain ⟨q1,q2⟩:=h.2 i bs[i] _ (ac hib) e;refine ⟨i,iA5 rfl hi e ?_ q2⟩;intro z;rw [z] at q1;have:=(bo _ (getElem_mem hib)).1;simp at q1;omega
def JB {rs:At} {r:Row} {b:Int} (w:zS bs rs) (h:rs[k]?=some r) (hb:b∈r.ins):b∈rgI bs.length :=
 w.2.2.mem_iff.mp (List.mem_flatMap.mpr ⟨r,ah h,hb⟩)
def Xd {rs:At} {r:Row} {b:Int} (w:zS bs rs) (h:rs[k]?=some r) (hb:b∈r.outs):b∈rgI bs.length :=
 w.2.1.mem_iff.mp (List.mem_flatMap.mpr ⟨r,ah h,hb⟩)
def zcU {c:Av} (h:c≠[]):va c∈c:=by
 unfold va;rw [bA,List.getLast?_eq_some_getLast h];exact List.getLast_mem h
def zdf {st:PSt} (h:Rep H p v (XF a st)):∃ y dx fs lc ls lg ucs ugs,v=.ref y/\H y=some (.ins a.h dx fs)/\fs.lookup ("turn":Str)=some (.int st.turn)/\fs.lookup ("cells":Str)=some (.ref lc)/\fs.lookup ("sides":Str)=some (.ref ls)/\fs.lookup ("gone":Str)=some (.ref lg) /\
  H lc=some (.lst ucs)/\Reps H p ucs ((zW st.cells).map D.lst)/\H ls=some (.lst (iv st.sides))/\H lg=some (.lst ugs)/\Reps H p ugs ((qi st.gone).map D.lst):=by
 refine oE3 (Rep.ob' h) λ y dx fs m7=>oA5 m7 λ m8 py hy g1 g2=>?_;clear m7;subst m8;obtain ⟨u1,e1,r1⟩:=g1 _ _ (V8 st);obtain ⟨u2,e2,r2⟩:=g1 _ _ (Wl st);obtain ⟨u3,e3,r3⟩:=g1 _ _ (Wk st);obtain ⟨u4,e4,r4⟩:=g1 _ _ (V9 st);cases r1;refine oE2 r2.lst' λ lc ucs m7=>oA4 m7 λ m8 _ hc rc=>?_;clear m7;subst m8;refine oE1 r3.ints' λ ls m7=>oA3 m7 λ m8 _ hs=>?_;clear m7;subst m8;refine oE2 r4.lst' λ lg ugs m7=>oA4 m7 λ m8 _ hg rg=>?_;clear m7;subst m8;exact iE8 y dx fs lc ls lg ucs ugs (iA9 rfl hy e1 e2 e3 e4 hc rc (iA3 hs hg rg))
def zfd {us:Ap} {dss:List (List D)} (h:Reps H p us (dss.map D.lst)) {ds:List D} (e:dss[i]?=some ds):∃ l vs,us[i]?=some (.ref l)/\H l=some (.lst vs)/\Reps H p vs ds:=by
 obtain ⟨v,h1,h2⟩:=h.of (i:=i) (d:=.lst ds) (by rw [aj,e];rfl);refine oE2 h2.lst' λ l vs m7=>oA4 m7 λ m8 _ h3 h4=>?_;clear m7;subst m8;exact iE2 l vs (iA3 h1 h3 h4)
inductive spHeads (a:Ad) (vs:Ap) (H:Hp) (Q:VK) (E:XK):Prop
 | i (vw vs' vk:V) (bs:A1) (rs:At) (st:PSt) (k:Nat) (r:Row) (p q:A5):vs=[vw,vs',vk]->Rep H p vw (qE a bs rs)->Rep H q vs' (XF a st)->KnP a H p vk r->rs[k]?=some r->zS bs rs->(∀ b∈bs,zC b.1 b.2)->(∀ r∈rs,r.ok)->xv bs rs st.cells->(∀ l H',Same H H'->H l=none->H' l=some (.lst ((qq rs st.cells r).map hdV))->Q (.ref l) H')->spHeads a vs H Q E
theorem zcp (T:Txt K mg a):Cal P w K mg base "heads_of" 2 ["work","state","knot"] [] (spHeads a):=T.lP.cal λ F=>by
 refine F.okx zao ?_ ?_
 ·walk_at "i"
 walk_at "j";rcases h with ⟨vw,vs',vk,bs,rs,st,kn,r,p,q,rfl,hw,hs,hk,hr',mZ,bo,ro,co,k⟩;refine oE8 (zdf hs) λ y dx fs lc ls lg ucs ugs m7=>oA9 m7 λ m8 hy e1 e2 e3 e4 hc rc n6=>oA3 n6 λ hsd hg rg=>?_;clear m7 n6;subst m8;refine oE6 hk.inv λ y1 dx1 m1 m2 m3 fs1 m7=>oA9 m7 λ m8 _ _ _ _ g0 f1 f2 n6=>oA5 n6 λ _ g1 g2 _ _=>?_;clear m7 n6;subst m8;have rl:=xJ (ro r (ah hr'));walk_at "T";refine ⟨_,(zh (Wq (i:=3) zao.nd rfl (Or.inl rfl) (vars:=["belt"]) (caps:=[1]) (N:=["belt","state"]) (ON:=["work","state","knot","ends"]) (osc:=ze xC) rfl rfl (by first|decide +kernel|kernel_rfl) rfl rfl (qp (zj (pq 2) rfl)) (λ s H fp m5=>(qj 0 (show (["belt","state"]:A8).Nodup from by decide +kernel))) (λ s H fp m5=>qk) (λ s H fp m5=>(zn (zn (zj (pq 1) rfl) (pq 0)) (vK xy zd))))  (zc (zl (jK (vars:=["ware"]) (caps:=[0]) (N:=["ware","work"]) (ON:=["work","state","knot","ends"]) (osc:=ze xC) rfl rfl (by first|decide +kernel|kernel_rfl) rfl rfl (qp (pq 3)) (λ s H fp m5=>(qj 0 (show (["ware","work"]:A8).Nodup from by decide +kernel))) (λ s H fp m5=>qk) (λ s H fp m5=>(ww (zm jo (pq 0) zG (zt _)) zG (ZN hr (za (pq 1) (za (pq 0) zb))))))))),?_⟩;walk_at "a";walk_at "e";walk_at "a";refine ra g0 (CT T _) (NI T _) f1 ⟨m1,rfl,.inl ⟨⟨_,SqL.of g1⟩,λ _ _ _ _ mY hacc=>?_⟩⟩;let n9:Nat->St->Hp->Prop:=λ i σ H'=>∃ (v0:Aq) (us:Ap),σ=[v0,some (.ref y)]/\Same H H'/\H' mY=some (.lst us)/\Reps H q us ((r.ins.take i).map λ b=>qf (va (zO st.cells b)));refine qS (K:=K) (a:=m1) (xs:=iv r.ins) n9 (iE2 _ ([]) (iA4 rfl (zf hacc) nk (by rw [bX];exact .nil))) (λ i σ H' _ h=>by obtain ⟨_,_,_,s,_⟩:=h;exact SqL.of (s _ _ g1)) ?_ ?_
 ·intro i x σ H2 hi m9;refine oE2 m9 λ v0 us m7=>oA4 m7 λ m8 s2 ha ru=>?_;clear m7 m9;subst m8;obtain ⟨b,hb,rfl⟩:=Qj hi;have hil:=(aa.mp hb).1;refine oE1 (vd co bo (JB mZ hr' (ah hb))) λ j m7=>oA5 m7 λ m8 hj ej nej _=>?_;clear m7;subst m8;obtain ⟨li,vi,hu,hli,ri⟩:=zfd rc (i:=j) (ds:=(zO st.cells j).map qf) (by rw [zW,aj,ej];rfl);obtain ⟨ve,he,re⟩:=zgZ ri (zcI (d:=.non) (by simpa using nej));rw [zaP] at re;walk_at "a";refine ra (s2 _ _ hy) T.gq T.gw e2 (zq (SqL.of (s2 _ _ hc)) (zz hu) ?_);walk_at "a";refine zq (SqL.of (s2 _ _ hli)) he ?_;refine ⟨_,iA3 ha (zk (by rw [ru.len,af,aR];omega)) (iE2 _ (us ++ [ve]) (iA4 rfl (λ b o hb=>by rw [nz (nA hb hacc)];exact s2 b o hb) nk ?_))⟩;rw [aO,hb,bd];exact ru.append (.one re)
 intro σ H2 m9;refine oE2 m9 λ v0 us m7=>oA4 m7 λ m8 s2 ha ru=>?_;clear m7 m9;subst m8;rw [zy,aQ] at ru;have lu:us.length=r.ins.length:=by rw [ru.len,af]
 walk_at "a";walk_at "e";walk_at "a";refine ⟨mY,rfl,.inl ⟨⟨_,SqL.of ha⟩,λ _ _ _ _ ac2 hac2=>?_⟩⟩;let ni:Nat->St->Hp->Prop:=λ i σ H'=>∃ (v0:Aq),σ=[v0,some vw]/\Same H2 H'/\H' ac2=some (.lst ((((qq rs st.cells r).take i).map hdV)));refine qS (K:=K) (a:=mY) (xs:=us) ni ⟨_,iA3 rfl (zf hac2) (by rw [bX];exact nk)⟩ (λ i σ H' _ h=>by obtain ⟨_,_,s,_⟩:=h;exact SqL.of (s _ _ ha)) ?_ ?_
 ·intro i x σ H3 hi m9;refine oE1 m9 λ v0 m7=>oA3 m7 λ m8 s3 ha3=>?_;clear m7 m9;subst m8;obtain ⟨d,hd,rx⟩:=ru.at hi;rw [aj,au] at hd;obtain ⟨b,hb,rfl⟩:=hd;have hil:=(aa.mp hb).1;refine oE1 (vd co bo (JB mZ hr' (ah hb))) λ j m7=>oA5 m7 λ m8 hj ej nej wk=>?_;clear m7;subst m8;have hwk:=wk _ (zcU nej);have hh:(qq rs st.cells r)[i]?=some (jL rs (va (zO st.cells j))):=by rw [qq,aj,hb];rfl
  have s23:=s2.trans s3;have fin:∀ u:V,u=hdV (jL rs (va (zO st.cells j)))->∃ ys,H3 ac2=some (.lst ys)/\ys.length < sizeLine/\∃ (v0:Aq),([some x,some vw]:St)=[v0,some vw]/\Same H2 (upd H3 ac2 (.lst (ys ++ [u])))/\upd H3 ac2 (.lst (ys ++ [u])) ac2=some (.lst ((((qq rs st.cells r).take (i + 1)).map hdV))):=by
   rintro u rfl;refine ⟨_,iA3 ha3 (zk (by rw [af,aR];omega)) ⟨_,iA3 rfl (λ b o hb=>by rw [nz (nA hb hac2)];exact s3 b o hb) ?_⟩⟩;rw [nk,aO,hh,bd]
   rfl
  walk_at "a";cases hE:va (zO st.cells j) with
  | none =>
   rw [hE] at rx fin;cases rx;rw [ap rfl];exact fin _ rfl
  | some wr =>
   obtain ⟨sr,nr⟩:=wr;rw [hE] at rx fin hwk;refine oE2 (hwk _ _ rfl) λ j0 r0 m7=>oA4 m7 λ m8 hr0 hw0 _=>?_;clear m7;subst m8;have ok0:=ro r0 (ah hr0);have kp:0 < r0.kinds.length:=by
    obtain ⟨wd,ins,outs,pc,ks⟩:=r0;simp only at hw0;subst hw0;exact ok0.2.2.2.2.1
   obtain ⟨tw,rfl,htw⟩:=V3 rx;rw [am (by intro z;cases z)];refine uc (WO T).mono (iE5 vw _ bs rs p (iE4 q j0 nr r0 (iA7 rfl (jq hw s23) (jq rx s23) hr0 hw0 kp ?_)));exact fin _ (by simp [jL,hr0,hdV])
 ·intro σ H3 m9;refine oE1 m9 λ v0 m7=>oA3 m7 λ m8 s3 ha3=>?_;clear m7 m9;subst m8;rw [lu,cG (by simp [qq])] at ha3;walk_at "a";exact k _ _ (s2.trans s3) (zB s2 hac2) ha3
def zey (K:A0):Sp:=λ vs H Q _=>∃ (l:Addr) (ns:A6) (o:Option Nat),vs=[.ref l,Zo o]/\H l=some (.lst (iv ns))/\(∀ j,o=some j->j < ns.length)/\Q (hdV (o.bind λ j=>ns[j]?)) H
theorem WP (T:Txt K mg a):Cal P w K mg base "belt_at" 1 ["belts","place"] [] (zey K):=T.l7.cal λ F=>by
 refine F.okx zbD ?_ ?_
 ·walk_at "i"
 walk_at "j";refine oE3 h λ l ns o m7=>oA4 m7 λ m8 hl ho k=>?_;clear m7 h;subst m8;walk_at "T";refine ⟨_,(zc (zl (ww (zm jo (pq 1) zG (zt _)) zG (zn (pq 0) (pq 1))))),?_⟩;walk_at "a";cases o with
 | none=>exact zJ (λ _=>k) (λ b=>absurd rfl b)
 | some j =>
  have hj:=ho j rfl;refine zJ (λ b=>by cases b) (λ _=>?_);refine zq (SqL.of hl) (zz (jf (ac hj))) ?_;have e:hdV ((some j).bind λ j=>ns[j]?)=.int ns[j]:=by simp [hj,hdV]
  rw [e] at k;exact k
def ziY (T:Txt K mg a) (wd:Wd):kitOne K (.ref (vb a wd)) (.ref a.p)=some (decide (wd=.joiner)):=by
 cases wd
 ·exact T.iI
 ·exact T.iX
 ·exact T.iJ
 ·exact T.hW
 ·exact T.iY
 ·exact T.iK
noncomputable def jR (r:Row) (ch:Ak):Nat:=if r.wd=.joiner then ch.1.getD 0 else ch.2.1.getD 0
inductive spCounted (a:Ad) (vs:Ap) (H:Hp) (Q:VK) (E:XK):Prop
 | i (vk:V) (t:Addr) (r:Row) (ch:Ak) (p:A5):vs=[vk,.ref t]->KnP a H p vk r->H t=some (.tup (chV ch))->(r.wd=.joiner->∃ j,ch.1=some j)->Q (.int (jR r ch)) H->spCounted a vs H Q E
theorem Jp (T:Txt K mg a):Cal P w K mg base "counted_place" 1 ["knot","chosen"] [] (spCounted a):=T.iO.cal λ F=>by
 refine F.okx Qu ?_ ?_
 ·walk_at "i"
 walk_at "j";rcases h with ⟨vk,t,r,ch,p,rfl,hk,ht,hj,k⟩;refine oE6 hk.inv λ y1 dx1 m1 m2 m3 fs1 m7=>oA9 m7 λ m8 _ _ _ _ g0 f1 f2 n6=>oA5 n6 λ _ g1 g2 _ _=>?_;clear m7 n6;subst m8;walk_at "T";refine ⟨_,(zg (zD (jY (z6 VY jW (za (pq 0) (za vn zb))) (λ _=>rfl))  (zc (zl (zn (pq 1) zd)))  zp)  (zc (zl (ww (zm jo (zn (pq 1) zd) zG (zt _)) zd (zn (pq 1) zd))))),?_⟩;walk_at "a";refine iE2 (.ref a.p) _ (iA3 T.lK rfl (iE4 _ _ _ _ (iA4 rfl ((WT T r.wd).ty (CT T r.wd) g0) (.inl ⟨_,rfl,ziY T r.wd⟩) ?_)));walk_at "a";unfold jR at k;refine zJ (λ b=>?_) (λ b=>?_)
 ·rw [ap b] at k;obtain ⟨j,ej⟩:=hj b;walk_at "a";refine nC ht at0 ?_;rw [ej] at k ⊢;exact k
 ·rw [am b] at k;walk_at "a";refine nC ht (show atI (chV ch) 1=some (Zo ch.2.1) from rfl) ?_;walk_at "a";cases e:ch.2.1 with
  | none =>
   rw [e] at k;exact zJ (λ _=>k) (λ b=>absurd rfl b)
  | some j =>
   rw [e] at k;refine zJ (λ b=>by cases b) (λ _=>?_);refine nC ht (show atI (chV ch) 1=some (Zo ch.2.1) from rfl) ?_;rw [e];exact k
section
variable {H:Hp} {y:Addr} {n:SN} {st:PSt}
def StO.nds (h:StO a H y n st):n.ls ∉ n.lc :: n.lg :: (n.acs ++ n.ags)/\n.lc ∉ n.lg :: (n.acs ++ n.ags)/\n.lg ∉ n.acs ++ n.ags/\∀ x∈n.acs,x ∉ n.ags:=by
 have nd:=h.nd;unfold SN.all at nd;rw [dA,dA,dA,nodup_append] at nd;exact iA4 nd.1 nd.2.1 nd.2.2.1 (λ x hx hy=>nd.2.2.2.2.2 x hx x hy rfl)
def Jr {us vs:Ap} (hx:H x=some (.lst us)) (h:zU H b):zU (upd H x (.lst vs)) b:=by
 obtain ⟨xs,hb⟩:=h;exact ⟨xs,by rw [nz (λ z=>by rw [z,hx] at hb;cases hb)];exact hb⟩
def StO.putC {c':Av} (h:StO a H y n st) (e:n.acs[i]?=some b) (r:Reps H (zU H) vs (c'.map qf)):StO a (upd H b (.lst vs)) y n { st with cells:=st.cells.set i c' }:=by
 have hb:=ah e;obtain ⟨us,hu⟩:=h.hc.isl (aB _ hb);refine oA4 h.nds λ n1 n2 n3 n4=>?_;have k:∀ c o,c≠b->H c=some o->upd H b (.lst vs) c=some o:=λ c o nc hc=>by rw [nz nc];exact hc
 have ntb:¬ zU H b:=λ ⟨xs,hx⟩=>by rw [hu] at hx;cases hx
 refine ⟨k _ _ (λ z=>by rw [<- z,h.hy] at hu;cases hu) h.hy,?_,k _ _ (λ z=>n1 (by rw [z];simp [hb])) h.hs,h.hg.tup λ c o hz hc=>k c o (λ z=>?_) hc,h.nd⟩
 ·have:=h.hc.put (vs:=vs) (ys:=c'.map qf) e ntb r;rw [show zW (st.cells.set i c')=(zW st.cells).set i (c'.map qf) by simp [zW,dN]];exact this.keep (λ _ _ _ hc=>hc) λ c hc _=>Jr hu hc
 ·subst z;rcases hz with rfl|hz|hz
  ·exact n3 (bF _ hb)
  ·exact n4 c hb hz
  ·exact ntb hz
def StO.putG {g':A6} (h:StO a H y n st) (e:n.ags[i]?=some b):StO a (upd H b (.lst (iv g'))) y n { st with gone:=st.gone.set i g' }:=by
 have hb:=ah e;obtain ⟨us,hu⟩:=h.hg.isl (aB _ hb);refine oA4 h.nds λ n1 n2 n3 n4=>?_;have k:∀ c o,c≠b->H c=some o->upd H b (.lst (iv g')) c=some o:=λ c o nc hc=>by rw [nz nc];exact hc
 have ntb:¬ zU H b:=λ ⟨xs,hx⟩=>by rw [hu] at hx;cases hx
 refine ⟨k _ _ (λ z=>by rw [<- z,h.hy] at hu;cases hu) h.hy,h.hc.tup λ c o hz hc=>k c o (λ z=>?_) hc,k _ _ (λ z=>n1 (by rw [z];simp [hb])) h.hs,?_,h.nd⟩
 ·subst z;rcases hz with rfl|hz|hz
  ·exact n2 (aB _ (aX _ hb))
  ·exact n4 c hz hb
  ·exact ntb hz
 ·have:=h.hg.put (vs:=iv g') (ys:=g'.map D.int) e ntb reps_ints;rw [show qi (st.gone.set i g')=(qi st.gone).set i (g'.map D.int) by simp [qi,dN]];exact this.keep (λ _ _ _ hc=>hc) λ c hc _=>Jr hu hc
def StO.putS {s':A6} (h:StO a H y n st):StO a (upd H n.ls (.lst (iv s'))) y n { st with sides:=s' }:=by
 refine oA4 h.nds λ n1 n2 n3 n4=>?_;have k:∀ c o,c≠n.ls->H c=some o->upd H n.ls (.lst (iv s')) c=some o:=λ c o nc hc=>by rw [nz nc];exact hc
 have kt:∀ c,zU H c->c≠n.ls:=λ c ⟨xs,hx⟩ z=>by rw [z,h.hs] at hx;cases hx
 refine ⟨k _ _ (λ z=>by have:=h.hy;rw [z,h.hs] at this;cases this) h.hy,h.hc.tup λ c o hz hc=>k c o (λ z=>?_) hc,nk,h.hg.tup λ c o hz hc=>k c o (λ z=>?_) hc,h.nd⟩
 ·rcases hz with rfl|hz|hz
  ·exact n1 (by rw [<- z];simp)
  ·exact n1 (by rw [<- z];simp [hz])
  ·exact kt c hz z
 ·rcases hz with rfl|hz|hz
  ·exact n1 (by rw [<- z];simp)
  ·exact n1 (by rw [<- z];simp [hz])
  ·exact kt c hz z
def StO.cell {c:Av} (h:StO a H y n st) (e:st.cells[i]?=some c):∃ b vs,n.acs[i]?=some b/\H b=some (.lst vs)/\Reps H (zU H) vs (c.map qf):=h.hc.at (by rw [zW,aj,e];rfl)
def StO.goneL {g:A6} (h:StO a H y n st) (e:st.gone[i]?=some g):∃ b,n.ags[i]?=some b/\H b=some (.lst (iv g)):=by
 obtain ⟨b,vs,h1,h2,h3⟩:=h.hg.at (i:=i) (xs:=g.map D.int) (by rw [qi,aj,e];rfl);rw [JA h3] at h2;exact ⟨b,h1,h2⟩
def sff_l {t:Int} {lc ls lg:Addr}:(sff t lc ls lg).lookup ("cells":Str)=some (.ref lc)/\(sff t lc ls lg).lookup ("sides":Str)=some (.ref ls)/\(sff t lc ls lg).lookup ("gone":Str)=some (.ref lg)/\(sff t lc ls lg).lookup ("turn":Str)=some (.int t):=by
 unfold sff;refine iA4 ((zV (by decide +kernel)).trans je) ((zV (by decide +kernel)).trans ((zV (by decide +kernel)).trans je)) ((zV (by decide +kernel)).trans ((zV (by decide +kernel)).trans ((zV (by decide +kernel)).trans je))) je
def Qs (e:n.acs[i]?=some b):(n.acs.map V.ref)[i]?=some (.ref b):=by rw [aj,e];rfl
def Zl (e:n.ags[i]?=some b):(n.ags.map V.ref)[i]?=some (.ref b):=by rw [aj,e];rfl
def VZ (e:n.acs[i]?=some b):b∈y :: n.all:=by simp [SN.all,ah e]
def zgF (e:n.ags[i]?=some b):b∈y :: n.all:=by simp [SN.all,ah e]
end
noncomputable def xA (c:Av):List zE:=c.set (c.length - 1) none
noncomputable def z7 (st:PSt) (k:Nat):Option Int->zE × PSt
 | none=>(some ((k:Int),(st.gone.getD k []).headD 0),st)
 | some b=>(va (zO st.cells b),{ st with cells:=st.cells.set b.toNat (xA (zO st.cells b)) })
def Reps.set {ds:List D} {d:D} (h:Reps H p vs ds) (i:Nat) (r:Rep H p v d):Reps H p (vs.set i v) (ds.set i d):=by
 refine ⟨by rw [bN,bN,h.len],λ j u e h1 h2=>?_⟩;by_cases hj:j=i
 ·subst hj;have hl:j < vs.length:=by have:=(aa.mp h1).1;rw [bN] at this;exact this
  rw [aY hl] at h1;rw [aY (by rw [<- h.len];exact hl)] at h2;cases h1;cases h2;exact r
 ·rw [bH (aW hj)] at h1 h2;exact h.g j u e h1 h2
inductive spTaken (a:Ad) (vs:Ap) (H:Hp) (Q:VK) (E:XK):Prop
 | i (y:Addr) (n:SN) (st:PSt) (k:Nat) (fb:A9) (g0:Int) (gs:A6):vs=[.ref y,.int k,hdV fb]->StO a H y n st->st.gone[k]?=some (g0 :: gs)->(∀ b,fb=some b->∃ i:Nat,b=i/\st.cells[i]?=some (zO st.cells b)/\zO st.cells b≠[])->(∀ v H',Fr (y :: n.all) H H'->StO a H' y n (z7 st k fb).2->Rep H' (zU H') v (qf (z7 st k fb).1)->Q v H')->spTaken a vs H Q E
theorem VS (T:Txt K mg a):Cal P w K mg base "taken_ware" 1 ["state","number","from_belt"] [] (spTaken a):=T.kP.cal λ F=>by
 refine F.okx XV ?_ ?_
 ·walk_at "i"
 walk_at "j";rcases h with ⟨y,n,st,kn,fb,g0,gs,rfl,so,hg,hf,k⟩;refine oA4 (sff_l (t:=st.turn) (lc:=n.lc) (ls:=n.ls) (lg:=n.lg)) λ lk1 lk2 lk3 lk4=>?_;walk_at "T";refine ⟨_,(zg (zD (zm jo (pq 2) zG (zt _))  (zc (zl (qL (za (pq 1) (za (zn (zn (zj (pq 0) rfl) (pq 1)) zd) zb)))))  zp)  (zg (zo 3 XV.nd (zn (zn (zj (pq 0) rfl) (pq 2)) (vK xy zd)))  (zg (J9 zG (Xc (zn (zj (pq 0) rfl) (pq 2)) (vK xy zd) wp))  (zc (zl (pq 3)))))),?_⟩;walk_at "a";cases fb with
 | none =>
  refine zJ (λ _=>?_) (λ b=>absurd rfl b);obtain ⟨bG,hbG,hgG⟩:=so.goneL hg;walk_at "a";refine ra so.hy T.gq T.gx lk3 (zq (SqL.of so.hg.out) (zz (Zl hbG)) (zq (SqL.of hgG) at0 ?_));walk_at "a";intro t ht;refine k _ _ (zcd ht) (so.same (zf ht)) ?_;have e:(st.gone.getD kn []).headD 0=g0:=by simp [List.getD,hg]
  show Rep _ _ _ (D.tup [.int kn,.int ((st.gone.getD kn []).headD 0)])
  rw [e];exact Reps.mkT (vs:=[.int kn,.int g0]) (.cons .int (.cons .int .nil)) ⟨_,nk⟩ nk
 | some b =>
  refine oE1 (hf b rfl) λ i m7=>oA3 m7 λ m8 hc nc=>?_;clear m7;subst m8;refine oE2 (so.cell hc) λ bC vs m7=>oA3 m7 λ hbC hvC rvC=>?_;clear m7;have lv:vs.length=(zO st.cells i).length:=by rw [rvC.len,af]
  have lp:0 < vs.length:=by rw [lv];exact dP.mpr nc
  obtain ⟨ve,he,re⟩:=zgZ rvC (zcI (d:=.non) (by simpa using nc));rw [zaP] at re;refine zJ (λ b=>by cases b) (λ _=>?_);walk_at "a";refine ra so.hy T.gq T.gw lk1 (zq (SqL.of so.hc.out) (zz (Qs hbC)) ?_);walk_at "a";refine zq (SqL.of hvC) he ?_;walk_at "a";refine ra so.hy T.gq T.gw lk1 (zq (SqL.of so.hc.out) (zz (Qs hbC)) ?_);walk_at "a";refine Zc (j:=vs.length - 1) hvC ?_ ?_
  ·unfold ixN;rw [am (by decide),ap (by omega)]
   congr 1
   omega
  have e2:(xA (zO st.cells i)).map qf=((zO st.cells i).map qf).set (vs.length - 1) .non:=by
   unfold xA;rw [dN,lv]
   rfl
  have r2:Reps H (zU H) (vs.set (vs.length - 1) .non) ((xA (zO st.cells i)).map qf):=by rw [e2];exact Reps.set rvC _ .non
  refine k _ _ (qz (VZ hbC)) ?_ ?_
  ·have:=so.putC hbC r2;simpa [z7] using this
  ·refine Rep.keep (λ c o pc hc=>⟨Jr hvC pc,?_⟩) re;obtain ⟨xs,hx⟩:=pc;rw [nz (λ z=>by rw [z,hvC] at hx;cases hx)];exact hc
structure Move where
 k:Nat
 ware:zE
 fr:Option Int
 to:Option Int
noncomputable def zhR:Option Int->D
 | none=>.non
 | some b=>.int b
def zcx (o:A9):Rep H p (hdV o) (zhR o):=by
 cases o
 ·exact .non
 ·exact .int
noncomputable def WL (m:Move):D:=.tup [.int m.k,qf m.ware,zhR m.fr,zhR m.to]
noncomputable def zhS:Option Move->D
 | none=>.non
 | some m=>WL m
noncomputable def vJ (st:PSt) (x:zE):Option Int->PSt
 | none=>st
 | some b=>{ st with cells:=st.cells.set b.toNat ((zO st.cells b).set 0 x) }
noncomputable def ZV (g:A6) (j:Nat):List Int:=g.set j (g.getD j 0 + 1)
noncomputable def qF (r:Row) (ch:Ak):Option Int:=ch.1.bind λ j=>r.ins[j]?
noncomputable def Zy (r:Row) (ch:Ak):Option Int:=ch.2.1.bind λ j=>r.outs[j]?
noncomputable def movedF (r:Row) (st:PSt) (k:Nat) (ch:Ak):PSt:=vJ (z7 st k (qF r ch)).2 (z7 st k (qF r ch)).1 (Zy r ch)
noncomputable def vT (r:Row) (st:PSt) (k:Nat) (ch:Ak):PSt × Move :=
 ({ movedF r st k ch with sides:=(movedF r st k ch).sides.set k ch.2.2,gone:=(movedF r st k ch).gone.set k (ZV ((movedF r st k ch).gone.getD k []) (jR r ch)) },⟨k,(z7 st k (qF r ch)).1,qF r ch,Zy r ch⟩)
noncomputable def qH (rs:At) (st:PSt) (k:Nat):PSt × Option Move:=match rs[k]? with
 | none=>(st,none)
 | some r=>match qh r (qq rs st.cells r) (qX st.cells r) st.turn (st.sides.getD k 0).toNat with
  | none=>(st,none)
  | some ch=>((vT r st k ch).1,some (vT r st k ch).2)
def QV {rs:At} {cs:Au} (h:xv bs rs cs) {c c':Av} (e:cs[i]?=some c) (l:c'.length=c.length) (k:∀ x∈c',vB rs x):xv bs rs (cs.set i c'):=by
 refine ⟨by rw [bN];exact h.1,λ j b d h1 h2=>?_⟩;by_cases hj:j=i
 ·subst hj;rw [aY (aa.mp e).1] at h2;cases h2;exact ⟨by rw [l];exact (h.2 j b c h1 e).1,k⟩
 ·rw [bH (aW hj)] at h2;exact h.2 j b d h1 h2
def Qt {rs:At}:vB rs none:=λ _ _ z=>nomatch z
def vO {α:Type} {xs:List α} {x y:α} (h:y∈xs.set i x):y∈xs\/y=x:=List.mem_or_eq_of_mem_set h
theorem wD {r:Row} {hs:List A9} {bs:Ai} {t:Int} {side:Nat} {ch:Ak} (ok:r.ok) (hl:hs.length=r.ins.length) (bl:bs.length=r.outs.length) (sd:wI r side) (h:qh r hs bs t side=some ch) :
  (∀ j,ch.1=some j->j < r.ins.length)/\(∀ j,ch.2.1=some j->j < r.outs.length)/\(r.wd=.joiner->∃ j,ch.1=some j)/\(ch.1=none->r.wd=.source)/\wI r ch.2.2/\jR r ch < (qv r).length:=by
 obtain ⟨wd,ins,outs,pace,kinds⟩:=r;have cp:=wC ok;unfold qh at h;cases wd with
 | source =>
  simp only at h;obtain ⟨h1,⟨o,h2⟩,_⟩:=ok;simp only at h1 h2;subst h1 h2
  split at h
  ·cases h;exact ⟨(λ j z=>nomatch z),λ j z=>by cases z;simp,(λ z=>nomatch z),λ _=>rfl,sd,by simp [jR];omega⟩
  ·cases h
 | drain =>
  simp only at h;obtain ⟨⟨o,h1⟩,h2,_⟩:=ok;simp only at h1 h2;subst h1 h2
  split at h
  ·cases h
  ·cases h;exact ⟨λ j z=>by cases z;simp,(λ j z=>nomatch z),(λ z=>nomatch z),(λ z=>nomatch z),sd,by simp [jR];omega⟩
 | parter =>
  simp only at h;obtain ⟨⟨o,h1⟩,h2,h3⟩:=ok;simp only at h1 h2 h3 bl;subst h1
  split at h
  ·cases h
  ·rw [au] at h;obtain ⟨q,hq,rfl⟩:=h;have hlt:=wB hq;refine ⟨λ j z=>by cases z;simp,λ j z=>by cases z;show q < outs.length;omega,(λ z=>nomatch z),(λ z=>nomatch z),⟨bI _,λ _=>?_,(λ z=>nomatch z),λ z=>absurd rfl z⟩,?_⟩
   ·have:=cW (q + 1) (show 0 < bs.length by omega);show (((q + 1) % bs.length:Nat):Int) < outs.length
    omega
   ·simp only [jR,aS];rw [am (by decide)];show q < (List.replicate (max 1 outs.length) 0).length
    rw [a8];omega
 | first =>
  simp only at h;obtain ⟨⟨o,h1⟩,h2,h3⟩:=ok;simp only at h1 h2 h3 bl;subst h1
  split at h
  ·cases h
  ·rw [au] at h;obtain ⟨q,hq,rfl⟩:=h;have hlt:=wB hq;refine ⟨λ j z=>by cases z;simp,λ j z=>by cases z;show q < outs.length;omega,(λ z=>nomatch z),(λ z=>nomatch z),sd,?_⟩;simp only [jR,aS];rw [am (by decide)];show q < (List.replicate (max 1 outs.length) 0).length
   rw [a8];omega
 | sieve =>
  simp only at h;obtain ⟨⟨o,h1⟩,h2,_⟩:=ok;simp only at h1 h2 bl;subst h1
  split at h
  ·cases h
  ·generalize (if hs.getD 0 none=some (kinds.headD 0) then 0 else 1)=q at h;have q2:q=q:=rfl
   split at h
   ·rename_i hb;cases h;have hlt:q < outs.length:=by
     rcases Nat.lt_or_ge q bs.length with z|z
     ·omega
     ·rw [ae,bt z] at hb;cases hb
    refine ⟨λ j z=>by cases z;simp,λ j z=>by cases z;exact hlt,(λ z=>nomatch z),(λ z=>nomatch z),sd,?_⟩;simp only [jR,aS];rw [am (by decide)];show q < (List.replicate (max 1 outs.length) 0).length
    rw [a8];omega
   ·cases h
 | joiner =>
  simp only at h;obtain ⟨⟨o,h1⟩,h2,h3⟩:=ok;simp only at h1 h2 h3 hl;subst h1
  split at h
  ·rw [au] at h;obtain ⟨q,hq,rfl⟩:=h;have hlt:=wB hq;rw [af] at hlt;refine ⟨λ j z=>by cases z;show q < ins.length;omega,λ j z=>by cases z;simp,λ _=>⟨q,rfl⟩,(λ z=>nomatch z),⟨bI _,(λ z=>nomatch z),λ _=>?_,λ _ z=>absurd rfl z⟩,?_⟩
   ·have:=cW (q + 1) (show 0 < hs.length by omega);show (((q + 1) % hs.length:Nat):Int) < ins.length
    omega
   ·simp only [jR,aS];rw [ap trivial];show q < (List.replicate (max ins.length 1) 0).length
    rw [a8];omega
  ·cases h
theorem V6 {rs:At} {st:PSt} {r:Row} {fb:A9} (wf:stWf bs rs st) (mZ:zS bs rs) (bo:∀ b∈bs,zC b.1 b.2) (ro:∀ r∈rs,r.ok) (hr:rs[k]?=some r) (hf:∀ b,fb=some b->b∈rgI bs.length) (hn:fb=none->r.wd=.source) :
  stWf bs rs (z7 st k fb).2/\vB rs (z7 st k fb).1:=by
 cases fb with
 | none =>
  refine ⟨wf,λ s n z=>?_⟩;have z:((k:Int),(st.gone.getD k []).headD 0)=(s,n):=aN z;cases z;refine iE2 k r (iA4 rfl hr (hn rfl) ?_);have hk:=(aa.mp hr).1;have hg:st.gone[k]?=some (st.gone.getD k []):=by
   rw [ae,ac (by rw [wf.go.1];exact hk)]
   rfl
  obtain ⟨q1,q2⟩:=wf.go.2 k r _ hr hg;have cp:=wC (ro r (ah hr));cases e:st.gone.getD k [] with
  | nil=>rw [e] at q1;simp at q1;omega
  | cons x xs=>exact q2 x (by rw [e];simp)
 | some b =>
  refine oE1 (vd wf.co bo (hf b rfl)) λ i m7=>oA5 m7 λ m8 hi ei ne wk=>?_;clear m7;subst m8;refine ⟨⟨?_,wf.so,wf.go⟩,wk _ (zcU ne)⟩;show xv bs rs (st.cells.set _ _)
  rw [aE];refine QV wf.co ei (by simp [xA]) λ x hx=>?_;rcases vO hx with h|h
  ·exact wk x h
  ·rw [h];exact Qt
def zaD {rs:At} {st:PSt} {x:zE} {tb:A9} (wf:stWf bs rs st) (bo:∀ b∈bs,zC b.1 b.2) (hf:∀ b,tb=some b->b∈rgI bs.length) (hx:vB rs x):stWf bs rs (vJ st x tb):=by
 cases tb with
 | none=>exact wf
 | some b =>
  refine oE1 (vd wf.co bo (hf b rfl)) λ i m7=>oA5 m7 λ m8 hi ei ne wk=>?_;clear m7;subst m8;refine ⟨?_,wf.so,wf.go⟩;show xv bs rs (st.cells.set _ _)
  rw [aE];refine QV wf.co ei (by simp) λ z hz=>?_;rcases vO hz with h|h
  ·exact wk z h
  ·rw [h];exact hx
def zez {rs:At} {sds:A6} {r:Row} {s:Int} (h:Vg rs sds) (hr:rs[k]?=some r) (hs:wI r s):Vg rs (sds.set k s):=by
 refine ⟨by rw [bN];exact h.1,λ j r2 s2 h1 h2=>?_⟩;by_cases hj:j=k
 ·subst hj;rw [aY (by rw [h.1];exact (aa.mp h1).1)] at h2;cases h2;rw [hr] at h1;cases h1;exact hs
 ·rw [bH (aW hj)] at h2;exact h.2 j r2 s2 h1 h2
def qr {α:Type} {xs:List α} {d:α} (h:k < xs.length):xs[k]?=some (xs.getD k d):=by
 rw [ae,ac h];rfl
def zc6 {g:A6} (h:∀ x∈g,0<=x):(ZV g j).length=g.length/\∀ x∈ZV g j,0<=x:=by
 refine ⟨by simp [ZV],λ x hx=>?_⟩;rcases vO hx with z|z
 ·exact h x z
 ·rw [z];have:0<=g.getD j 0:=by
   rw [ae];cases e:g[j]? with
   | none=>simp
   | some v=>exact h v (ah e)
  omega
def zgH {rs:At} {st:PSt} (wf:stWf bs rs st) (mZ:zS bs rs) (bo:∀ b∈bs,zC b.1 b.2) (ro:∀ r∈rs,r.ok):stWf bs rs (qH rs st k).1:=by
 unfold qH;cases hr:rs[k]? with
 | none=>exact wf
 | some r =>
  simp only;have hk:=(aa.mp hr).1;have ok:=ro r (ah hr);have hsd:=wf.so.2 k r _ hr (qr (d:=0) (by rw [wf.so.1];exact hk));have hsd':wI r ((st.sides.getD k 0).toNat:Int):=by rw [cf hsd.1];exact hsd
  cases hc:qh r (qq rs st.cells r) (qX st.cells r) st.turn (st.sides.getD k 0).toNat with
  | none=>exact wf
  | some ch =>
   refine oA6 (wD ok (by simp [qq]) (by simp [qX]) hsd' hc) λ c1 c2 c3 c4 c5 c6=>?_;have hfb:∀ b,qF r ch=some b->b∈rgI bs.length:=λ b hb=>by
    unfold qF at hb;obtain ⟨j,hj1,hj2⟩:=bS.mp hb;exact JB mZ hr (ah hj2)
   have htb:∀ b,Zy r ch=some b->b∈rgI bs.length:=λ b hb=>by
    unfold Zy at hb;obtain ⟨j,hj1,hj2⟩:=bS.mp hb;exact Xd mZ hr (ah hj2)
   have hfn:qF r ch=none->r.wd=.source:=λ hb=>by
    cases e:ch.1 with
    | none=>exact c4 e
    | some j =>
     unfold qF at hb;rw [e] at hb;simp at hb;have:=c1 j e;omega
   obtain ⟨w1,w2⟩:=V6 wf mZ bo ro hr hfb hfn;have w3:=zaD w1 bo htb w2;refine ⟨w3.co,zez w3.so hr c5,?_⟩;have hg:=qr (xs:=(movedF r st k ch).gone) (k:=k) (d:=[]) (by rw [show (movedF r st k ch).gone.length=rs.length from w3.go.1];exact hk);obtain ⟨q1,q2⟩:=w3.go.2 k r _ hr hg;exact zfg w3.go hg (zc6 q2).1 (zc6 q2).2
def KnP.no {y C dx:Addr} {r:Row} {f:Str} (h:KnP a H p (.ref y) r) (hy:H y=some (.ins C dx fs)) (h1:f≠"ins") (h2:f≠"outs") (h3:f≠"pace") (h4:f≠"kinds") (h5:f≠"kind"):fs.lookup f=none:=by
 refine oE3 (Rep.ob' h) λ y' dx' fs' m7=>oA5 m7 λ e _ hy' _ g=>?_;clear m7;cases e;rw [hy] at hy';cases hy';exact g f (ze7 h1 h2 h3 h4 h5)
def StO.offT {y:Addr} {n:SN} {st:PSt} (h:StO a H y n st) (t:zU H b):b ∉ y :: n.all:=by
 obtain ⟨xs,hx⟩:=t;intro hb;have no:∀ us,H b≠some (.lst us):=λ us e=>by rw [hx] at e;cases e
 unfold SN.all at hb;rcases aw.mp hb with rfl|hb
 ·rw [h.hy] at hx;cases hx
 rcases aw.mp hb with rfl|hb
 ·exact no _ h.hs
 rcases aw.mp hb with rfl|hb
 ·exact no _ h.hc.out
 rcases aw.mp hb with rfl|hb
 ·exact no _ h.hg.out
 rcases aF.mp hb with hb|hb
 ·obtain ⟨us,e⟩:=h.hc.isl (aB _ hb);exact no _ e
 ·obtain ⟨us,e⟩:=h.hg.isl (aB _ hb);exact no _ e
def StO.repT {H H':Hp} {y:Addr} {n:SN} {st:PSt} (h:StO a H y n st) (s:Fr (y :: n.all) H H') {d:D} (r:Rep H (zU H) v d):Rep H' (zU H') v d :=
 Rep.keep (λ b o hp hb=>⟨by obtain ⟨xs,hx⟩:=hp;exact ⟨xs,s _ _ (h.offT ⟨xs,hx⟩) hx⟩,s _ _ (h.offT hp) hb⟩) r
def zfa (ns:A6) (k:Nat) (x:Int):(iv ns).set k (.int x)=iv (ns.set k x):=by simp [iv]
def zdw {H H':Hp} {d:D} (r:Rep H (zU H) v d) (s:Same H H'):Rep H' (zU H') v d:=Rep.keep (λ b o ⟨xs,hx⟩ hb=>⟨⟨xs,s _ _ hx⟩,s _ _ hb⟩) r
inductive spAct (a:Ad) (vs:Ap) (H:Hp) (Q:VK) (E:XK):Prop
 | i (vw:V) (y:Addr) (n:SN) (st:PSt) (k:Nat) (bs:A1) (rs:At):vs=[vw,.ref y,.int k]->Rep H (Off (y :: n.all)) vw (qE a bs rs)->StO a H y n st->stWf bs rs st->zS bs rs->(∀ b∈bs,zC b.1 b.2)->(∀ r∈rs,r.ok)->k < rs.length->(∀ v H',Fr (y :: n.all) H H'->StO a H' y n (qH rs st k).1->Rep H' (zU H') v (zhS (qH rs st k).2)->Q v H')->spAct a vs H Q E
def zht (T:Txt K mg a) (F:Fun K "act" "act" zau f fd):FnOk P w K mg base (CXr P w) 4 f fd ["work","state","number"] (spAct a):=by
 refine F.okx zhd ?_ ?_
 ·walk_at "i"
 walk_at "j";rcases h with ⟨vw,y,n,st,kn,bs,rs,rfl,hw,so,wf,mZ,bo,ro,hk,k⟩;refine oE7 (qY hw) λ yw dw fw l1 l2 bvs mW m7=>oA9 m7 λ m8 hyw ew1 ew2 hl1 hl2 hB hK no=>?_;clear m7;subst m8;obtain ⟨r,hr'⟩:∃ r,rs[kn]?=some r:=⟨rs[kn],ac hk⟩;have ok:=ro r (ah hr');have rl:=xJ ok;obtain ⟨kv,hkv,hKn⟩:=VE hK hr';refine oE6 hKn.inv λ y1 dx1 m1 m2 m3 fs1 m7=>oA9 m7 λ m8 _ _ _ _ g0 f1 f2 n6=>oA5 n6 λ _ g1 g2 _ _=>?_;clear m7 n6;subst m8;have fno:=hKn.no (f:="choice") g0 (by decide +kernel) (by decide +kernel) (by decide +kernel) (by decide +kernel) (by decide +kernel);have hsd:=wf.so.2 kn r _ hr' (qr (d:=0) (by rw [wf.so.1];exact hk));obtain ⟨side,esd⟩:∃ sd:Nat,st.sides.getD kn 0=sd:=⟨(st.sides.getD kn 0).toNat,(cf hsd.1).symm⟩;have hside:st.sides[kn]?=some (side:Int):=by rw [<- esd];exact qr (by rw [wf.so.1];exact hk)
 have hsd':wI r (side:Int):=by rw [<- esd];exact hsd
 have esd':(st.sides.getD kn 0).toNat=side:=by rw [esd];rfl
 refine oA4 (sff_l (t:=st.turn) (lc:=n.lc) (ls:=n.ls) (lg:=n.lg)) λ lk1 lk2 lk3 lk4=>?_;have hAct:∀ x,qh r (qq rs st.cells r) (qX st.cells r) st.turn side=x->qH rs st kn=match x with|none=>(st,none)|some ch=>((vT r st kn ch).1,some (vT r st kn ch).2):=λ x e=>by
  unfold qH;rw [hr'];simp only;rw [esd',e]
  all_goals (cases x <;> rfl)
 walk_at "T";refine ⟨_,(zh (zo 3 zhd.nd (zn (zj (pq 0) rfl) (pq 2)))  (zh (Wq (i:=4) zhd.nd rfl (Or.inl rfl) (vars:=["belt"]) (caps:=[1]) (N:=["belt","state"]) (ON:=["work","state","number","knot","free","chosen","from_belt","to_belt","ware"]) (osc:=ze zau) rfl rfl (by first|decide +kernel|kernel_rfl) rfl rfl (qp (zj (pq 3) rfl)) (λ s H fp m5=>(qj 0 (show (["belt","state"]:A8).Nodup from by decide +kernel))) (λ s H fp m5=>qk) (λ s H fp m5=>(zcB op_isN (zn (zn (zj (pq 1) rfl) (pq 0)) zd) zG (zt _))))  (zh (zo 5 zhd.nd (QK ⟨rfl,rfl,rfl⟩ hr (pq 3) (za (zx ⟨rfl,rfl,rfl⟩ hr (za (pq 0) (za (pq 1) (za (pq 3) zb)))) (za (pq 4) (za (zj (pq 1) rfl) (za (zn (zj (pq 1) rfl) (pq 2)) zb))))))  (zh (zD (zm jo (pq 5) zG (zt _))  (zc (zl zG))  zp)  (zh (zo 6 zhd.nd (zx ⟨rfl,rfl,rfl⟩ hr (za (zj (pq 3) rfl) (za (zn (pq 5) zd) zb))))  (zh (zo 7 zhd.nd (zx ⟨rfl,rfl,rfl⟩ hr (za (zj (pq 3) rfl) (za (zn (pq 5) zd) zb))))  (zh (zo 8 zhd.nd (zx ⟨rfl,rfl,rfl⟩ hr (za (pq 1) (za (pq 2) (za (pq 6) zb)))))  (qg (zD (zm Vw (pq 7) zG (zt _))  (zc (J9 (pq 8) (Xc (zn (zj (pq 1) rfl) (pq 7)) zd wp)))  zp)  (zh (J9 (zn (pq 5) zd) (Xc (zj (pq 1) rfl) (pq 2) wp))  (zh (zf9 (zn (zj (pq 1) rfl) (pq 2)) (zx ⟨rfl,rfl,rfl⟩ hr (za (pq 3) (za (pq 5) zb))) zfi zd zhK wp)  (zc (zl (qL (za (pq 2) (za (pq 8) (za (pq 6) (za (pq 7) zb))))))))))))))))),?_⟩;walk_at "a";refine ra hyw T.gz T.gy ew2 (zq (SqL.of hl2) (zz hkv) ?_);walk_at "a";walk_at "e";walk_at "a";refine ra g0 (CT T _) (NO T _) f2 ⟨m2,rfl,.inl ⟨⟨_,SqL.of g2⟩,λ _ _ _ _ mY hacc=>?_⟩⟩;refine qS (K:=K) (a:=m2) (xs:=iv r.outs) (λ i σ H'=>∃ (v0:Aq),σ=[v0,some (.ref y)]/\Same H H'/\H' mY=some (.lst (((qX st.cells r).take i).map V.bl))) ⟨_,iA3 rfl (zf hacc) (by rw [bX];exact nk)⟩ (λ i σ H' _ h=>by obtain ⟨_,_,s,_⟩:=h;exact SqL.of (s _ _ g2)) ?_ ?_
 ·intro i x σ H2 hi m9;refine oE1 m9 λ v0 m7=>oA3 m7 λ m8 s2 ha=>?_;clear m7 m9;subst m8;obtain ⟨b,hb,rfl⟩:=Qj hi;have hil:=(aa.mp hb).1;refine oE1 (vd wf.co bo (Xd mZ hr' (ah hb))) λ j m7=>oA5 m7 λ m8 hj ej nej _=>?_;clear m7;subst m8;refine oE2 (so.cell ej) λ bC vs m7=>oA3 m7 λ hbC hvC rvC=>?_;clear m7;obtain ⟨c0,cs,ec⟩:∃ c0 cs,zO st.cells j=c0 :: cs:=cO nej;have hfr:(qX st.cells r)[i]?=some (decide (c0=none)):=by rw [qX,aj,hb];simp [ec,zgA]
  rw [ec] at rvC;obtain ⟨v1,hv1,rv1⟩:=rvC.of (i:=0) (d:=qf c0) rfl;walk_at "a";refine ra (s2 _ _ so.hy) T.gq T.gw lk1 (zq (SqL.of (s2 _ _ so.hc.out)) (zz (Qs hbC)) (zq (SqL.of (s2 _ _ hvC)) (zz (j:=0) hv1) ?_));walk_at "a";have ev:decide (v1=V.non)=decide (c0=none):=by
   cases c0 with
   | none=>cases rv1;rfl
   | some x=>obtain ⟨t,us,rfl,_⟩:=Rep.tup' rv1;rfl
  rw [ev];refine ⟨_,iA3 ha (zk (by rw [af,aR];omega)) ⟨_,iA3 rfl (λ b o hb=>by rw [nz (nA hb hacc)];exact s2 b o hb) ?_⟩⟩;rw [nk,aO,hfr,bd]
  rfl
 intro σ H2 m9;refine oE1 m9 λ v0 m7=>oA3 m7 λ m8 s2 ha=>?_;clear m7 m9;subst m8;rw [zy,cG (by simp [qX])] at ha;walk_at "a";refine iE7 y1 (vb a r.wd) dx1 fs1 _ _ _ (iA5 rfl (s2 _ _ g0) fno ((ze0 T r.wd).mono) ?_);refine uc (zcp T).mono (spHeads.i _ _ _ bs rs st kn r _ _ rfl (jq hw s2) ((so.same s2).rep) (jq hKn s2) hr' mZ bo ro wf.co (λ hl H3 s3 nhl hhl=>?_));have s23:=s2.trans s3;refine ra (s23 _ _ so.hy) T.gq T.gu lk4 ?_;refine ra (s23 _ _ so.hy) T.gq T.gF lk2 (zq (SqL.of (s23 _ _ so.hs)) (zz (jf hside)) ?_);refine iE5 y1 hl mY r _ (iE4 (qq rs st.cells r) (qX st.cells r) st.turn side (iA9 rfl (jq hKn s23) rfl ok hhl (s3 _ _ ha) (by simp [qq]) (by simp [qX]) (λ vc H4 s4 tc=>?_)));have s24:=s23.trans s4;have so4:=so.same s24;have hKn4:=jq hKn s24;walk_at "a";cases hc:qh r (qq rs st.cells r) (qX st.cells r) st.turn side with
 | none =>
  rw [hc] at tc;have tc:vc=.non:=tc;subst tc;have e:=hAct _ hc;refine zJ (λ _=>?_) (λ b=>absurd rfl b);walk_at "a";refine k _ _ s24.fr ?_ ?_
  ·rw [e];exact so4
  ·rw [e];exact .non
 | some ch =>
  rw [hc] at tc;obtain ⟨ct,rfl,hct⟩:=tc;have e:=hAct _ hc;refine oA6 (wD ok (by simp [qq]) (by simp [qX]) hsd' hc) λ c1 c2 c3 c4 c5 c6=>?_;have hfb:∀ b,qF r ch=some b->b∈rgI bs.length:=λ b hb=>by
   unfold qF at hb;obtain ⟨j,hj1,hj2⟩:=bS.mp hb;exact JB mZ hr' (ah hj2)
  have htb:∀ b,Zy r ch=some b->b∈rgI bs.length:=λ b hb=>by
   unfold Zy at hb;obtain ⟨j,hj1,hj2⟩:=bS.mp hb;exact Xd mZ hr' (ah hj2)
  have hfn:qF r ch=none->r.wd=.source:=λ hb=>by
   cases e:ch.1 with
   | none=>exact c4 e
   | some j =>
    unfold qF at hb;rw [e] at hb;simp at hb;have:=c1 j e;omega
  obtain ⟨w1,w2⟩:=V6 wf mZ bo ro hr' hfb hfn;have w3:=zaD w1 bo htb w2;have hg0:=qr (xs:=st.gone) (k:=kn) (d:=[]) (by rw [wf.go.1];exact hk);obtain ⟨q1,q2⟩:=wf.go.2 kn r _ hr' hg0;have cp:=wC ok;obtain ⟨g0',gs,eg⟩:∃ g0 gs,st.gone.getD kn []=g0 :: gs:=cO λ z=>by rw [z] at q1;simp at q1;omega
  rw [eg] at hg0;refine zJ (λ b=>by cases b) (λ _=>?_);walk_at "a";refine uc (WP T).mono (ra (s24 _ _ g0) (CT T _) (NI T _) f1 (nC hct at0 ?_));refine iE3 m1 r.ins ch.1 (iA4 rfl (s24 _ _ g1) c1 ?_);walk_at "a";refine uc (WP T).mono (ra (s24 _ _ g0) (CT T _) (NO T _) f2 (nC hct (show atI (chV ch) 1=some (Zo ch.2.1) from rfl) ?_));refine iE3 m2 r.outs ch.2.1 (iA4 rfl (s24 _ _ g2) c2 ?_);walk_at "a";refine uc (VS T).mono (spTaken.i y n st kn (qF r ch) g0' gs rfl so4 hg0 (λ b hb=>?_) (λ v5 H5 f5 so5 rv5=>?_))
  ·refine oE1 (vd wf.co bo (hfb b hb)) λ i m7=>oA5 m7 λ e1 _ e2 e3 _=>?_;clear m7;exact ⟨i,iA3 e1 e2 e3⟩
  have hct5:=f5 _ _ (so4.offT ⟨_,hct⟩) hct;have hKn5:=hKn4.fr f5;have fr5:=(s24.fr (ms:=y :: n.all)).trans f5;rw [show (ch.1.bind λ j=>r.ins[j]?)=qF r ch from rfl,show (ch.2.1.bind λ j=>r.outs[j]?)=Zy r ch from rfl];walk_at "a";refine cut (λ σ' H'=>σ'=[some (.ref yw),some (.ref y),some (.int kn),some (.ref y1),some (.ref mY),some (.ref ct),some (hdV (qF r ch)),some (hdV (Zy r ch)),some v5]/\Fr (y :: n.all) H5 H'/\StO a H' y n (movedF r st kn ch)) ?_ ?_
  ·have w4:=λ b (hb:Zy r ch=some b)=>vd w1.co bo (htb b hb);unfold movedF;generalize Zy r ch=tb at w4 ⊢;walk_at "a";cases tb with
   | none =>
    refine zJ (λ b=>absurd rfl b) (λ _=>?_);walk_at "a";exact ⟨.refl,so5⟩
   | some b =>
    refine oE1 (w4 b rfl) λ i m7=>oA5 m7 λ m8 _ e2 e3 _=>?_;clear m7;subst m8;refine oE2 (so5.cell e2) λ bC vs m7=>oA3 m7 λ hbC hvC rvC=>?_;clear m7;have lv:vs.length=(zO (z7 st kn (qF r ch)).2.cells i).length:=by rw [rvC.len,af]
    have lp:0 < vs.length:=by rw [lv];exact dP.mpr e3
    refine zJ (λ _=>?_) (λ b=>absurd (λ z=>by cases z) b);walk_at "a";refine ra so5.hy T.gq T.gw sff_l.1 (zq (SqL.of so5.hc.out) (zz (Qs hbC)) ?_);walk_at "a";refine Zc (j:=0) hvC (Xw (by decide) (by simpa using lp)) ?_;refine ⟨qz (VZ hbC),?_⟩;have:=so5.putC hbC (c':=(zO (z7 st kn (qF r ch)).2.cells i).set 0 (z7 st kn (qF r ch)).1) (by rw [dN];exact Reps.set rvC 0 rv5);simpa [vJ] using this
  rintro σ H6 ⟨rfl,f6,so6⟩;have hct6:=f6 _ _ (so5.offT ⟨_,hct5⟩) hct5;have hKn6:=hKn5.fr f6;have rv6:=so5.repT f6 rv5;have fr6:=fr5.trans f6;walk_at "a";refine nC hct6 (show atI (chV ch) 2=some (.int ch.2.2) from rfl) ?_;walk_at "a";refine ra so6.hy T.gq T.gF sff_l.2.1 (Zc so6.hs (Xw (bI _) (by rw [zy,show (movedF r st kn ch).sides.length=rs.length from w3.so.1];exact Int.ofNat_lt.mpr hk)) ?_);rw [aE,zfa];have so7:=so6.putS (s':=(movedF r st kn ch).sides.set kn ch.2.2);have f7:Fr (y :: n.all) H6 (upd H6 n.ls (.lst (iv ((movedF r st kn ch).sides.set kn ch.2.2)))):=qz (by simp [SN.all]);have hct7:=f7 _ _ (so6.offT ⟨_,hct6⟩) hct6;have hKn7:=hKn6.fr f7;have rv7:=so6.repT f7 rv6;have fr7:=fr6.trans f7;generalize upd H6 n.ls (.lst (iv ((movedF r st kn ch).sides.set kn ch.2.2)))=H7 at so7 hct7 hKn7 rv7 fr7 ⊢;have hg7:=qr (xs:=(movedF r st kn ch).gone) (k:=kn) (d:=[]) (by rw [show (movedF r st kn ch).gone.length=rs.length from w3.go.1];exact hk);obtain ⟨p1,p2⟩:=w3.go.2 kn r _ hr' hg7;obtain ⟨bG,hbG,hgG⟩:=so7.goneL hg7;have e0:vT r st kn ch=({ movedF r st kn ch with sides:=(movedF r st kn ch).sides.set kn ch.2.2,gone:=(movedF r st kn ch).gone.set kn (ZV ((movedF r st kn ch).gone.getD kn []) (jR r ch)) },⟨kn,(z7 st kn (qF r ch)).1,qF r ch,Zy r ch⟩):=rfl;have so8:=so7.putG (g':=ZV ((movedF r st kn ch).gone.getD kn []) (jR r ch)) hbG;generalize (movedF r st kn ch).gone.getD kn []=g at *;have hcp:jR r ch < g.length:=by rw [p1];exact c6
  walk_at "a";unfold zgO;walk_at "a";refine ra so7.hy T.gq T.gx sff_l.2.2.1 (zq (SqL.of so7.hg.out) (zz (Zl hbG)) ?_);walk_at "a";refine uc (Jp T).mono (spCounted.i _ ct r ch _ rfl hKn7 hct7 c3 ?_);refine iE4 bG _ (jR r ch) _ (iA6 rfl rfl (SqL.of hgG) (bI _) (zz (jf (qr (d:=0) hcp))) ?_);walk_at "a";refine Zc hgG (Xw (bI _) (by rw [zy];exact Int.ofNat_lt.mpr hcp)) ?_;rw [aE,zfa];have f8:Fr (y :: n.all) H7 (upd H7 bG (.lst (iv (g.set (jR r ch) (g.getD (jR r ch) 0 + 1))))):=qz (zgF hbG);have rv8:=so7.repT f8 rv7;change StO a (upd H7 bG (.lst (iv (g.set (jR r ch) (g.getD (jR r ch) 0 + 1))))) y n _ at so8;have fr8:=fr7.trans f8;generalize e8:upd H7 bG (.lst (iv (g.set (jR r ch) (g.getD (jR r ch) 0 + 1))))=H8 at so8 f8 rv8 fr8 ⊢;walk_at "a";intro t ht;refine k _ _ (fr8.trans (zcd ht)) ?_ ?_
  ·rw [e];simp only;rw [e0];exact so8.same (zf ht)
  ·rw [e];simp only;rw [e0];exact Reps.mkT (vs:=[.int kn,v5,hdV (qF r ch),hdV (Zy r ch)]) (.cons .int (.cons (zdw rv8 (zf ht)) (.cons (zcx _) (.cons (zcx _) .nil)))) ⟨_,nk⟩ nk
def ziJ (T:Txt K mg a):Cal P w K mg base "act" 4 ["work","state","number"] [] (spAct a):=T.mU.cal (zht T)
noncomputable def zF (rs:At) (st:PSt):Nat->PSt × List Move
 | 0=>(st,[])
 | i + 1=>((qH rs (zF rs st i).1 i).1,(zF rs st i).2 ++ (qH rs (zF rs st i).1 i).2.toList)
theorem jn {bs:A1} {rs:At} {st:PSt} (wf:stWf bs rs st) (mZ:zS bs rs) (bo:∀ b∈bs,zC b.1 b.2) (ro:∀ r∈rs,r.ok):∀ i,stWf bs rs (zF rs st i).1
 | 0=>wf
 | i + 1=>zgH (jn wf mZ bo ro i) mZ bo ro
theorem XO (rs:At) (st:PSt):∀ i,(zF rs st i).2.length<=i
 | 0=>aq _
 | i + 1=>by
  have:=XO rs st i;show ((zF rs st i).2 ++ (qH rs (zF rs st i).1 i).2.toList).length<=i + 1
  rw [aM];cases (qH rs (zF rs st i).1 i).2 with
  | none=>exact Nat.le_succ_of_le this
  | some _=>exact Nat.succ_le_succ this
section
variable {H H':Hp} {y:Addr} {n:SN} {st:PSt}
def StO.offN (h:StO a H y n st) (e:H b=none):b ∉ y :: n.all:=by
 have no:∀ o,H b≠some o:=λ o z=>by rw [e] at z;cases z
 intro hb;unfold SN.all at hb;rcases aw.mp hb with rfl|hb
 ·exact no _ h.hy
 rcases aw.mp hb with rfl|hb
 ·exact no _ h.hs
 rcases aw.mp hb with rfl|hb
 ·exact no _ h.hc.out
 rcases aw.mp hb with rfl|hb
 ·exact no _ h.hg.out
 rcases aF.mp hb with hb|hb
 ·obtain ⟨us,z⟩:=h.hc.isl (aB _ hb);exact no _ z
 ·obtain ⟨us,z⟩:=h.hg.isl (aB _ hb);exact no _ z
def StO.out {M:Addr} {us vs:Ap} (h:StO a H y n st) (e:H M=some (.lst us)) (nM:M ∉ y :: n.all):StO a (upd H M (.lst vs)) y n st:=by
 have k:∀ c o,c≠M->H c=some o->upd H M (.lst vs) c=some o:=λ c o nc hc=>by rw [nz nc];exact hc
 have kt:∀ c,zU H c->c≠M:=λ c ⟨xs,hx⟩ z=>by rw [z,e] at hx;cases hx
 refine ⟨k _ _ (λ z=>nM (by rw [<- z];simp)) h.hy,h.hc.tup λ c o hz hc=>k c o (λ z=>?_) hc,k _ _ (λ z=>nM (by rw [<- z];simp [SN.all])) h.hs,h.hg.tup λ c o hz hc=>k c o (λ z=>?_) hc,h.nd⟩
 ·rcases hz with rfl|hz|hz
  ·exact nM (by rw [<- z];simp [SN.all])
  ·exact nM (by rw [<- z];simp [SN.all,hz])
  ·exact kt c hz z
 ·rcases hz with rfl|hz|hz
  ·exact nM (by rw [<- z];simp [SN.all])
  ·exact nM (by rw [<- z];simp [SN.all,hz])
  ·exact kt c hz z
def StO.repsT (h:StO a H y n st) (s:Fr (y :: n.all) H H') {ds:List D} (r:Reps H (zU H) vs ds):Reps H' (zU H') vs ds :=
 ⟨r.len,λ i v d h1 h2=>h.repT s (r.g i v d h1 h2)⟩
def zay {M:Addr} {us vs:Ap} (e:H M=some (.lst us)) {d:D} (r:Rep H (zU H) v d):Rep (upd H M (.lst vs)) (zU (upd H M (.lst vs))) v d :=
 Rep.keep (λ b o hp hb=>⟨Jr e hp,by obtain ⟨xs,hx⟩:=hp;rw [nz (λ z=>by rw [z,e] at hx;cases hx)];exact hb⟩) r
def zdv {M:Addr} {us vs:Ap} (e:H M=some (.lst us)) {ws:Ap} {ds:List D} (r:Reps H (zU H) ws ds):Reps (upd H M (.lst vs)) (zU (upd H M (.lst vs))) ws ds :=
 ⟨r.len,λ i v d h1 h2=>zay e (r.g i v d h1 h2)⟩
end
inductive spActAll (a:Ad) (vs:Ap) (H:Hp) (Q:VK) (E:XK):Prop
 | i (vw:V) (y:Addr) (n:SN) (st:PSt) (bs:A1) (rs:At):vs=[vw,.ref y]->Rep H (Off (y :: n.all)) vw (qE a bs rs)->StO a H y n st->stWf bs rs st->zS bs rs->(∀ b∈bs,zC b.1 b.2)->(∀ r∈rs,r.ok)->(∀ l us H',Fr (y :: n.all) H H'->StO a H' y n (zF rs st rs.length).1->H l=none->l ∉ y :: n.all->H' l=some (.lst us)->Reps H' (zU H') us ((zF rs st rs.length).2.map WL)->Q (.ref l) H')->spActAll a vs H Q E
theorem zd4 (T:Txt K mg a):Cal P w K mg base "act_all" 5 ["work","state"] [] (spActAll a):=T.l8.cal λ F=>by
 refine F.okx zbE ?_ ?_
 ·walk_at "i"
 walk_at "j";rcases h with ⟨vw,y,n,st,bs,rs,rfl,hw,so,wf,mZ,bo,ro,k⟩;refine oE7 (qY hw) λ yw dw fw l1 l2 bvs mW m7=>oA9 m7 λ m8 hyw ew1 ew2 hl1 hl2 hB hK no=>?_;clear m7;subst m8;have lk:mW.length=rs.length:=hK.len;have r24:=mZ.1.2.2;walk_at "T";refine ⟨_,(zg (zo 2 zbE.nd (zI zb))  (qg (qo qC rfl (jP (za (z6 zY zX (za (zj (pq 0) rfl) zb)) zb)) (qj 3 zbE.nd)  (zg (zo 4 zbE.nd (zx ⟨rfl,rfl,rfl⟩ hr (za (pq 0) (za (pq 1) (za (pq 3) zb)))))  (zc (zD (zm Vw (pq 4) zG (zt _))  (zc (zu (qB ao ay ax zL (pq 2) (za (pq 4) zb))))  zp))))  (zc (zl (pq 2))))),?_⟩;walk_at "a";intro M hM;have nM:=so.offN hM;have s1:=zf (o:=.lst []) hM;have hM1:upd H M (.lst []) M=some (.lst []):=nk;generalize upd H M (.lst [])=H1 at s1 hM1 ⊢;walk_at "a";refine cut (λ σ' H'=>∃ (v3 v4:Aq) (us:Ap),σ'=[some (.ref yw),some (.ref y),some (.ref M),v3,v4]/\Fr (y :: n.all) H H'/\StO a H' y n (zF rs st rs.length).1/\H' M=some (.lst us)/\Reps H' (zU H') us ((zF rs st rs.length).2.map WL)) ?_ ?_
 ·walk_at "d";walk_at "a";refine ra (s1 _ _ hyw) T.gz T.gy ew2 ?_;refine ⟨_,.inl ⟨_,SqL.of (s1 _ _ hl2),rfl⟩,?_⟩;rw [lk];walk_at "a";refine ⟨by omega,by omega,?_⟩;refine wz (n:=(rs.length:Int).toNat) (λ i σ H'=>∃ (v3 v4:Aq) (us:Ap),σ=[some (.ref yw),some (.ref y),some (.ref M),v3,v4]/\Fr (y :: n.all) H H'/\StO a H' y n (zF rs st i).1/\H' M=some (.lst us)/\Reps H' (zU H') us ((zF rs st i).2.map WL)) (iE3 _ _ _ (iA5 rfl s1.fr (so.same s1) hM1 (.nil))) ?_ (λ σ H' h=>?_)
  ·intro i σ H2 hi m9;refine oE3 m9 λ v3 v4 us m7=>oA5 m7 λ m8 f2 so2 hM2 r2=>?_;clear m7 m9;subst m8;have hi:i < rs.length:=by simpa using hi
   have al:=XO rs st i;have lu:us.length=(zF rs st i).2.length:=by rw [r2.len,af]
   walk_at "a";simp only [cU];refine uc (ziJ T).mono (spAct.i (.ref yw) y n _ i bs rs rfl (hw.fr f2) so2 (jn wf mZ bo ro i) mZ bo ro hi (λ v H3 f3 so3 rv=>?_));have f23:=f2.trans f3;have hM3:=f3 _ _ nM hM2;have r3:=so2.repsT f3 r2;have eA:zF rs st (i + 1)=((qH rs (zF rs st i).1 i).1,(zF rs st i).2 ++ (qH rs (zF rs st i).1 i).2.toList):=rfl;walk_at "a";cases e:(qH rs (zF rs st i).1 i).2 with
   | none =>
    rw [e] at rv eA;cases rv;refine zJ (λ b=>absurd rfl b) (λ _=>?_);rw [eA];exact iE3 _ _ _ (iA5 rfl f23 so3 hM3 (by rw [show (none:Option Move).toList=[] from rfl,bU];exact r3))
   | some m =>
    rw [e] at rv eA;refine zJ (λ _=>?_) (λ b=>?_)
    ·walk_at "a";refine ⟨.inl ⟨rfl,_,SqL.of hM3⟩,iE3 M _ _ (iA5 rfl rfl hM3 (zk (by omega)) (iE3 _ _ _ (iA5 rfl (λ b o nb hb=>by rw [nz (nA hb hM)];exact f23 b o nb hb) ?_ nk ?_)))⟩
     ·rw [eA];exact so3.out hM3 nM
     ·rw [eA];show Reps _ _ _ (List.map WL ((zF rs st i).2 ++ [m]))
      rw [bd];exact (zdv hM3 r3).append (Reps.one (zay hM3 rv))
    ·exfalso;refine b λ z=>?_;subst z;cases rv
  ·have e:((rs.length:Int)).toNat=rs.length:=by simp
   rw [e] at h;exact h
 intro σ' H2 m9;refine oE3 m9 λ v3 v4 us m7=>oA5 m7 λ m8 f2 so2 hM2 r2=>?_;clear m7 m9;subst m8;walk_at "a";exact k _ _ _ f2 so2 hM nM hM2 r2
noncomputable def qU (c:Av) (p:Nat):List zE:=if c.getD (p + 1) none=none then (c.set (p + 1) (c.getD p none)).set p none else c
noncomputable def wW (c:Av):Nat->List zE
 | 0=>c
 | k + 1=>qU (wW c k) (c.length - 2 - k)
noncomputable def zcH (c:Av):List zE:=wW c (c.length - 1)
def zbX {c:Av} {p:Nat}:(qU c p).length=c.length:=by
 unfold qU
 split <;> simp
theorem Xk {c:Av}:∀ k,(wW c k).length=c.length
 | 0=>rfl
 | k + 1=>by rw [wW,zbX,Xk k]
def zbW {c:Av} {p:Nat} {x:zE} (h:x∈qU c p):x∈c\/x=none:=by
 unfold qU at h
 split at h
 ·rcases vO h with h|h
  ·rcases vO h with h|h
   ·exact .inl h
   ·rw [ae] at h;cases e:c[p]? with
    | none=>rw [e] at h;exact .inr h
    | some y=>rw [e] at h;exact .inl (by rw [h];exact ah e)
  ·exact .inr h
 ·exact .inl h
theorem zaL {c:Av} {x:zE}:∀ k,x∈wW c k->x∈c\/x=none
 | 0=>λ h=>.inl h
 | k + 1=>λ h=>by
  rcases zbW h with h|h
  ·exact zaL k h
  ·exact .inr h
def zeh (h:H b=some o):upd H b o=H:=by
 funext x
 by_cases e:x=b
 ·rw [e,nk,h]
 ·rw [nz e]
def V2 {x:zE} (r:Rep H p v (qf x)):v=.non ↔ x=none:=by
 cases x with
 | none=>cases r;simp
 | some x=>obtain ⟨t,us,rfl,_⟩:=Rep.tup' r;simp
def atD {xs:Av} {p:Nat} (h:p < xs.length):xs[p]?=some (xs.getD p none):=qr h
def zbw:Sp:=λ vs H Q _=>∃ (b:Addr) (us:Ap) (c:Av),vs=[.ref b]/\H b=some (.lst us)/\Reps H (zU H) us (c.map qf)/\c.length<=100/\∀ us',Reps H (zU H) us' ((zcH c).map qf)->Q .non (upd H b (.lst us'))
def zbd (T:Txt K mg a):Cal P w K mg base "move_belt" 1 ["cells"] [] zbw:=T.lz.cal λ F=>by
 refine F.okx Vl ?_ ?_
 ·walk_at "i"
 walk_at "j";refine oE3 h λ b us c m7=>oA5 m7 λ m8 hb rb lc k=>?_;clear m7 h;subst m8;have lu:us.length=c.length:=by rw [rb.len,af]
 walk_at "T";refine ⟨_,(zc (qo qC rfl (zhk (za (zr xn (z6 zY zX (za (pq 0) zb)) zd) (za (vK xy zd) (za (vK xy zd) zb)))) (qj 1 Vl.nd)  (zc (zD (zm jo (zn (pq 0) (zr zN (pq 1) zd)) zG (zt _))  (zg (J9 (zn (pq 0) (pq 1)) (Xc (pq 0) (zr zN (pq 1) zd) wp))  (zc (J9 zG (Xc (pq 0) (pq 1) wp))))  zp)))),?_⟩;walk_at "a";walk_at "d";walk_at "a";refine ⟨_,.inl ⟨_,SqL.of hb,rfl⟩,?_⟩;rw [lu];walk_at "a";refine iE2 _ _ (iA3 rfl (iA4 (by omega) (by omega) (by omega) (by omega)) ?_);rw [show ((c.length:Int) - 2 - -1).toNat=c.length - 1 by omega];refine ziz (K:=K) (λ i σ H'=>∃ (v1:Aq) (us':Ap),σ=[some (.ref b),v1]/\H'=upd H b (.lst us')/\Reps H (zU H) us' ((wW c i).map qf)) (iE2 _ us (iA3 rfl ((zeh hb).symm) rb)) ?_ ?_
 ·intro i σ H' hi m9;refine oE2 m9 λ v1 us' m7=>oA3 m7 λ m8 n6 r1=>?_;clear m7 m9;subst m8 n6;have lm:=Xk (c:=c) i;have l1:us'.length=c.length:=by rw [r1.len,af,lm]
  obtain ⟨p,hp⟩:∃ p,c.length - 2 - i=p:=⟨_,rfl⟩;have ep:(c.length:Int) - 2 - i=p:=by omega
  have hp1:p + 1 < c.length:=by omega
  rw [ep];have eS:wW c (i + 1)=qU (wW c i) p:=by rw [wW,hp]
  rw [eS];generalize wW c i=m at r1 lm ⊢;have m0:m[p]?=some (m.getD p none):=atD (by omega);have m1:m[p + 1]?=some (m.getD (p + 1) none):=atD (by omega);obtain ⟨u0,hu0,ru0⟩:=r1.of (i:=p) (d:=qf (m.getD p none)) (by rw [aj,m0];rfl);obtain ⟨u1,hu1,ru1⟩:=r1.of (i:=p + 1) (d:=qf (m.getD (p + 1) none)) (by rw [aj,m1];rfl);have e1:((p:Int) + 1)=((p + 1:Nat):Int):=by omega
  walk_at "a";rw [e1];refine zq (SqL.of nk) (zz hu1) ?_;walk_at "a";refine zJ (λ z=>?_) (λ z=>?_)
  ·have z:=(V2 ru1).mp z;walk_at "a";refine zq (SqL.of nk) (zz hu0) ?_;walk_at "a";refine Zc nk (Xw (by omega) (by omega)) ?_;walk_at "a";refine Zc nk (Xw (by omega) (by simp;omega)) ?_;rw [vY,vY];refine iE2 _ _ (iA3 rfl rfl ?_);unfold qU;rw [ap z,dN,dN,aE,aE];exact Reps.set (Reps.set r1 _ ru0) _ .non
  ·have z:m.getD (p + 1) none≠none:=λ y=>z ((V2 ru1).mpr y);walk_at "a";refine iE2 _ us' (iA3 rfl rfl ?_);unfold qU;rw [am z];exact r1
 ·intro σ H' m9;refine oE2 m9 λ v1 us' m7=>oA3 m7 λ m8 n6 r1=>?_;clear m7 m9;subst m8 n6;exact k _ r1
noncomputable def ql (bs:A1) (t:Int) (cs:Au):Nat->List Av
 | 0=>cs
 | i + 1=>if t % (bs.getD i (0,1)).2=0 then (ql bs t cs i).set i (zcH ((ql bs t cs i).getD i [])) else ql bs t cs i
theorem ZW {bs:A1} {rs:At} {t:Int} {cs:Au} (h:xv bs rs cs):∀ i,xv bs rs (ql bs t cs i)
 | 0=>h
 | i + 1=>by
  have ih:=ZW h i (t:=t);rw [ql]
  split
  ·generalize ql bs t cs i=ds at ih ⊢;cases e:ds[i]? with
   | none=>rw [c7 (c8.mp e)];exact ih
   | some c =>
    have ec:ds.getD i []=c:=by rw [ae,e];rfl
    rw [ec];have hi:i < bs.length:=by rw [<- ih.1];exact (aa.mp e).1
    refine QV ih e (Xk _) λ x hx=>?_;rcases zaL _ hx with hx|hx
    ·exact (ih.2 i _ c (ac hi) e).2 x hx
    ·rw [hx];exact Qt
  ·exact ih
noncomputable def passF (bs:A1) (rs:At) (st:PSt):PSt × List Move:=({ (zF rs st rs.length).1 with turn:=(zF rs st rs.length).1.turn + 1,cells:=ql bs (zF rs st rs.length).1.turn (zF rs st rs.length).1.cells bs.length },(zF rs st rs.length).2)
def zeQ {rs:At} {st:PSt} (wf:stWf bs rs st) (mZ:zS bs rs) (bo:∀ b∈bs,zC b.1 b.2) (ro:∀ r∈rs,r.ok):stWf bs rs (passF bs rs st).1:=by
 have w:=jn wf mZ bo ro rs.length;exact ⟨ZW w.co _,w.so,w.go⟩
def StO.ney {y:Addr} {n:SN} {st:PSt} (h:StO a H y n st):y ∉ n.all:=λ z=>by
 have hy:=h.hy;have c:∀ vs,H y≠some (.lst vs):=λ vs z=>by rw [hy] at z;cases z
 simp only [SN.all,aw,aF] at z;rcases z with z|z|z|z|z
 ·exact c _ (by rw [z];exact h.hs)
 ·exact c _ (by rw [z];exact h.hc.out)
 ·exact c _ (by rw [z];exact h.hg.out)
 ·obtain ⟨vs,hv⟩:=h.hc.isl (aB _ z);exact c _ hv
 ·obtain ⟨vs,hv⟩:=h.hg.isl (aB _ z);exact c _ hv
def StO.putT {y:Addr} {n:SN} {st:PSt} {t:Int} (h:StO a H y n st):StO a (upd H y (.ins a.h n.dx (sff t n.lc n.ls n.lg))) y n { st with turn:=t }:=by
 have ny:=h.ney;have tn:∀ b,zU H b->b≠y:=λ b ⟨xs,hx⟩ z=>by rw [z,h.hy] at hx;cases hx
 simp only [SN.all,aw,aF,not_or] at ny;refine oA5 ny λ n1 n2 n3 n4 n5=>?_;clear ny;refine ⟨nk,h.hc.tup λ b o c hb=>?_,?_,h.hg.tup λ b o c hb=>?_,h.nd⟩
 ·rw [nz ?_]
  ·exact hb
  ·rcases c with rfl|c|c
   ·exact aW n2
   ·exact λ z=>n4 (by rw [<- z];exact c)
   ·exact tn b c
 ·rw [nz (aW n1)];exact h.hs
 ·rw [nz ?_]
  ·exact hb
  ·rcases c with rfl|c|c
   ·exact aW n3
   ·exact λ z=>n5 (by rw [<- z];exact c)
   ·exact tn b c
def zbp {rs:At} (h:Rep H p v (qE a bs rs)):∃ y dx fs l1 bvs,v=.ref y/\p y/\H y=some (.ins a.q dx fs)/\fs.lookup ("belts":Str)=some (.ref l1)/\p l1/\H l1=some (.lst bvs)/\Bts a H p bvs bs:=by
 refine oE3 (Rep.ob' h) λ y dx fs m7=>oA5 m7 λ m8 py hy g1 g2=>?_;clear m7;subst m8;obtain ⟨u1,e1,r1⟩:=g1 _ _ V1;refine oE2 r1.lst' λ l1 bvs m7=>oA4 m7 λ m8 pl h1 b1=>?_;clear m7;subst m8;exact iE5 y dx fs l1 bvs (iA7 rfl py hy e1 pl h1 (.of b1))
def zic {t u:Int} {lc ls lg:Addr}:zP "turn" (.int u) (sff t lc ls lg)=sff u lc ls lg:=rfl
def zep (a:Ad):Sp:=λ vs H Q _=>∃ (vw:V) (y:Addr) (n:SN) (st:PSt) (bs:A1) (rs:At),vs=[vw,.ref y]/\Rep H (Off (y :: n.all)) vw (qE a bs rs)/\StO a H y n st/\stWf bs rs st/\zS bs rs/\(∀ b∈bs,zC b.1 b.2)/\(∀ r∈rs,r.ok) /\
 ∀ l us H',Fr (y :: n.all) H H'->StO a H' y n (passF bs rs st).1->H l=none->l ∉ y :: n.all->H' l=some (.lst us)->Reps H' (zU H') us ((passF bs rs st).2.map WL)->Q (.ref l) H'
def Vy (T:Txt K mg a) (F:Fun K "pass_turn" "pass_turn" xS f fd):FnOk P w K mg base (CXr P w) 6 f fd ["work","state"] (zep a):=by
 refine F.okx Vi ?_ ?_
 ·walk_at "i"
 walk_at "j";refine oE6 h λ vw y n st bs rs m7=>oA8 m7 λ m8 hw so wf mZ bo ro k=>?_;clear m7 h;subst m8;have b24:=mZ.1.1.2;walk_at "T";refine ⟨_,(zh (zo 2 Vi.nd (zx ⟨rfl,rfl,rfl⟩ hr (za (pq 0) (za (pq 1) zb))))  (qg (qo qC rfl (qt (za (zj (pq 0) rfl) zb)) (xL (n:=2) rfl (z9 (qj 3 Vi.nd) (z9 (qj 4 Vi.nd) jF)))  (zc (zD (zm (qG hr.units1) (zr qu (zj (pq 1) rfl) (zj (pq 4) rfl)) zd (zt _))  (zc (zu (zx ⟨rfl,rfl,rfl⟩ hr (za (zn (zj (pq 1) rfl) (pq 3)) zb))))  zp)))  (zh (zdB (pq 1) zd zhL)  (zc (zl (pq 2)))))),?_⟩;walk_at "a";refine uc (zd4 T).mono (spActAll.i vw y n st bs rs rfl hw so wf mZ bo ro (λ l us H1 f1 so1 nl nl' hl rl=>?_));have wA:=jn wf mZ bo ro rs.length;have hw1:=hw.fr f1;refine oE5 (zbp hw1) λ yw dw fw l1 bvs m7=>oA7 m7 λ m8 _ hyw ew1 pl1 hl1 hB=>?_;clear m7;subst m8;have lb:bvs.length=bs.length:=hB.len;generalize hA:zF rs st rs.length=A at so1 rl wA;refine oA4 (sff_l (t:=A.1.turn) (lc:=n.lc) (ls:=n.ls) (lg:=n.lg)) λ lk1 lk2 lk3 lk4=>?_;walk_at "a";let n9:St->Hp->Prop:=λ σ' H'=>∃ (v3 v4:Aq),σ'=[some (.ref yw),some (.ref y),some (.ref l),v3,v4]/\Fr (y :: n.all) H1 H'/\StO a H' y n { A.1 with cells:=ql bs A.1.turn A.1.cells bs.length };refine cut n9 ?_ ?_
 ·walk_at "d";walk_at "a";refine ra hyw T.gz T.gA ew1 (iE2 l1 _ (iA3 rfl hl1 ?_));let ni:Nat->St->Hp->Prop:=λ i σ H'=>∃ (v3 v4:Aq),σ=[some (.ref yw),some (.ref y),some (.ref l),v3,v4]/\Fr (y :: n.all) H1 H'/\StO a H' y n { A.1 with cells:=ql bs A.1.turn A.1.cells i };refine Ql (K:=K) (a:=l1) (xs:=bvs) ni (iE2 _ _ (iA3 rfl Fr.refl so1)) (λ i σ H' _ h=>by obtain ⟨_,_,_,f,_⟩:=h;exact SqL.of (f _ _ pl1 hl1)) ?_ ?_
  ·intro i x t σ H2 hi ht m9;refine oE2 m9 λ v3 v4 m7=>oA3 m7 λ m8 f2 so2=>?_;clear m7 m9;subst m8;obtain ⟨b,hb',hBt⟩:=hB.at hi;refine oE3 hBt.inv λ y1 dx1 fs1 m7=>oA5 m7 λ m8 py1 g0 _ e2=>?_;clear m7;subst m8;have g02:=f2 _ _ py1 g0;have hil:=(aa.mp hb').1;have bk:=bo b (ah hb');have f3:=f2.trans (zcd (ms:=y :: n.all) (o:=.tup [.int i,.ref y1]) ht);have so3:=so2.same (zf (o:=.tup [.int i,.ref y1]) ht);have g03:=nB (o:=.tup [.int i,.ref y1]) g02 ht;refine un2 nk ?_;generalize upd H2 t (.tup [.int i,.ref y1])=H3 at f3 so3 g03 ⊢;have eb:bs.getD i (0,1)=b:=by rw [ae,hb'];rfl
   have co:=ZW (t:=A.1.turn) wA.co i;have hc:=qr (xs:=ql bs A.1.turn A.1.cells i) (d:=[]) (show i < _ by rw [co.1];exact hil);refine oE2 (so3.cell hc) λ bC vs m7=>oA3 m7 λ hbC hvC rvC=>?_;clear m7;have lc:=(co.2 i b _ hb' hc).1;have b1:=bk.1;have b2:=bk.2.1;have b3:=bk.2.2.1;walk_at "a";refine ra so3.hy T.gq T.gu lk4 ?_;refine ra g03 T.iu T.g6 e2 ?_;walk_at "a";refine zJ (λ z=>?_) (λ z=>?_)
   ·walk_at "a";refine uc (zbd T).mono ?_;refine ra so3.hy T.gq T.gw lk1 (zq (SqL.of so3.hc.out) (zz (Qs hbC)) ?_);refine iE3 bC vs _ (iA5 rfl hvC rvC (by omega) (λ us' r'=>?_));refine iE2 _ _ (iA3 rfl (f3.trans (qz (VZ hbC))) ?_);have:=so3.putC hbC r';rw [ql,eb,ap z];exact this
   ·refine iE2 _ _ (iA3 rfl f3 ?_);rw [ql,eb,am z];exact so3
  ·intro σ H2 m9;refine oE2 m9 λ v3 v4 m7=>oA3 m7 λ m8 f2 so2=>?_;clear m7 m9;subst m8;rw [lb] at so2;exact iE2 _ _ (iA3 rfl f2 so2)
 intro σ' H2 m9;refine oE2 m9 λ v3 v4 m7=>oA3 m7 λ m8 f2 so2=>?_;clear m7 m9;subst m8;walk_at "a";refine ⟨y,?_⟩;refine iE4 a.h n.dx _ _ (iA6 rfl so2.hy T.gq T.gu lk4 ?_);refine iE2 _ 1 (iA3 rfl rfl (iE2 n.dx _ (iA3 so2.hy (show 4 < 1000 by decide) ?_)));rw [zic];have f3:=f2.trans (qz (x:=y) (o:=.ins a.h n.dx (sff (A.1.turn + 1) n.lc n.ls n.lg)) (by simp));walk_at "a";refine k l us _ (f1.trans f3) (by rw [passF,hA];exact so2.putT) nl nl' (f3 _ _ nl' hl) (by rw [passF,hA];exact so1.repsT f3 rl)
def vV (T:Txt K mg a):Cal P w K mg base "pass_turn" 6 ["work","state"] [] (zep a):=T.lA.cal (Vy T)
def zew (a:Ad):Sp:=λ vs H Q _=>∃ (v:V) (st:PSt) (p:A5),vs=[v]/\Rep H p v (XF a st)/\st.cells.length<=100/\st.gone.length<=100/\∀ v' H',Same H H'->Q8 a H H' v' st->Q v' H'
def XJ (T:Txt K mg a):Cal P w K mg base "copied_state" 3 ["state"] [] (zew a):=T.kb.cal λ F=>by
 refine F.okx Q9 ?_ ?_
 ·walk_at "i"
 walk_at "j";refine oE3 h λ v st p m7=>oA5 m7 λ m8 hs lc lg k=>?_;clear m7 h;subst m8;refine oE3 (Rep.ob' hs) λ y dx fs m7=>oA5 m7 λ m8 py hy g1 g2=>?_;clear m7;subst m8;obtain ⟨u1,e1,r1⟩:=g1 _ _ (V8 st);obtain ⟨u2,e2,r2⟩:=g1 _ _ (Wl st);obtain ⟨u3,e3,r3⟩:=g1 _ _ (Wk st);obtain ⟨u4,e4,r4⟩:=g1 _ _ (V9 st);cases r1;walk_at "T";refine ⟨_,(zc (zl (qw (x:="State") ⟨rfl,rfl,rfl⟩ hr (za (zj (pq 0) rfl) (za (zj (pq 0) rfl) (za (zj (pq 0) rfl) (za (zj (pq 0) rfl) zb))))))),?_⟩;walk_at "a";refine iE4 a.h _ _ _ ⟨(VG T).mono,iE5 y a.h dx fs _ (iA6 rfl hy T.gq T.gu e1 ?_)⟩;refine ra hy T.gq T.gw e2 ?_;refine ra hy T.gq T.gF e3 ?_;refine ra hy T.gq T.gx e4 ?_;exact Xm T (st:=st) r2 r3 r4 lc lg λ y' H' s' sn=>k _ _ s' sn
def zdh (a:Ad):Sp:=λ vs H Q _=>∃ (vw v:V) (st:PSt) (bs:A1) (rs:At) (p:A5),vs=[vw,v]/\Rep H (Off []) vw (qE a bs rs)/\Rep H p v (XF a st)/\stWf bs rs st/\zS bs rs/\(∀ b∈bs,zC b.1 b.2)/\(∀ r∈rs,r.ok) /\
 ∀ v' H',Same H H'->Q8 a H H' v' (passF bs rs st).1->Q v' H'
def zcn (T:Txt K mg a):Cal P w K mg base "one_turn" 7 ["work","state"] [] (zdh a):=T.lQ.cal λ F=>by
 refine F.okx zam ?_ ?_
 ·walk_at "i"
 walk_at "j";refine oE6 h λ vw v st bs rs p m7=>oA8 m7 λ m8 hw hv wf mZ bo ro k=>?_;clear m7 h;subst m8;have b24:=mZ.1.1.2;have r24:=mZ.1.2.2;walk_at "T";refine ⟨_,(zg (zo 2 zam.nd (zx ⟨rfl,rfl,rfl⟩ hr (za (pq 1) zb)))  (zg (zu (zx ⟨rfl,rfl,rfl⟩ hr (za (pq 0) (za (pq 2) zb))))  (zc (zl (pq 2))))),?_⟩;walk_at "a";refine uc (XJ T).mono (iE3 v st p (iA5 rfl hv (by rw [wf.co.1];omega) (by rw [wf.go.1];omega) (λ v' H1 s1 sn=>?_)));refine oE2 sn λ y n m7=>oA5 m7 λ m8 so1 ny nd nn=>?_;clear m7 sn;subst m8;have na:∀ b∈y :: n.all,H b=none:=λ b hb=>by
  rcases aw.mp hb with rfl|hb
  ·exact ny
  ·exact nn b hb
 have hw1:Rep H1 (Off (y :: n.all)) vw (qE a bs rs):=jq (hw.more (ns:=y :: n.all) λ b hb=>.inr (na b hb)) s1;walk_at "a";refine uc (vV T).mono (iE6 vw y n st bs rs (iA8 rfl hw1 so1 wf mZ bo ro (λ l us H2 f2 so2 _ _ _ _=>?_)));walk_at "a";exact k _ _ (λ b o hb=>f2 b o (λ z=>by rw [na b z] at hb;cases hb) (s1 b o hb)) (iE2 y n (iA5 rfl so2 ny nd nn))
noncomputable def zi (bs:A1) (rs:At):Nat->PSt
 | 0=>qQ bs rs
 | n + 1=>(passF bs rs (zi bs rs n)).1
def zfo {rs:At} (ro:∀ r∈rs,r.ok):stWf bs rs (qQ bs rs):=by
 refine ⟨⟨by simp [qQ],λ i b c h1 h2=>?_⟩,⟨by simp [qQ],λ i r s h1 h2=>?_⟩,⟨by simp [qQ],λ i r g h1 h2=>?_⟩⟩
 ·simp only [qQ,aj,h1,cm,db] at h2;subst h2;refine ⟨by simp,λ x hx=>?_⟩;rw [(cr.mp hx).2];exact Qt
 ·have hs:=ah h2;have e:s=0:=(cr.mp hs).2;subst e;have ok:=ro r (ah h1);obtain ⟨wd,ins,outs,pc,ks⟩:=r;refine iA4 (by decide) (λ hw=>?_) (λ hw=>?_) (λ _ _=>rfl)
  ·simp only at hw;subst hw;have:=ok.2.1;simp only at this ⊢;omega
  ·simp only at hw;subst hw;have:=ok.2.1;simp only at this ⊢;omega
 ·simp only [qQ,aj,h1,cm,db] at h2;subst h2;refine ⟨rfl,λ n hn=>?_⟩;rw [(cr.mp hn).2];decide
theorem zH {bs:A1} {rs:At} (mZ:zS bs rs) (bo:∀ b∈bs,zC b.1 b.2) (ro:∀ r∈rs,r.ok):∀ n,stWf bs rs (zi bs rs n)
 | 0=>zfo ro
 | n + 1=>zeQ (zH mZ bo ro n) mZ bo ro
def zeo (a:Ad):Sp:=λ vs H Q _=>∃ (vw:V) (n:Nat) (bs:A1) (rs:At),vs=[vw,.int n]/\Rep H (Off []) vw (qE a bs rs)/\zS bs rs/\(∀ b∈bs,zC b.1 b.2)/\(∀ r∈rs,r.ok)/\n<=1000/\∀ v' H',Same H H'->Q8 a H H' v' (zi bs rs n)->Q v' H'
def zfx (T:Txt K mg a):Cal P w K mg base "played" 7 ["work","turns"] [] (zeo a):=T.mt.cal λ F=>by
 refine F.okx zdn ?_ ?_
 ·walk_at "i"
 walk_at "j";refine oE4 h λ vw m bs rs m7=>oA7 m7 λ m8 hw mZ bo ro hm k=>?_;clear m7 h;subst m8;have b24:=mZ.1.1.2;have r24:=mZ.1.2.2;walk_at "T";refine ⟨_,(zg (zo 2 zdn.nd (zx ⟨rfl,rfl,rfl⟩ hr (za (pq 0) zb)))  (qg (qo qC rfl (jP (za (pq 1) zb)) (qj 3 zdn.nd)  (zc (zu (zx ⟨rfl,rfl,rfl⟩ hr (za (pq 0) (za (pq 2) zb))))))  (zc (zl (pq 2))))),?_⟩;walk_at "a";refine uc (Zx T).mono (iE4 vw bs rs _ (iA7 rfl hw b24 r24 bo ro (λ v' H1 s1 sn=>?_)));refine oE2 sn λ y n m7=>oA5 m7 λ m8 so1 ny nd nn=>?_;clear m7 sn;subst m8;have na:∀ b∈y :: n.all,H b=none:=λ b hb=>by
  rcases aw.mp hb with rfl|hb
  ·exact ny
  ·exact nn b hb
 have hw1:Rep H1 (Off (y :: n.all)) vw (qE a bs rs):=jq (hw.more (ns:=y :: n.all) λ b hb=>.inr (na b hb)) s1;walk_at "a";refine cut (λ σ' H'=>∃ (v3:Aq),σ'=[some vw,some (.int m),some (.ref y),v3]/\Fr (y :: n.all) H1 H'/\StO a H' y n (zi bs rs m)) ?_ ?_
 ·walk_at "d";walk_at "a";refine ⟨by omega,by omega,?_⟩;refine wz (n:=(m:Int).toNat) (λ i σ H'=>∃ (v3:Aq),σ=[some vw,some (.int m),some (.ref y),v3]/\Fr (y :: n.all) H1 H'/\StO a H' y n (zi bs rs i)) ⟨_,iA3 rfl Fr.refl so1⟩ ?_ (λ σ H' h=>?_)
  ·intro i σ H2 hi m9;refine oE1 m9 λ v3 m7=>oA3 m7 λ m8 f2 so2=>?_;clear m7 m9;subst m8;walk_at "a";refine uc (vV T).mono (iE6 vw y n _ bs rs (iA8 rfl (hw1.fr f2) so2 (zH mZ bo ro i) mZ bo ro (λ l us H3 f3 so3 _ _ _ _=>?_)));exact ⟨_,iA3 rfl (f2.trans f3) so3⟩
  ·rw [show ((m:Int)).toNat=m by simp] at h;exact h
 intro σ' H2 m9;refine oE1 m9 λ v3 m7=>oA3 m7 λ m8 f2 so2=>?_;clear m7 m9;subst m8;walk_at "a";exact k _ _ (λ b o hb=>f2 b o (λ z=>by rw [na b z] at hb;cases hb) (s1 b o hb)) (iE2 y n (iA5 rfl so2 ny nd nn))
def JN:Sp:=λ vs H Q _=>∃ a b:Int,vs=[.int a,.int b]/\0<=a/\0<=b/\Q (.int (Int.gcd a b:Int)) H
def zdG (F:Fun K "common" "common" Z2 f fd):FnOk P w K mg base (CXr P w) 1 f fd ["one","other"] JN:=by
 refine F.okx zdo ?_ ?_
 ·walk_at "i"
 walk_at "k";obtain ⟨a,b,rfl,ha,hb,k⟩:=h;refine ⟨_,(zg (zo 2 zdo.nd (pq 0))  (zg (zo 3 zdo.nd (pq 1))  (zg (zaB qC (zm Wt (pq 3) zd (zt _))  (zg (zo 4 zdo.nd (zr qu (pq 2) (pq 3)))  (zg (zo 2 zdo.nd (pq 3))  (zc (zo 3 zdo.nd (pq 4))))))  (zc (zl (pq 2)))))),?_⟩;walk_at "r";refine ⟨λ m σ H'=>∃ p r v,σ=[some (.int a),some (.int b),some (.int p),some (.int r),v]/\H'=H/\0<=p/\0<=r/\Int.gcd p r=Int.gcd a b/\m=r.toNat,⟨_,a,b,none,rfl,rfl,ha,hb,rfl,rfl⟩,?_⟩;rintro m σ H' ⟨p,r,v,rfl,rfl,hp,hr',hg,rfl⟩;walk_at "r";refine zJ (λ h=>?_) (λ h=>?_)
 ·refine zih ?_;have h1:=aH p (show r≠0 by omega);have h2:=aG p h;exact ⟨h,_,by omega,r,p % r,_,rfl,rfl,hr',h1,(zfj hp h).trans hg,rfl⟩
 ·have e:r=0:=by omega
  subst e;have e2:=zgu hp;rw [hg] at e2;rw [<- e2];exact k
def Pac (ns:A6):Prop:=∀ n∈ns,0 < n/\n<=1000000000000
def Pac.nil:Pac []:=λ _ h=>nomatch h
def Pac.snoc (h:Pac ns) (h1:0 < n) (h2:n<=1000000000000):Pac (ns ++ [n]):=λ k hk=>by
 rcases aF.mp hk with z|z
 ·exact h k z
 ·rw [ar.mp z];exact ⟨h1,h2⟩
def Pac.at (h:Pac ns) {x:V} (e:(ns.map V.int)[i]?=some x):∃ n,x=.int n/\0 < n/\n<=1000000000000/\n∈ns/\ns.take (i + 1)=ns.take i ++ [n]:=by
 rw [aj,au] at e;obtain ⟨n,hn,rfl⟩:=e;have hm:=ah hn;refine ⟨n,iA5 rfl ((h n hm).1) ((h n hm).2) hm ?_⟩;rw [fZ,hn]
 rfl
def zdj (K:A0):Sp:=λ vs H Q _=>∃ (l:Addr) (ns:A6),vs=[.ref l]/\SqL K H l (ns.map V.int)/\Pac ns/\∀ L,IsLcm ns L->Q (.int L) H
def zbe (T:Txt K mg a):Cal P w K mg base "common" 1 ["one","other"] [] JN:=T.mr.cal zdG
def zd3 (T:Txt K mg a):Cal P w K mg base "lasting" 2 ["paces"] [] (zdj K):=T.lZ.cal λ F=>by
 refine F.okx zbB ?_ ?_
 ·walk_at "i"
 walk_at "k";refine oE2 h λ l ns m7=>oA4 m7 λ m8 hl hn k=>?_;clear m7 h;subst m8;refine ⟨_,(zg (zo 1 zbB.nd zd)  (zg (qo qC rfl (qp (pq 0)) (qj 2 zbB.nd)  (zc (zo 1 zbB.nd (zr jG (zr Z7 (pq 1) (zx ⟨rfl,rfl,rfl⟩ hr (za (pq 1) (za (pq 2) zb)))) (pq 2)))))  (zc (zl (pq 1))))),?_⟩;walk_at "a";walk_at "d";refine ⟨l,rfl,.inl ⟨⟨_,hl⟩,?_⟩⟩;refine qS (K:=K) (a:=l) (xs:=ns.map V.int) (λ i σ H'=>∃ (m:Int) (v:Aq),σ=[some (V.ref l),some (V.int m),v]/\H'=H/\IsLcm (ns.take i) m) (iE2 1 none (iA3 rfl rfl IsLcm.nil)) (λ i σ H' _ ⟨_,_,_,e,_⟩=>e ▸ hl) ?_ ?_
 ·intro i x σ H1 hi m9;refine oE2 m9 λ m v m7=>oA3 m7 λ m8 n6 hm=>?_;clear m7 m9;subst m8 n6;refine oE1 (hn.at hi) λ p m7=>oA5 m7 λ m8 p0 p1 _ ht=>?_;clear m7;subst m8;walk_at "r";have g0:(0:Int) < (Int.gcd m p:Int):=by have:=VJ (a:=m) (b:=p) (by omega);omega
  have g1:(Int.gcd m p:Int)<=p:=VL p0;refine iE3 _ _ _ ⟨zbe T,⟨m,p,rfl,cV hm.pos,cV p0,?_⟩⟩;walk_at "r";refine ⟨fd_ok g0 ?_,mul_okR (by omega) (by omega),?_⟩
  ·have:(1000000000000:Nat) < 2 ^ 8999:=by decide +kernel
   omega
  ·rw [fdiv_pos g0,ht];exact iE2 _ _ ⟨rfl,hm.step p0⟩
 ·intro σ H1 m9;refine oE2 m9 λ m v m7=>oA3 m7 λ m8 n6 hm=>?_;clear m7 m9;subst m8 n6;rw [af,aQ] at hm;walk_at "r";exact k m hm
theorem IsLcm.ex:∀ {ns:A6},Pac ns->∃ L,IsLcm ns L:=λ {ns} h=>by
 have:∀ k,k<=ns.length->∃ L,IsLcm (ns.take k) L:=λ k=>by
  induction k with
  | zero=>exact λ _=>⟨1,IsLcm.nil⟩
  | succ k ih =>
   intro hk;obtain ⟨L,hL⟩:=ih (by omega);have e:ns.take (k + 1)=ns.take k ++ [ns[k]]:=by rw [fZ,ac (by omega)];rfl
   rw [e];exact ⟨_,hL.step (h _ (getElem_mem _)).1⟩
 have:=this ns.length (aq _)
 rwa [aQ] at this
def ziZ (T:Txt K mg a) (wd:Wd):kitOne K (.ref (vb a wd)) (.ref a.l)=some (decide (wd=.drain)):=by
 cases wd
 ·exact T.iZ
 ·exact T.kq
 ·exact T.i5
 ·exact T.ik
 ·exact T.kr
 ·exact T.i6
noncomputable def jv (wd:Wd) (rs:At) (n:Nat):List Int:=((List.range n).filter λ i=>decide (rs[i]?.map Row.wd=some wd)).map λ (i:Nat)=>(i:Int)
def xY {rs:At} {n:Nat} {r:Row} (h:rs[n]?=some r):jv wd rs (n + 1)=jv wd rs n ++ if r.wd=wd then [(n:Int)] else []:=by
 unfold jv;rw [range_succ,List.filter_append,bd]
 congr 1
 by_cases e:r.wd=wd <;> simp [h,e]
noncomputable def zQ (wd:Wd) (rs:At):List Int:=jv wd rs rs.length
def xP (wd:Wd) (rs:At) (n:Nat):(jv wd rs n).length<=n:=by
 unfold jv;rw [af];exact ba (List.length_filter_le _ _) (by simp)
def Qb {rs:At} {m:Int} (h:m∈zQ wd rs):∃ (i:Nat) (r:Row),m=i/\rs[i]?=some r/\r.wd=wd:=by
 unfold zQ jv at h;obtain ⟨i,hi,rfl⟩:=bc.mp h;rw [cn] at hi;have h2:=bO hi.2;rw [au] at h2;obtain ⟨r,h3,h4⟩:=h2;exact iE2 i r (iA3 rfl h3 h4)
def Xi {rs:At} {r:Row} (h:rs[i]?=some r) (hw:r.wd=wd):(i:Int)∈zQ wd rs:=by
 unfold zQ jv;refine bc.mpr ⟨i,cn.mpr ⟨dM.mpr (aa.mp h).1,?_⟩,rfl⟩;rw [h];exact bp (by rw [<- hw];rfl)
def zes (a:Ad) (wd:Wd):Sp:=λ vs H Q _=>∃ (v:V) (bs:A1) (rs:At) (p:A5),vs=[v]/\Rep H p v (qE a bs rs)/\rs.length<=100/\∀ q H',Same H H'->H q=none->H' q=some (.lst (iv (zQ wd rs)))->Q (.ref q) H'
def X9 (T:Txt K mg a):MCal P w K mg base a.q "drains" 1 ["self"] [] (zes a .drain):=T.kI.cal T.gz λ F=>by
 refine F.okx JT ?_ ?_
 ·walk_at "i"
 walk_at "j";refine oE4 h λ v bs rs p m7=>oA4 m7 λ m8 hv l100 k=>?_;clear m7 h;subst m8;refine oE7 (qY hv) λ y dx fs l1 l2 bvs mW m7=>oA9 m7 λ m8 hy e1 e2 h1 h2 hB hK no=>?_;clear m7;subst m8;walk_at "T";refine ⟨_,(zc (zl (jK (vars:=["number","knot"]) (caps:=[]) (N:=["number","knot"]) (ON:=["self"]) (osc:=ze jS) rfl rfl (by first|decide +kernel|kernel_rfl) rfl rfl (qt (za (zj (pq 0) rfl) zb)) (λ s H fp m5=>(xL (n:=2) rfl (z9 (qj 0 (show (["number","knot"]:A8).Nodup from by decide +kernel)) (z9 (qj 1 (show (["number","knot"]:A8).Nodup from by decide +kernel)) jF)))) (λ s H fp m5=>(zcz (jY (z6 VY jW (za (pq 1) (za vn zb))) (λ _=>rfl)))) (λ s H fp m5=>(pq 0))))),?_⟩;walk_at "a";walk_at "e";walk_at "a";refine ra hy T.gz T.gy e2 (iE2 l2 _ (iA3 rfl h2 (λ _ _ _ _ mY hacc=>?_)));refine Ql (K:=K) (a:=l2) (xs:=mW) (λ i σ H'=>∃ (v0 v1:Aq),σ=[v0,v1]/\Same H H'/\H' mY=some (.lst (iv (jv .drain rs i)))) (iE2 _ _ (iA3 rfl (zf hacc) nk)) (λ i σ H' _ h=>by obtain ⟨_,_,_,s,_⟩:=h;exact SqL.of (s _ _ h2)) ?_ ?_
 ·intro i x t σ H' hi ht m9;refine oE2 m9 λ v0 v1 m7=>oA3 m7 λ m8 s7 e1'=>?_;clear m7 m9;subst m8;obtain ⟨r,hr',hKn⟩:=hK.at hi;refine oE6 hKn.inv λ y1 dx1 m1 m2 m3 fs1 m7=>oA9 m7 λ m8 _ _ _ _ g0 f1 f2 n6=>oA5 n6 λ _ g1 g2 _ _=>?_;clear m7 n6;subst m8;have hil:=(aa.mp hr').1;have s8:=s7.trans (zf (o:=.tup [.int i,.ref y1]) ht);have e8:=nB (o:=.tup [.int i,.ref y1]) e1' ht;refine un2 nk ?_;generalize upd H' t (.tup [.int i,.ref y1])=H8 at s8 e8 ⊢;walk_at "a";refine iE2 (.ref a.l) _ (iA3 T.lY rfl (iE4 _ _ _ _ (iA4 rfl ((WT T r.wd).ty (CT T r.wd) (s8 _ _ g0)) (.inl ⟨_,rfl,ziZ T r.wd⟩) ?_)));walk_at "a";refine zJ (λ b=>?_) (λ b=>?_)
  ·refine ⟨_,iA3 e8 (zk (by have:=xP .drain rs i;rw [zy];omega)) (iE2 _ _ (iA3 rfl (λ b o hb=>by rw [nz (nA hb hacc)];exact s8 b o hb) ?_))⟩;rw [nk,xY hr',ap b,qP]
  ·exact iE2 _ _ (iA3 rfl s8 (by rw [xY hr',am b,bU];exact e8))
 intro σ H2 m9;refine oE2 m9 λ v0 v1 m7=>oA3 m7 λ m8 s2 ha=>?_;clear m7 m9;subst m8;rw [hK.len] at ha;exact k _ _ s2 hacc ha
def vP (T:Txt K mg a):MCal P w K mg base a.q "sources" 1 ["self"] [] (zes a .source):=T.km.cal T.gz λ F=>by
 refine F.okx Ja ?_ ?_
 ·walk_at "i"
 walk_at "j";refine oE4 h λ v bs rs p m7=>oA4 m7 λ m8 hv l100 k=>?_;clear m7 h;subst m8;refine oE7 (qY hv) λ y dx fs l1 l2 bvs mW m7=>oA9 m7 λ m8 hy e1 e2 h1 h2 hB hK no=>?_;clear m7;subst m8;walk_at "T";refine ⟨_,(zc (zl (jK (vars:=["number","knot"]) (caps:=[]) (N:=["number","knot"]) (ON:=["self"]) (osc:=ze jC) rfl rfl (by first|decide +kernel|kernel_rfl) rfl rfl (qt (za (zj (pq 0) rfl) zb)) (λ s H fp m5=>(xL (n:=2) rfl (z9 (qj 0 (show (["number","knot"]:A8).Nodup from by decide +kernel)) (z9 (qj 1 (show (["number","knot"]:A8).Nodup from by decide +kernel)) jF)))) (λ s H fp m5=>(zcz (jY (z6 VY jW (za (pq 1) (za vn zb))) (λ _=>rfl)))) (λ s H fp m5=>(pq 0))))),?_⟩;walk_at "a";walk_at "e";walk_at "a";refine ra hy T.gz T.gy e2 (iE2 l2 _ (iA3 rfl h2 (λ _ _ _ _ mY hacc=>?_)));refine Ql (K:=K) (a:=l2) (xs:=mW) (λ i σ H'=>∃ (v0 v1:Aq),σ=[v0,v1]/\Same H H'/\H' mY=some (.lst (iv (jv .source rs i)))) (iE2 _ _ (iA3 rfl (zf hacc) nk)) (λ i σ H' _ h=>by obtain ⟨_,_,_,s,_⟩:=h;exact SqL.of (s _ _ h2)) ?_ ?_
 ·intro i x t σ H' hi ht m9;refine oE2 m9 λ v0 v1 m7=>oA3 m7 λ m8 s7 e1'=>?_;clear m7 m9;subst m8;obtain ⟨r,hr',hKn⟩:=hK.at hi;refine oE6 hKn.inv λ y1 dx1 m1 m2 m3 fs1 m7=>oA9 m7 λ m8 _ _ _ _ g0 f1 f2 n6=>oA5 n6 λ _ g1 g2 _ _=>?_;clear m7 n6;subst m8;have hil:=(aa.mp hr').1;have s8:=s7.trans (zf (o:=.tup [.int i,.ref y1]) ht);have e8:=nB (o:=.tup [.int i,.ref y1]) e1' ht;refine un2 nk ?_;generalize upd H' t (.tup [.int i,.ref y1])=H8 at s8 e8 ⊢;walk_at "a";refine iE2 (.ref a.k) _ (iA3 T.kz rfl (iE4 _ _ _ _ (iA4 rfl ((WT T r.wd).ty (CT T r.wd) (s8 _ _ g0)) (.inl ⟨_,rfl,zit T r.wd⟩) ?_)));walk_at "a";refine zJ (λ b=>?_) (λ b=>?_)
  ·refine ⟨_,iA3 e8 (zk (by have:=xP .source rs i;rw [zy];omega)) (iE2 _ _ (iA3 rfl (λ b o hb=>by rw [nz (nA hb hacc)];exact s8 b o hb) ?_))⟩;rw [nk,xY hr',ap b,qP]
  ·exact iE2 _ _ (iA3 rfl s8 (by rw [xY hr',am b,bU];exact e8))
 intro σ H2 m9;refine oE2 m9 λ v0 v1 m7=>oA3 m7 λ m8 s2 ha=>?_;clear m7 m9;subst m8;rw [hK.len] at ha;exact k _ _ s2 hacc ha
def wg (bs:A1) (rs:At) (n:Int):Prop:=(∃ b∈bs,b.2=n)\/∃ r∈rs,(r.wd=.source\/r.wd=.drain)/\r.pace=n/\0 < n
def zav {r:Row} (h:r.ok) (hw:r.wd=.source\/r.wd=.drain):0<=r.pace/\r.pace<=4:=by
 obtain ⟨wd,ins,outs,pc,ks⟩:=r;rcases hw with hw|hw
 ·simp only at hw;subst hw;have h1:=h.2.2.1;have h2:=h.2.2.2.1;simp only at h1 h2;exact ⟨by show 0<=pc;omega,h2⟩
 ·simp only at hw;subst hw;exact ⟨h.2.2.1,h.2.2.2⟩
def zha (a:Ad):Sp:=λ vs H Q _=>∃ (v:V) (bs:A1) (rs:At) (p:A5),vs=[v]/\Rep H p v (qE a bs rs)/\bs.length<=100/\rs.length<=100/\(∀ b∈bs,zC b.1 b.2)/\(∀ r∈rs,r.ok) /\
 ∀ L ns H',IsLcm ns L->(∀ n,n∈ns ↔ wg bs rs n)->Same H H'->Q (.int L) H'
def zaR (T:Txt K mg a):MCal P w K mg base a.q "beat" 3 ["self"] [] (zha a):=T.lG.cal T.gz λ F=>by
 refine F.okx Vo ?_ ?_
 ·walk_at "i"
 walk_at "j";refine oE4 h λ v bs rs p m7=>oA7 m7 λ m8 hv lb lr bo ro k=>?_;clear m7 h;subst m8;have hv0:=hv;refine oE7 (qY hv) λ y dx fs l1 l2 bvs mW m7=>oA9 m7 λ m8 hy e1 e2 h1 h2 hB hK no=>?_;clear m7;subst m8;walk_at "T";refine ⟨_,(zg (Wq (i:=1) Vo.nd rfl (Or.inl rfl) (vars:=["belt"]) (caps:=[]) (N:=["belt"]) (ON:=["self","paces","number","pace"]) (osc:=ze xU) rfl rfl (by first|decide +kernel|kernel_rfl) rfl rfl (qp (zj (pq 0) rfl)) (λ s H fp m5=>(qj 0 (show (["belt"]:A8).Nodup from by decide +kernel))) (λ s H fp m5=>qk) (λ s H fp m5=>(zj (pq 0) rfl)))  (zg (qo qC rfl (qp (zr zN (Jx ⟨rfl,rfl,rfl⟩ hr (pq 0)) (Jx ⟨rfl,rfl,rfl⟩ hr (pq 0)))) (qj 2 Vo.nd)  (zg (zo 3 Vo.nd (zj (zn (zj (pq 0) rfl) (pq 2)) rfl))  (zc (zD (zm Wt (pq 3) zd (zt _))  (zc (zu (qB ao ay ax zL (pq 1) (za (pq 3) zb))))  zp))))  (zc (zl (zx ⟨rfl,rfl,rfl⟩ hr (za (pq 1) zb)))))),?_⟩;walk_at "a";walk_at "e";walk_at "a";refine ra hy T.gz T.gA e1 ⟨l1,rfl,.inl ⟨⟨_,SqL.of h1⟩,λ _ _ _ _ mY hacc=>?_⟩⟩;let n9:Nat->St->Hp->Prop:=λ i σ H'=>∃ (v0:Aq),σ=[v0]/\Same H H'/\H' mY=some (.lst (iv ((bs.take i).map (·.2))));refine qS (K:=K) (a:=l1) (xs:=bvs) n9 ⟨_,iA3 rfl (zf hacc) (by rw [bX];exact nk)⟩ (λ i σ H' _ h=>by obtain ⟨_,_,s,_⟩:=h;exact SqL.of (s _ _ h1)) ?_ ?_
 ·intro i x σ H' hi m9;refine oE1 m9 λ v0 m7=>oA3 m7 λ m8 s7 e7=>?_;clear m7 m9;subst m8;obtain ⟨b,hr',hBt⟩:=hB.at hi;refine oE3 hBt.inv λ y1 dx1 fs1 m7=>oA5 m7 λ m8 _ g0 f1 f2=>?_;clear m7;subst m8;have hil:=(aa.mp hr').1;walk_at "a";refine ra (s7 _ _ g0) T.iu T.g6 f2 ?_;refine ⟨_,iA3 e7 (zk (by rw [zy,af,aR];omega)) ⟨_,iA3 rfl (λ b o hb=>by rw [nz (nA hb hacc)];exact s7 b o hb) ?_⟩⟩;rw [nk,aO,hr',bd,qP]
  rfl
 intro σ H2 m9;refine oE1 m9 λ v0 m7=>oA3 m7 λ m8 s2 ha=>?_;clear m7 m9;subst m8;rw [hB.len,aQ] at ha;walk_at "a";walk_at "d";walk_at "a";refine iE7 y a.q dx fs _ _ _ (iA5 rfl (s2 _ _ hy) (no _ (by decide +kernel) (by decide +kernel)) ((vP T).mono) ?_);refine iE4 _ bs rs p (iA4 rfl (hv0.keep λ b o pb hb=>⟨pb,s2 _ _ hb⟩) lr (λ q1 H3 s3 n1 hq1=>?_));refine iE7 y a.q dx fs _ _ _ (iA5 rfl (s3 _ _ (s2 _ _ hy)) (no _ (by decide +kernel) (by decide +kernel)) ((X9 T).mono) ?_);refine iE4 _ bs rs p (iA4 rfl (hv0.keep λ b o pb hb=>⟨pb,s3 _ _ (s2 _ _ hb)⟩) lr (λ q2 H4 s4 n2 hq2=>?_));have l3:=xP .source rs rs.length;have l4:=xP .drain rs rs.length;refine Vu (SqL.of (s4 _ _ hq1)) (SqL.of hq2) (Za (by rw [zy,zy];show (jv _ _ _).length + (jv _ _ _).length<=_;omega)) λ q3 hq3=>?_;rw [zb6];have s5:Same H (upd H4 q3 (.lst (iv (zQ .source rs ++ zQ .drain rs)))):=((s2.trans s3).trans s4).trans (zf hq3);have ha5:upd H4 q3 (.lst (iv (zQ .source rs ++ zQ .drain rs))) mY=some (.lst (iv (bs.map (·.2)))):=nB (s4 _ _ (s3 _ _ ha)) hq3;have hq5:upd H4 q3 (.lst (iv (zQ .source rs ++ zQ .drain rs))) q3=some (.lst (iv (zQ .source rs ++ zQ .drain rs))):=nk;have nq:q3≠mY:=(nA (s4 _ _ (s3 _ _ ha)) hq3).symm;have hq0:H q3=none:=zB ((s2.trans s3).trans s4) hq3;generalize upd H4 q3 (.lst (iv (zQ .source rs ++ zQ .drain rs)))=H5 at s5 ha5 hq5 ⊢;refine ⟨q3,rfl,.inl ⟨⟨_,SqL.of hq5⟩,?_⟩⟩;let ni:Nat->St->Hp->Prop:=λ i σ H'=>∃ (v2 v3:Aq) (ns:A6),σ=[some (.ref y),some (.ref mY),v2,v3]/\Same H H'/\H' q3=some (.lst (iv (zQ .source rs ++ zQ .drain rs)))/\H' mY=some (.lst (iv ns))/\Pac ns/\ns.length<=bs.length + i/\∀ n,n∈ns ↔ n∈bs.map (·.2)\/∃ (m:Nat) (r:Row),(m:Int)∈(zQ .source rs ++ zQ .drain rs).take i/\rs[m]?=some r/\r.pace=n/\0 < n;refine qS (K:=K) (a:=q3) (xs:=iv (zQ .source rs ++ zQ .drain rs)) ni
  ⟨_,_,bs.map (·.2),rfl,s5,hq5,ha5,?_,by simp,?_⟩ (λ i σ H' _ h=>by obtain ⟨_,_,_,_,_,h,_⟩:=h;exact SqL.of h) ?_ ?_
 ·intro n hn;obtain ⟨b,hb,rfl⟩:=bc.mp hn;have:=bo b hb;exact ⟨by have:=this.2.2.1;omega,by have:=this.2.2.2;omega⟩
 ·intro n;simp
 ·intro i x σ H6 hi m9;refine oE3 m9 λ v2 v3 ns m7=>oA7 m7 λ m8 s6 hq6 ha6 pn ln mem=>?_;clear m7 m9;subst m8;obtain ⟨m,hm,rfl⟩:=Qj hi;have hmm:=ah hm;have hil:=(aa.mp hm).1;have hlen:(zQ .source rs ++ zQ .drain rs).length<=200:=by
   rw [aM];show (jv _ _ _).length + (jv _ _ _).length<=_
   omega
  obtain ⟨j,r,rfl,hr',hw⟩:∃ (j:Nat) (r:Row),m=j/\rs[j]?=some r/\(r.wd=.source\/r.wd=.drain):=by
   rcases aF.mp hmm with z|z
   ·obtain ⟨j,r,q1,q2,q3⟩:=Qb z;exact ⟨j,r,q1,q2,.inl q3⟩
   ·obtain ⟨j,r,q1,q2,q3⟩:=Qb z;exact ⟨j,r,q1,q2,.inr q3⟩
  have hp:=zav (ro r (ah hr')) hw;obtain ⟨kv,hkv,hKn⟩:∃ kv,mW[j]?=some kv/\KnP a H p kv r:=by
   have hj:=(aa.mp hr').1;have e:mW[j]?=some (mW[j]'(by rw [hK.len];exact hj)):=ac _;exact ⟨_,e,hK.g j _ r e hr'⟩
  refine oE6 hKn.inv λ y1 dx1 m1 m2 m3 fs1 m7=>oA9 m7 λ m8 _ _ _ _ g0 _ _ n6=>oA5 n6 λ _ _ _ _ fp=>?_;clear m7 n6;subst m8;walk_at "a";refine ra (s6 _ _ hy) T.gz T.gy e2 (zq (SqL.of (s6 _ _ h2)) (zz hkv) ?_);have NP:NoAttr K (vb a r.wd) "pace":=by
   rcases hw with z|z
   ·rw [z];exact T.gQ
   ·rw [z];exact T.gO
  refine iE5 y1 (vb a r.wd) dx1 fs1 _ (iA6 rfl (s6 _ _ g0) (CT T _) NP (fp hw) ?_);walk_at "a";have tk:(zQ .source rs ++ zQ .drain rs).take (i + 1)=(zQ .source rs ++ zQ .drain rs).take i ++ [(j:Int)]:=by rw [aO,hm];rfl
  refine zJ (λ b=>?_) (λ b=>?_)
  ·walk_at "a";refine ⟨.inl ⟨rfl,_,SqL.of ha6⟩,iE3 mY _ _ (iA5 rfl rfl ha6 (zk (by rw [zy];omega)) ?_)⟩;rw [qP];refine iE3 _ _ (ns ++ [r.pace]) (iA7 rfl (λ b o hb=>by rw [nz (nA hb hacc)];exact s6 b o hb) (by rw [nz nq];exact hq6) nk (pn.snoc b (by omega)) (by simp;omega) (λ n=>?_));rw [aF,mem n,ar,tk];constructor
   ·rintro ((h|⟨m',r',h1,h2,h3,h4⟩)|h)
    ·exact .inl h
    ·exact .inr (iE2 m' r' (iA4 (bF _ h1) h2 h3 h4))
    ·subst h;exact .inr (iE2 j r (iA4 (aX _ (ar.mpr rfl)) hr' rfl b))
   ·rintro (h|⟨m',r',h1,h2,h3,h4⟩)
    ·exact .inl (.inl h)
    ·rcases aF.mp h1 with h1|h1
     ·exact .inl (.inr (iE2 m' r' (iA4 h1 h2 h3 h4)))
     ·have e:m'=j:=by have:=ar.mp h1;omega
      subst e;rw [hr'] at h2;cases h2;exact .inr h3.symm
  ·refine iE3 _ _ ns (iA7 rfl s6 hq6 ha6 pn (by omega) (λ n=>?_));rw [mem n,tk];constructor
   ·rintro (h|⟨m',r',h1,h2,h3,h4⟩)
    ·exact .inl h
    ·exact .inr (iE2 m' r' (iA4 (bF _ h1) h2 h3 h4))
   ·rintro (h|⟨m',r',h1,h2,h3,h4⟩)
    ·exact .inl h
    ·rcases aF.mp h1 with h1|h1
     ·exact .inr (iE2 m' r' (iA4 h1 h2 h3 h4))
     ·have e:m'=j:=by have:=ar.mp h1;omega
      subst e;rw [hr'] at h2;cases h2;omega
 ·intro σ H6 m9;refine oE3 m9 λ v2 v3 ns m7=>oA7 m7 λ m8 s6 hq6 ha6 pn ln mem=>?_;clear m7 m9;subst m8;rw [zy,aQ] at mem;walk_at "a";refine uc (zd3 T).mono (iE2 mY ns (iA4 rfl (SqL.of ha6) pn (λ L hL=>k L ns _ hL (λ n=>?_) s6)));rw [mem n];unfold wg;constructor
  ·rintro (h|⟨m',r',h1,h2,h3,h4⟩)
   ·obtain ⟨b,hb,e⟩:=bc.mp h;exact .inl ⟨b,hb,e⟩
   ·refine .inr ⟨r',iA4 (ah h2) ?_ h3 h4⟩;rcases aF.mp h1 with z|z
    ·refine oE2 (Qb z) λ j r m7=>oA3 m7 λ q1 q2 q3=>?_;clear m7;have e:m'=j:=by omega
     subst e;rw [h2] at q2;cases q2;exact .inl q3
    ·refine oE2 (Qb z) λ j r m7=>oA3 m7 λ q1 q2 q3=>?_;clear m7;have e:m'=j:=by omega
     subst e;rw [h2] at q2;cases q2;exact .inr q3
  ·rintro (⟨b,hb,e⟩|⟨r,hr',hw,h3,h4⟩)
   ·exact .inl (bc.mpr ⟨b,hb,e⟩)
   ·obtain ⟨m',hm'⟩:=bj hr';refine .inr (iE2 m' r (iA4 ?_ hm' h3 h4));rcases hw with hw|hw
    ·exact bF _ (Xi hm' hw)
    ·exact aX _ (Xi hm' hw)
def xo {G:Addr} {ags:Ab} {gss:List A6} {g:A6} (h:NL H p G ags (qi gss)) (e:gss[i]?=some g):∃ b,ags[i]?=some b/\H b=some (.lst (iv g)):=by
 obtain ⟨b,vs,h1,h2,h3⟩:=h.at (i:=i) (xs:=g.map D.int) (by rw [qi,aj,e];rfl);rw [JA h3] at h2;exact ⟨b,h1,h2⟩
noncomputable def kdW (rs:At) (x:Int × Int):Int:=wm ((rs[x.1.toNat]?.map Row.kinds).getD []) x.2
noncomputable def zw (rs:At) (c:Av):List A9:=c.map λ wr=>wr.map (kdW rs)
def zdk (a:Ad):Sp:=λ vs H Q _=>∃ (vw:V) (cb:Addr) (us:Ap) (bs:A1) (rs:At) (c:Av) (p q:A5),vs=[vw,.ref cb]/\Rep H p vw (qE a bs rs)/\H cb=some (.lst us)/\Reps H q us (c.map qf)/\(∀ wr∈c,vB rs wr)/\(∀ r∈rs,r.ok)/\c.length<=6/\∀ t H',Same H H'->H t=none->H' t=some (.tup ((zw rs c).map oiV))->Q (.ref t) H'
theorem zco (T:Txt K mg a):Cal P w K mg base "kinds_in" 2 ["work","cells"] [] (zdk a):=T.lM.cal λ F=>by
 refine F.okx zan ?_ ?_
 ·walk_at "i"
 walk_at "j";refine oE8 h λ vw cb us bs rs c p q m7=>oA8 m7 λ m8 hw hcb rus wk ro c6 k=>?_;clear m7 h;subst m8;have lu:us.length=c.length:=by rw [rus.len,af]
 walk_at "T";refine ⟨_,(zc (zl (vL Qp Qq (za (jK (vars:=["ware"]) (caps:=[0]) (N:=["ware","work"]) (ON:=["work","cells"]) (osc:=ze wM) rfl rfl (by first|decide +kernel|kernel_rfl) rfl rfl (qp (pq 1)) (λ s H fp m5=>(qj 0 (show (["ware","work"]:A8).Nodup from by decide +kernel))) (λ s H fp m5=>qk) (λ s H fp m5=>(ww (zm jo (pq 0) zG (zt _)) zG (ZN hr (za (pq 1) (za (pq 0) zb)))))) zb)))),?_⟩;walk_at "e";walk_at "a";refine ⟨cb,rfl,.inl ⟨⟨_,SqL.of hcb⟩,λ _ _ _ _ mY hacc=>?_⟩⟩;let n9:Nat->St->Hp->Prop:=λ j σ H'=>∃ (v0:Aq),σ=[v0,some vw]/\Same H H'/\H' mY=some (.lst ((zw rs (c.take j)).map oiV));refine qS (K:=K) (a:=cb) (xs:=us) n9 ⟨_,iA3 rfl (zf hacc) nk⟩ (λ i σ H' _ h=>by obtain ⟨_,_,s,_⟩:=h;exact SqL.of (s _ _ hcb)) ?_ ?_
 ·intro j v σ H1 hj m9;refine oE1 m9 λ v0 m7=>oA3 m7 λ m8 s1 ha=>?_;clear m7 m9;subst m8;obtain ⟨d,hd,rv⟩:=rus.at hj;rw [aj,au] at hd;obtain ⟨wr,hwr,rfl⟩:=hd;have hjl:=(aa.mp hwr).1;have e:(zw rs (c.take (j + 1))).map oiV=(zw rs (c.take j)).map oiV ++ [oiV (wr.map (kdW rs))]:=by
   rw [aO,hwr];simp [zw]
  have lk:((zw rs (c.take j)).map oiV).length<=6:=by simp [zw];omega
  have sn:∀ (x:V),Same H (upd H1 mY (.lst ((zw rs (c.take j)).map oiV ++ [x]))):=λ x b o hb=>by rw [nz (nA hb hacc)];exact s1 b o hb
  cases wr with
  | none =>
   have rv:Rep H q v .non:=rv;cases rv;walk_at "a";exact ⟨_,iA3 ha (zk (by omega)) ⟨_,iA3 rfl (sn _) (by rw [nk,e];rfl)⟩⟩
  | some x =>
   obtain ⟨tx,rfl,htx⟩:=vM (b:=x) rv;refine oE2 (wk _ (ah hwr) x.1 x.2 rfl) λ jj r m7=>oA4 m7 λ e1 hr' hs _=>?_;clear m7;have kp:0 < r.kinds.length:=by
    have ok:=ro r (ah hr');unfold Row.ok at ok;rw [hs] at ok;have:=ok.2.2.2.2.1;omega
   have hw1:Rep H1 p vw (qE a bs rs):=hw.keep λ b o hb ho=>⟨hb,s1 _ _ ho⟩;have rx:Rep H1 q (.ref tx) (.tup [.int jj,.int x.2]):=by
    have:=rv.keep (H':=H1) (q:=q) λ b o hb ho=>⟨hb,s1 _ _ ho⟩;have e2:qf (some x)=.tup [.int x.1,.int x.2]:=rfl;rw [e2,e1] at this;exact this
   walk_at "a";refine uc (WO T).mono (iE5 vw (.ref tx) bs rs p (iE4 q jj x.2 r (iA7 rfl hw1 rx hr' hs kp ?_)));refine ⟨_,iA3 ha (zk (by omega)) ⟨_,iA3 rfl (sn _) ?_⟩⟩;rw [nk,e];show _=some (HO.lst (_ ++ [V.int (kdW rs x)]))
   unfold kdW;rw [e1,aE,hr']
   rfl
 intro σ H1 m9;refine oE1 m9 λ v0 m7=>oA3 m7 λ m8 s1 ha=>?_;clear m7 m9;subst m8;rw [lu,aQ] at ha;refine iE2 mY _ ⟨rfl,.inl ⟨SqL.of ha,λ t ht=>?_⟩⟩;exact k t _ (s1.trans (zf ht)) (zB s1 ht) nk
def QW (bs:A1) (rs:At) (L:Int):Prop:=∃ ns,IsLcm ns L/\∀ n,n∈ns ↔ wg bs rs n
def zfF {rs:At} {L L':Int} (h:QW bs rs L) (h':QW bs rs L'):L=L':=by
 obtain ⟨ns,i,m⟩:=h;obtain ⟨ns',i',m'⟩:=h';have d:L ∣ L':=i.least _ λ n hn=>i'.dv n ((m' n).mpr ((m n).mp hn));have d':L' ∣ L:=i'.least _ λ n hn=>i.dv n ((m n).mpr ((m' n).mp hn));exact Int.dvd_antisymm (cV i.pos) (cV i'.pos) d d'
open Classical in
noncomputable def vX (bs:A1) (rs:At):Int:=if h:∃ L,QW bs rs L then Classical.choose h else 1
def zbm {rs:At} (h:QW bs rs L):L=vX bs rs:=by
 unfold vX;rw [dif_pos ⟨L,h⟩];exact zfF h (Classical.choose_spec (⟨L,h⟩:∃ L,QW bs rs L))
noncomputable def xm (rs:At) (st:PSt) (j:Int):Int:=match rs[j.toNat]? with
 | some r=>(st.gone.getD j.toNat []).headD 0 % (r.kinds.length:Int)
 | none=>0
noncomputable def JO (bs:A1) (rs:At) (st:PSt):ShK:=(some (st.turn % vX bs rs),st.cells.map (zw rs),st.sides.map some,(zQ .source rs).map λ j=>some (xm rs st j))
def zae (a:Ad):Sp:=λ vs H Q _=>∃ (vw:V) (y:Addr) (n:SN) (j:Nat) (bs:A1) (rs:At) (st:PSt) (r:Row) (p:A5),vs=[vw,.ref y,.int j]/\Rep H p vw (qE a bs rs)/\StO a H y n st/\rs[j]?=some r/\r.wd=.source/\r.ok/\stWf bs rs st/\Q (.int (xm rs st j)) H
def VV (T:Txt K mg a):Cal P w K mg base "kind_place" 1 ["work","state","number"] [] (zae a):=T.kK.cal λ F=>by
 refine F.okx XY ?_ ?_
 ·walk_at "i"
 walk_at "j";refine oE5 h λ vw y n j bs m7=>oE4 m7 λ rs st r p m8=>oA8 m8 λ n6 hv so hr' hs ok wf k=>?_;clear m7 m8 h;subst n6;refine oE7 (qY hv) λ yw dx fs l1 l2 bvs mW m7=>oA9 m7 λ m8 hy e1 e2 h1 h2 hB hK no=>?_;clear m7;subst m8;obtain ⟨kv,hkv,hKn⟩:=VE hK hr';refine oE6 hKn.inv λ y1 dx1 m1 m2 m3 fs1 m7=>oA9 m7 λ m8 _ _ _ _ g0 _ _ n6=>oA5 n6 λ _ _ _ g3 _=>?_;clear m7 n6;subst m8;obtain ⟨g3a,g3b⟩:=g3 hs;have kp:0 < r.kinds.length:=by
  unfold Row.ok at ok;rw [hs] at ok;have:=ok.2.2.2.2.1;omega
 have hj:=(aa.mp hr').1;obtain ⟨g,hg⟩:∃ g,st.gone[j]?=some g:=⟨_,ac (by rw [wf.go.1];exact hj)⟩;have q1:=(wf.go.2 j r g hr' hg).1;have cp:=wC ok;obtain ⟨gh,gs,rfl⟩:=cO (eU (by omega:0 < g.length));obtain ⟨bG,hbG,hgG⟩:=xo so.hg hg;have hmap:(n.ags.map V.ref)[j]?=some (.ref bG):=by rw [aj,hbG];rfl
 have ek:xm rs st j=gh % (r.kinds.length:Int):=by
  unfold xm;rw [aE,hr',ae,hg]
  rfl
 rw [ek] at k;walk_at "T";refine ⟨_,(zc (zl (zr qu (zn (zn (zj (pq 1) rfl) (pq 2)) zd) (z6 zY zX (za (zj (zn (zj (pq 0) rfl) (pq 2)) rfl) zb))))),?_⟩;walk_at "a";refine ra so.hy T.gq T.gx rfl (zq (SqL.of so.hg.out) (zz hmap) (zq (SqL.of hgG) at0 ?_));walk_at "a";refine ra hy T.gz T.gy e2 (zq (SqL.of h2) (zz hkv) ?_);refine iE5 y1 (vb a r.wd) dx1 fs1 _ (iA6 rfl g0 (CT T _) (by rw [hs];exact T.gI) g3a ?_);refine ⟨_,.inl ⟨_,SqL.of g3b,rfl⟩,?_⟩;rw [zy];walk_at "a";exact ⟨by omega,k⟩
theorem Vt {H:Hp} {p:A5}:∀ c:List A9,Reps H p (c.map oiV) (c.map oiD)
 | []=>.nil
 | none :: c=>.cons .non (Vt c)
 | some n :: c=>.cons .int (Vt c)
def zbN {t:Addr} {c:List A9} (h:H t=some (.tup (c.map oiV))):Rep H (zU H) (.ref t) (.tup (c.map oiD)):=(Vt c).mkT ⟨_,h⟩ h
def JF {H H':Hp} {d:D} (r:Rep H (zU H) v d) (s:Same H H'):Rep H' (zU H') v d:=r.keep λ b o ⟨xs,hx⟩ hb=>⟨⟨xs,s _ _ hx⟩,s _ _ hb⟩
def Wi {H H':Hp} {ds:List D} (r:Reps H (zU H) vs ds) (s:Same H H'):Reps H' (zU H') vs ds:=r.keep λ b o ⟨xs,hx⟩ hb=>⟨⟨xs,s _ _ hx⟩,s _ _ hb⟩
def zeU {rs:At} {m:Int} (h:m∈zQ wd rs):∃ (j:Nat) (r:Row),m=j/\rs[j]?=some r/\r.wd=wd:=by
 unfold zQ jv at h;obtain ⟨j,hj,rfl⟩:=bc.mp h;obtain ⟨h1,h2⟩:=cn.mp hj;have h2:=bO h2;obtain ⟨r,hr,e⟩:=au.mp h2;exact iE2 j r (iA3 rfl hr e)
def zfN (a:Ad):Sp:=λ vs H Q _=>∃ (vw:V) (y:Addr) (n:SN) (bs:A1) (rs:At) (st:PSt) (p:A5),vs=[vw,.ref y]/\Rep H p vw (qE a bs rs)/\StO a H y n st/\stWf bs rs st/\bs.length<=24/\rs.length<=24/\(∀ b∈bs,zC b.1 b.2)/\(∀ r∈rs,r.ok)/\∀ t H',Same H H'->Rep H' (zU H') (.ref t) (shD (JO bs rs st))->Q (.ref t) H'
def zcl (T:Txt K mg a):Cal P w K mg base "shape_of" 4 ["work","state"] [] (zfN a):=T.lO.cal λ F=>by
 refine F.okx zak ?_ ?_
 ·walk_at "i"
 walk_at "j";refine oE7 h λ vw y n bs rs st p m7=>oA9 m7 λ m8 hv so wf b24 r24 bo ro k=>?_;clear m7 h;subst m8;refine oE7 (qY hv) λ yw dx fs l1 l2 bvs mW m7=>oA9 m7 λ m8 hy e1 e2 h1 h2 hB hK no=>?_;clear m7;subst m8;walk_at "T";refine ⟨_,(zg (zo 2 zak.nd (zr qu (zj (pq 1) rfl) (Jx ⟨rfl,rfl,rfl⟩ hr (pq 0))))  (zg (zo 3 zak.nd (vL Qp Qq (za (jK (vars:=["cells"]) (caps:=[0]) (N:=["cells","work"]) (ON:=["work","state","beat_place","kinds","places"]) (osc:=ze xB) rfl rfl (by first|decide +kernel|kernel_rfl) rfl rfl (qp (zj (pq 1) rfl)) (λ s H fp m5=>(qj 0 (show (["cells","work"]:A8).Nodup from by decide +kernel))) (λ s H fp m5=>qk) (λ s H fp m5=>(ZN hr (za (pq 1) (za (pq 0) zb))))) zb)))  (zg (zo 4 zak.nd (vL Qp Qq (za (jK (vars:=["number"]) (caps:=[0,1]) (N:=["number","work","state"]) (ON:=["work","state","beat_place","kinds","places"]) (osc:=ze xB) rfl rfl (by first|decide +kernel|kernel_rfl) rfl rfl (qp (Jx ⟨rfl,rfl,rfl⟩ hr (pq 0))) (λ s H fp m5=>(qj 0 (show (["number","work","state"]:A8).Nodup from by decide +kernel))) (λ s H fp m5=>qk) (λ s H fp m5=>(ZN hr (za (pq 1) (za (pq 2) (za (pq 0) zb)))))) zb)))  (zc (zl (qL (za (pq 2) (za (pq 3) (za (vL Qp Qq (za (zj (pq 1) rfl) zb)) (za (pq 4) zb)))))))))),?_⟩;walk_at "a";refine ra so.hy T.gq T.gu rfl ?_;refine iE7 yw a.q dx fs _ _ _ (iA5 rfl hy (no _ (by decide +kernel) (by decide +kernel)) ((zaR T).mono) ?_);refine iE4 (.ref yw) bs rs p (iA7 rfl hv (by omega) (by omega) bo ro (λ L ns H1 il im s1=>?_));have lp:=il.pos;have eL:=zbm ⟨ns,il,im⟩;walk_at "a";rw [eL];clear il im lp eL;have so1:=so.same s1;have hv1:Rep H1 p (.ref yw) (qE a bs rs):=hv.keep λ b o hb ho=>⟨hb,s1 _ _ ho⟩;have lc:n.acs.length=st.cells.length:=by rw [so.hc.len,zW,af]
 have lcb:st.cells.length=bs.length:=wf.co.1;walk_at "e";walk_at "a";refine ra so1.hy T.gq T.gw rfl ⟨n.lc,rfl,.inl ⟨⟨_,SqL.of so1.hc.out⟩,λ _ _ _ _ mY hacc=>?_⟩⟩;let n9:Nat->St->Hp->Prop:=λ i σ H'=>∃ (v0:Aq) (us:Ap),σ=[v0,some (.ref yw)]/\Same H1 H'/\H' mY=some (.lst us)/\us.length=i/\Reps H' (zU H') us ((st.cells.take i).map λ c=>.tup ((zw rs c).map oiD));refine qS (K:=K) (a:=n.lc) (xs:=n.acs.map V.ref) n9 (iE2 _ ([]) (iA5 rfl (zf hacc) nk rfl (.nil))) (λ i σ H' _ h=>by obtain ⟨_,_,_,s,_⟩:=h;exact SqL.of (s _ _ so1.hc.out)) ?_ ?_
 ·intro i x σ H2 hi m9;refine oE2 m9 λ v0 us m7=>oA5 m7 λ m8 s2 ha lu ru=>?_;clear m7 m9;subst m8;rw [aj,au] at hi;obtain ⟨cb,hcb,rfl⟩:=hi;have hil:i < st.cells.length:=by rw [<- lc];exact (aa.mp hcb).1
  obtain ⟨c,ec⟩:∃ c,st.cells[i]?=some c:=⟨_,ac hil⟩;obtain ⟨vs,hvs,rvs⟩:=so1.hc.g i cb _ hcb (show (zW st.cells)[i]?=some (c.map qf) by rw [zW,aj,ec];rfl);obtain ⟨b,hb⟩:∃ b,bs[i]?=some b:=⟨_,ac (by rw [<- wf.co.1];exact hil)⟩;obtain ⟨lc6,wk⟩:=wf.co.2 i b c hb ec;have bk:=(bo b (ah hb)).2.1;walk_at "a";refine uc (zco T).mono (iE8 (.ref yw) cb vs bs rs c p _ (iA8 rfl (hv1.keep (λ b o hb ho=>⟨hb,s2 _ _ ho⟩)) (s2 _ _ hvs) (rvs.keep (λ b o hb ho=>⟨hb,s2 _ _ ho⟩)) wk ro (by omega) (λ t H3 s3 nt ht=>?_)));have nta:∀ b,zU H3 b->b≠mY:=λ b ⟨xs,hx⟩ z=>by rw [z,s3 _ _ ha] at hx;cases hx
  refine ⟨_,iA3 (s3 _ _ ha) (zk (by omega)) (iE2 _ (us ++ [.ref t]) (iA5 rfl (λ b o hb=>by rw [nz (nA hb hacc)];exact s3 _ _ (s2 b o hb)) nk (by simp [lu]) ?_))⟩;rw [aO,ec,bd];refine ((Wi ru s3).append (.one (zbN ht))).keep λ b o tb hb=>?_;have ne:=nta b tb;obtain ⟨xs,hx⟩:=tb;exact ⟨⟨xs,by rw [nz ne];exact hx⟩,by rw [nz ne];exact hb⟩
 intro σ H2 m9;refine oE2 m9 λ v0 us m7=>oA5 m7 λ m8 s2 ha lu ru=>?_;clear m7 m9;subst m8;rw [af,lc,aQ] at ru;refine iE2 mY _ ⟨rfl,.inl ⟨SqL.of ha,λ t1 ht1=>?_⟩⟩;have s3:=zf (o:=.tup us) ht1;have ru3:=Wi ru s3;have hT1:upd H2 t1 (.tup us) t1=some (.tup us):=nk;have s13:=s2.trans s3;generalize upd H2 t1 (.tup us)=H3 at s3 ru3 hT1 s13 ⊢;have r1:Rep H3 (zU H3) (.ref t1) (.tup ((st.cells.map (zw rs)).map λ r=>.tup (r.map oiD))):=by
  rw [eM];exact ru3.mkT ⟨_,hT1⟩ hT1
 clear ru ru3 ha hT1 s2 s3;have so3:=so1.same s13;have hv3:Rep H3 p (.ref yw) (qE a bs rs):=hv1.keep λ b o hb ho=>⟨hb,s13 _ _ ho⟩;walk_at "a";refine iE7 yw a.q dx fs _ _ _ (iA5 rfl (s13 _ _ (s1 _ _ hy)) (no _ (by decide +kernel) (by decide +kernel)) ((vP T).mono) ?_);refine iE4 (.ref yw) bs rs p (iA4 rfl hv3 (by omega) (λ q H4 s4 nq hq=>?_));have ln:=xP .source rs rs.length;have so4:=so3.same s4;have hv4:Rep H4 p (.ref yw) (qE a bs rs):=hv3.keep λ b o hb ho=>⟨hb,s4 _ _ ho⟩;refine ⟨q,rfl,.inl ⟨⟨_,SqL.of hq⟩,λ _ _ _ _ ac2 hac2=>?_⟩⟩;let ni:Nat->St->Hp->Prop:=λ i σ H'=>∃ (v0:Aq),σ=[v0,some (.ref yw),some (.ref y)]/\Same H4 H'/\H' ac2=some (.lst ((((zQ .source rs).take i).map λ j=>some (xm rs st j)).map oiV));refine qS (K:=K) (a:=q) (xs:=iv (zQ .source rs)) ni ⟨_,iA3 rfl (zf hac2) nk⟩ (λ i σ H' _ h=>by obtain ⟨_,_,s,_⟩:=h;exact SqL.of (s _ _ hq)) ?_ ?_
 ·intro i x σ H5 hi m9;refine oE1 m9 λ v0 m7=>oA3 m7 λ m8 s5 ha=>?_;clear m7 m9;subst m8;obtain ⟨m,hm,rfl⟩:=Qj hi;have hil:=(aa.mp hm).1;refine oE2 (zeU (ah hm)) λ jj r m7=>oA3 m7 λ m8 hr' hs=>?_;clear m7;subst m8;have ln:(zQ .source rs).length<=rs.length:=ln;walk_at "a";refine uc (VV T).mono (iE5 (.ref yw) y n jj bs (iE4 rs st r p (iA8 rfl (hv4.keep (λ b o hb ho=>⟨hb,s5 _ _ ho⟩)) (so4.same s5) hr' hs (ro r (ah hr')) wf ?_)));refine ⟨_,iA3 ha (zk (by rw [af,af,aR];omega)) ⟨_,iA3 rfl (λ b o hb=>by rw [nz (nA hb hac2)];exact s5 b o hb) ?_⟩⟩;rw [nk,aO,hm];simp [oiV]
 intro σ H5 m9;refine oE1 m9 λ v0 m7=>oA3 m7 λ m8 s5 ha=>?_;clear m7 m9;subst m8;rw [zy,aQ] at ha;refine iE2 ac2 _ ⟨rfl,.inl ⟨SqL.of ha,λ t2 ht2=>?_⟩⟩;have s6:=zf (o:=.tup (((zQ .source rs).map λ j=>some (xm rs st j)).map oiV)) ht2;have hT2:upd H5 t2 (.tup (((zQ .source rs).map λ j=>some (xm rs st j)).map oiV)) t2=some (.tup (((zQ .source rs).map λ j=>some (xm rs st j)).map oiV)):=nk;have s36:=(s4.trans s5).trans s6;generalize upd H5 t2 (.tup (((zQ .source rs).map λ j=>some (xm rs st j)).map oiV))=H6 at s36 hT2 ⊢;have so6:=so3.same s36;walk_at "a";refine ra so6.hy T.gq T.gF rfl (iE2 n.ls _ ⟨rfl,.inl ⟨SqL.of so6.hs,λ t3 ht3=>?_⟩⟩);intro t4 ht4;have s7:=zf (o:=.tup (iv st.sides)) ht3;have hT3:upd H6 t3 (.tup (iv st.sides)) t3=some (.tup ((st.sides.map some).map oiV)):=by rw [nk,eM];rfl
 generalize upd H6 t3 (.tup (iv st.sides))=H7 at s7 hT3 ht4 ⊢;have s8:=zf (o:=.tup [.int (st.turn % vX bs rs),.ref t1,.ref t3,.ref t2]) ht4;have hT4:upd H7 t4 (.tup [.int (st.turn % vX bs rs),.ref t1,.ref t3,.ref t2]) t4=some (.tup [.int (st.turn % vX bs rs),.ref t1,.ref t3,.ref t2]):=nk;generalize upd H7 t4 (.tup [.int (st.turn % vX bs rs),.ref t1,.ref t3,.ref t2])=H8 at s8 hT4 ⊢;refine k t4 H8 ((s1.trans s13).trans (s36.trans (s7.trans s8))) ?_;exact Reps.mkT (vs:=[.int (st.turn % vX bs rs),.ref t1,.ref t3,.ref t2]) (.cons .int (.cons (JF r1 (s36.trans (s7.trans s8))) (.cons (JF (zbN hT3) s8) (.cons (JF (zbN hT2) (s7.trans s8)) .nil)))) ⟨_,hT4⟩ hT4
noncomputable abbrev qJ (bs:A1) (rs:At) (i:Nat):ShK:=JO bs rs (zi bs rs i)
structure RoundAt (bs:A1) (rs:At) (lim i j:Nat):Prop where
 lt:i < j
 le:j<=lim
 eq:qJ bs rs i=qJ bs rs j
 fst:∀ x y,x < y->y < j->qJ bs rs x≠qJ bs rs y
def Zm (bs:A1) (rs:At) (lim:Nat):Prop:=∀ x y,x < y->y<=lim->qJ bs rs x≠qJ bs rs y
def RoundAt.one {rs:At} {lim lim' i j i' j':Nat} (h:RoundAt bs rs lim i j) (h':RoundAt bs rs lim' i' j'):i=i'/\j=j':=by
 have ej:j=j':=by
  rcases d8 j j' with z|z|z
  ·exact absurd h.eq (h'.fst i j h.lt z)
  ·exact z
  ·exact absurd h'.eq (h.fst i' j' h'.lt z)
 subst ej;refine ⟨?_,rfl⟩;rcases d8 i i' with z|z|z
 ·exact absurd (h.eq.trans h'.eq.symm) (h.fst i i' z h'.lt)
 ·exact z
 ·exact absurd (h'.eq.trans h.eq.symm) (h.fst i' i z h.lt)
def RoundAt.no {rs:At} {lim i j:Nat} (h:RoundAt bs rs lim i j):¬ Zm bs rs lim:=λ z=>z i j h.lt h.le h.eq
def Nxt (H H':Hp):Prop:=∀ b u,H b=some u->(∀ φ,u≠.ext φ)->H' b=some u
def Same.nxt {H H':Hp} (s:Same H H'):Nxt H H':=λ b u hb _=>s b u hb
def Nxt.trans {H H' H2:Hp} (a:Nxt H H') (b:Nxt H' H2):Nxt H H2:=λ c u hc n=>b c u (a c u hc n) n
def zgj {D:Addr} {φ:Heap->Prop} (h:H D=some (.ext φ)):Nxt H (upd H D o):=λ b u hb n=>by
 rw [nz (λ z=>by rw [z,h] at hb;cases hb;exact n φ rfl)];exact hb
def zeW {H H':Hp} {G:Addr} {as:Ab} {xss:List (List D)} (h:NL H (zU H) G as xss) (s:Nxt H H'):NL H' (zU H') G as xss:=by
 refine h.tup λ b o c hb=>s b o hb λ φ z=>?_;subst z;rcases c with c|c|⟨xs,c⟩
 ·rw [c,h.out] at hb;cases hb
 ·obtain ⟨vs,hv⟩:=h.isl (aB _ c);rw [hv] at hb;cases hb
 ·rw [c] at hb;cases hb
def StO.nxt {H H':Hp} {y:Addr} {n:SN} {st:PSt} (h:StO a H y n st) (s:Nxt H H'):StO a H' y n st:=⟨s _ _ h.hy (λ φ z=>by cases z),zeW h.hc s,s _ _ h.hs (λ φ z=>by cases z),zeW h.hg s,h.nd⟩
def zfM {H H':Hp} {d:D} (r:Rep H (zU H) v d) (s:Nxt H H'):Rep H' (zU H') v d:=r.keep λ b o ⟨xs,hx⟩ hb=>by
 have e:=s b _ hx (λ φ z=>by cases z);rw [hx] at hb;cases hb;exact ⟨⟨xs,e⟩,e⟩
structure SD (a:Ad) (H:Hp) (bs:A1) (rs:At) (xs:List (ShK × Addr × Addr)) (t:Nat):Prop where
 len:xs.length=t
 at':∀ (i:Nat) x,xs[i]?=some x->x.1=qJ bs rs i/\Rep H (zU H) (.ref x.2.1) (shD x.1)/\∃ n,StO a H x.2.2 n (zi bs rs i)
 fst:∀ x y,x < y->y < t->qJ bs rs x≠qJ bs rs y
def SD.nxt {H H':Hp} {rs:At} {xs:List (ShK × Addr × Addr)} {t:Nat} (h:SD a H bs rs xs t) (s:Nxt H H'):SD a H' bs rs xs t:=⟨h.len,λ i x e=>by
 refine oA3 (h.at' i x e) λ e1 r m7=>oE1 m7 λ n so=>?_;clear m7;exact (iA3 e1 (zfM r s) ⟨n,so.nxt s⟩),h.fst⟩
def SD.keys {rs:At} {xs:List (ShK × Addr × Addr)} {t:Nat} (h:SD a H bs rs xs t):keysOk H xs:=λ x hx=>by
 obtain ⟨i,hi⟩:=bj hx;exact ⟨_,(h.at' i x hi).2.1⟩
def SD.look {rs:At} {xs:List (ShK × Addr × Addr)} {t:Nat} {k:ShK} {y:Addr} (h:SD a H bs rs xs t) (e:xZ xs k=some y):∃ i n,i < t/\qJ bs rs i=k/\StO a H y n (zi bs rs i):=by
 unfold xZ at e;obtain ⟨x,hx,rfl⟩:=au.mp e;have hk:x.1=k:=by
  have:=List.find?_some hx;simpa using this
 obtain ⟨i,hi⟩:=bj (List.mem_of_find?_eq_some hx);refine oA3 (h.at' i x hi) λ e1 _ m7=>oE1 m7 λ n so=>?_;clear m7;exact iE2 i n (iA3 (by rw [<- h.len];exact (aa.mp hi).1) (e1.symm.trans hk) so)
def SD.new {rs:At} {xs:List (ShK × Addr × Addr)} {t:Nat} {k:ShK} (h:SD a H bs rs xs t) (e:xZ xs k=none):∀ i,i < t->qJ bs rs i≠k:=λ i hi z=>by
 obtain ⟨x,hx⟩:∃ x,xs[i]?=some x:=⟨_,ac (by rw [h.len];exact hi)⟩;unfold xZ at e;rw [Option.map_eq_none_iff,List.find?_eq_none] at e;exact e x (ah hx) (bp ((h.at' i x hx).1.trans z))
def SD.add {rs:At} {xs:List (ShK × Addr × Addr)} {t:Nat} {b y:Addr} {n:SN} (h:SD a H bs rs xs t) (e:xZ xs (qJ bs rs t)=none) (r:Rep H (zU H) (.ref b) (shD (qJ bs rs t))) (so:StO a H y n (zi bs rs t)):SD a H bs rs (xs ++ [(qJ bs rs t,b,y)]) (t + 1):=by
 refine ⟨by simp [h.len],λ i x hx=>?_,λ u v huv hv=>?_⟩
 ·by_cases hi:i < xs.length
  ·rw [aT hi] at hx;exact h.at' i x hx
  ·rw [aJ (by omega)] at hx;have hz:=(aa.mp hx).1;have:i=t:=by simp at hz;have:=h.len;omega
   subst this;rw [h.len,fv] at hx;cases hx;exact iA3 rfl r ⟨n,so⟩
 ·rcases Nat.lt_or_ge v t with z|z
  ·exact h.fst u v huv z
  ·have:v=t:=by omega
   subst this;exact h.new e u huv
def zab (a:Ad):Sp:=λ vs H Q E=>∃ (vw:V) (lim:Nat) (bs:A1) (rs:At),vs=[vw,.int lim]/\Rep H (Off []) vw (qE a bs rs)/\zS bs rs/\(∀ b∈bs,zC b.1 b.2)/\(∀ r∈rs,r.ok)/\lim<=1000 /\
 (∀ i j t y0 y1 n0 n1 H',RoundAt bs rs lim i j->Same H H'->H' t=some (.tup [.ref y0,.ref y1])->StO a H' y0 n0 (zi bs rs i)->StO a H' y1 n1 (zi bs rs j)->Q (.ref t) H') /\
 (Zm bs rs lim->∀ H',Same H H'->E (.ref a.g) none H')
theorem vh (T:Txt K mg a):Cal P w K mg base "round_ends" 8 ["work","limit"] [] (zab a):=T.kR.cal λ F=>by
 refine F.okx XW ?_ ?_
 ·walk_at "i"
 walk_at "j";refine oE4 h λ vw lim bs rs m7=>oA8 m7 λ m8 hv mZ bo ro l1000 kQ kE=>?_;clear m7 h;subst m8;have b24:=mZ.1.1.2;have r24:=mZ.1.2.2;walk_at "T";refine ⟨_,(zh (zo 2 XW.nd (zx ⟨rfl,rfl,rfl⟩ hr (za (pq 0) zb)))  (zh (zo 3 XW.nd zga)  (qg (qo qC rfl (jP (za (zr zN (pq 1) zd) zb)) (qj 4 XW.nd)  (zh (zo 5 XW.nd (zx ⟨rfl,rfl,rfl⟩ hr (za (pq 0) (za (pq 2) zb))))  (zh (zD (zeI (zho hr.units1 (pq 5) (pq 3)) (by with_unfolding_all rfl))  (zc (zl (qL (za (zgb hr.units1 (pq 3) (pq 5) (λ _ _=>rfl)) (za (pq 2) zb)))))  zp)  (zh (zf7 hr.units1 (pq 3) (pq 5) (pq 2) rfl)  (zc (zo 2 XW.nd (zx ⟨rfl,rfl,rfl⟩ hr (za (pq 0) (za (pq 2) zb)))))))))  (zc (qR ⟨rfl,rfl,rfl⟩ rfl (za ju zb)))))),?_⟩;walk_at "a";refine uc (Zx T).mono (iE4 vw bs rs _ (iA7 rfl hv b24 r24 bo ro (λ v' H1 s1 sn=>?_)));refine oE2 sn λ y nn m7=>oA5 m7 λ m8 so _ _ _=>?_;clear m7 sn;subst m8;walk_at "a";intro D hD;have sD:=zf (o:=sdO P w D []) hD;have nD:H D=none:=zB s1 hD;have s2:=s1.trans sD;have so2:=so.same sD;have hD2:upd H1 D (sdO P w D []) D=some (sdO P w D []):=nk;generalize upd H1 D (sdO P w D [])=H2 at s2 so2 hD2 ⊢;clear so s1 sD hD;walk_at "a";let n9:St->Hp->Prop:=λ σ' H'=>∃ (v2 v4 v5:Aq),σ'=[some vw,some (.int lim),v2,some (.ref D),v4,v5]/\Same H H'/\Zm bs rs lim;refine cut n9 ?_ ?_
 ·walk_at "d";walk_at "a";refine ⟨by omega,by omega,?_⟩;refine wz (n:=((lim:Int) + 1).toNat) (λ t σ H'=>∃ (v4 v5:Aq) (y:Addr) (n:SN) (xs:List (ShK × Addr × Addr)),σ=[some vw,some (.int lim),some (.ref y),some (.ref D),v4,v5]/\Same H H'/\H' D=some (sdO P w D xs)/\StO a H' y n (zi bs rs t)/\SD a H' bs rs xs t) (iE5 _ _ y nn ([]) (iA5 rfl s2 hD2 so2 ⟨rfl,λ i x e=>by simp at e,λ x y _ z=>absurd z (Nat.not_lt_zero _)⟩)) ?_ ?_
  ·clear so2 hD2 s2;intro t σ H3 ht m9;refine oE5 m9 λ v4 v5 y n xs m7=>oA5 m7 λ m8 s3 hD3 so3 sd3=>?_;clear m7 m9;subst m8;have ht':t<=lim:=by omega
   have lx:=sd3.len;walk_at "a";refine uc (zcl T).mono (iE7 vw y n bs rs (zi bs rs t) _ (iA9 rfl (hv.same s3) so3 (zH mZ bo ro t) b24 r24 bo ro (λ b H4 s4 r4=>?_)));have hD4:=s4 _ _ hD3;have so4:=so3.same s4;have sd4:=sd3.nxt (Same.nxt s4);have s04:=s3.trans s4;clear hD3 so3 sd3 s3 s4;walk_at "a";refine iE5 D b xs _ _ (iA6 rfl rfl hD4 sd4.keys r4 ?_);cases el:xZ xs (qJ bs rs t) with
   | some y0 =>
    refine oE2 (sd4.look el) λ i n0 m7=>oA3 m7 λ hi ei so0=>?_;clear m7;walk_at "a";refine iE6 D b xs _ _ y0 (iA7 rfl rfl hD4 sd4.keys r4 el (λ q hq=>?_));have sq:=zf (o:=.tup [.ref y0,.ref y]) hq;exact kQ i t q y0 y n0 n _ ⟨hi,ht',ei,sd4.fst⟩ (s04.trans sq) nk (so0.same sq) (so4.same sq)
   | none =>
    walk_at "a";refine iE6 D b xs _ _ y (iA9 rfl rfl rfl hD4 sd4.keys r4 el (zk (by omega)) ?_);have nx:Nxt H4 (upd H4 D (sdO P w D (xs ++ [(qJ bs rs t,b,y)]))):=zgj hD4;have so5:=so4.nxt nx;have sd5:=(sd4.add el r4 so4).nxt nx;have hD5:upd H4 D (sdO P w D (xs ++ [(qJ bs rs t,b,y)])) D=some (sdO P w D (xs ++ [(qJ bs rs t,b,y)])):=nk;have s5:Same H (upd H4 D (sdO P w D (xs ++ [(qJ bs rs t,b,y)]))):=λ c u hc=>by rw [nz (nA hc nD)];exact s04 c u hc
    generalize upd H4 D (sdO P w D (xs ++ [(qJ bs rs t,b,y)]))=H5 at so5 sd5 hD5 s5 ⊢;walk_at "a";refine uc (zcn T).mono (iE6 vw (.ref y) (zi bs rs t) bs rs _ (iA8 rfl (hv.same s5) so5.rep (zH mZ bo ro t) mZ bo ro (λ v' H6 s6 sn=>?_)));refine oE2 sn λ y2 n2 m7=>oA3 m7 λ m8 so6 _=>?_;clear m7 sn;subst m8;exact iE5 _ _ y2 n2 _ (iA5 rfl (s5.trans s6) (s6 _ _ hD5) so6 (sd5.nxt (Same.nxt s6)))
  ·intro σ H3 m9;refine oE5 m9 λ v4 v5 y n xs m7=>oA5 m7 λ m8 s3 hD3 so3 sd3=>?_;clear m7 m9;subst m8;exact iE3 _ _ _ (iA3 rfl s3 (λ x y hxy hy=>sd3.fst x y hxy (by omega)))
 intro σ' H3 m9;refine oE3 m9 λ v2 v4 v5 m7=>oA3 m7 λ m8 s3 nr=>?_;clear m7 m9;subst m8;walk_at "a";exact ⟨a.g,iA3 T.kX T.mj (kE nr H3 s3)⟩
noncomputable def jI (old new:A6):List Int:=(List.range old.length).map λ p=>new.getD p 0 - old.getD p 0
noncomputable def jz (gs0 gs1:List A6):List A6:=List.zipWith jI gs0 gs1
def zdV {gs0 gs1:List A6} {g0 g1:A6} (h0:gs0[i]?=some g0) (h1:gs1[i]?=some g1):jz (gs0.take (i + 1)) (gs1.take (i + 1))=jz (gs0.take i) (gs1.take i) ++ [jI g0 g1]:=by
 unfold jz;rw [aO,aO,h0,h1];have l0:=(aa.mp h0).1;have l1:=(aa.mp h1).1;rw [List.zipWith_append (by rw [aR,aR];omega)]
 rfl
def zev (a:Ad):Sp:=λ vs H Q _=>∃ (y0 y1:Addr) (n0 n1:SN) (s0 s1:PSt),vs=[.ref y0,.ref y1]/\StO a H y0 n0 s0/\StO a H y1 n1 s1/\s0.gone.length=s1.gone.length/\s0.gone.length<=24/\(∀ (i:Nat) g0 g1,s0.gone[i]?=some g0->s1.gone[i]?=some g1->g0.length=g1.length/\g0.length<=4) /\
 ∀ l as H',Same H H'->NL H' (zU H') l as (qi (jz s0.gone s1.gone))->(∀ b∈l :: as,H b=none)->Q (.ref l) H'
def Q6 (T:Txt K mg a):Cal P w K mg base "growth_of" 1 ["before","after"] [] (zev a):=T.lB.cal λ F=>by
 refine F.okx Vm ?_ ?_
 ·walk_at "i"
 walk_at "j";refine oE6 h λ y0 y1 n0 n1 s0 s1 m7=>oA7 m7 λ m8 so0 so1 le l24 lg k=>?_;clear m7 h;subst m8;have la0:n0.ags.length=s0.gone.length:=by rw [so0.hg.len,qi,af]
 have la1:n1.ags.length=s0.gone.length:=by rw [so1.hg.len,qi,af,le]
 walk_at "T";refine ⟨_,(zg (zo 2 Vm.nd (zI zb))  (zg (qo qC rfl (zeK (za (zj (pq 0) rfl) (za (zj (pq 1) rfl) zb))) (xL (n:=2) rfl (z9 (Ze (i:=3) Vm.nd rfl (Or.inr rfl)) (z9 (Ze (i:=4) Vm.nd rfl (Or.inr rfl)) jF)))  (zc (zu (qB ao ay ax zL (pq 2) (za (jK (vars:=["place"]) (caps:=[4,3]) (N:=["place","new","old"]) (ON:=["before","after","growth","old","new"]) (osc:=ze xT) rfl rfl (by first|decide +kernel|kernel_rfl) rfl rfl (jP (za (z6 zY zX (za (pq 3) zb)) zb)) (λ s H fp m5=>(qj 0 (show (["place","new","old"]:A8).Nodup from by decide +kernel))) (λ s H fp m5=>qk) (λ s H fp m5=>(zr xn (zn (pq 1) (pq 0)) (zn (pq 2) (pq 0))))) zb)))))  (zc (zl (pq 2))))),?_⟩;walk_at "a";intro l hl;have sl:=zf (o:=.lst []) hl;have nl0:NL (upd H l (.lst [])) (zU (upd H l (.lst []))) l [] (qi (jz (s0.gone.take 0) (s1.gone.take 0))):=VC nk;generalize upd H l (.lst [])=H1 at sl nl0 ⊢;have so10:=so0.same sl;have so11:=so1.same sl;walk_at "d";walk_at "a";refine ra so10.hy T.gq T.gx rfl (ra so11.hy T.gq T.gx rfl (iE6 true true n0.lg n1.lg _ _ (iA4 rfl (SqL.of so10.hg.out) (SqL.of so11.hg.out) ?_)));let n9:Nat->St->Hp->Prop:=λ i σ H'=>∃ (v3 v4:Aq) (as:Ab),σ=[some (.ref y0),some (.ref y1),some (.ref l),v3,v4]/\Same H H'/\NL H' (zU H') l as (qi (jz (s0.gone.take i) (s1.gone.take i)))/\∀ b∈as,H b=none;refine zgW (K:=K) (xs:=n0.ags.map V.ref) (ys:=n1.ags.map V.ref) n9 (iE3 _ _ ([]) (iA4 rfl sl nl0 (by simp))) (λ i σ H' _ h=>by obtain ⟨_,_,_,_,s,_⟩:=h;exact ⟨SqL.of (s _ _ so0.hg.out),SqL.of (s _ _ so1.hg.out)⟩) ?_ ?_
 ·intro i x z t σ H2 hi hj ht m9;refine oE3 m9 λ v3 v4 as m7=>oA4 m7 λ m8 s2 nl2 fa=>?_;clear m7 m9;subst m8;rw [aj,au] at hi hj;obtain ⟨b0,hb0,rfl⟩:=hi;obtain ⟨b1,hb1,rfl⟩:=hj;have hil:i < s0.gone.length:=by rw [<- la0];exact (aa.mp hb0).1
  obtain ⟨g0,e0⟩:∃ g,s0.gone[i]?=some g:=⟨_,ac hil⟩;obtain ⟨g1,e1⟩:∃ g,s1.gone[i]?=some g:=⟨_,ac (by rw [<- le];exact hil)⟩;obtain ⟨lg1,lg4⟩:=lg i g0 g1 e0 e1;obtain ⟨c0,q0,h0⟩:=xo so0.hg e0;obtain ⟨c1,q1,h1⟩:=xo so1.hg e1;rw [hb0] at q0;cases q0;rw [hb1] at q1;cases q1;have st:=zf (o:=.tup [.ref b0,.ref b1]) ht;have s3:=s2.trans st;have nl3:=nl2.tup (H':=upd H2 t (.tup [.ref b0,.ref b1])) λ b o _ hb=>st b o hb;refine un2 nk ?_;generalize upd H2 t (.tup [.ref b0,.ref b1])=H3 at s3 nl3 ⊢;have las:as.length<=24:=by rw [nl3.len,qi,af,jz,fB,aR,aR];omega
  walk_at "a";refine ⟨.inl ⟨rfl,_,SqL.of nl3.out⟩,?_⟩;walk_at "e";walk_at "a";refine ⟨_,.inl ⟨_,SqL.of (s3 _ _ h0),rfl⟩,?_⟩;rw [zy];walk_at "a";refine ⟨by omega,by omega,λ _ _ _ _ mY hacc=>?_⟩;let ni:Nat->St->Hp->Prop:=λ j σ H'=>∃ (v0:Aq),σ=[v0,some (.ref b1),some (.ref b0)]/\Same H3 H'/\H' mY=some (.lst (iv ((List.range j).map λ p=>g1.getD p 0 - g0.getD p 0)));refine wz (n:=((g0.length:Int)).toNat) ni ⟨_,iA3 rfl (zf hacc) nk⟩ ?_ ?_
  ·intro j σ H4 hj m9;refine oE1 m9 λ v0 m7=>oA3 m7 λ m8 s4 ha=>?_;clear m7 m9;subst m8;have hjl:j < g0.length:=by omega
   walk_at "a";simp only [cU];refine zq (SqL.of (s4 _ _ (s3 _ _ h1))) (zz (jf (qr (d:=0) (by omega:j < g1.length)))) (zq (SqL.of (s4 _ _ (s3 _ _ h0))) (zz (jf (qr (d:=0) hjl))) ?_);walk_at "a";refine ⟨_,iA3 ha (zk (by rw [zy,af,List.length_range];omega)) ⟨_,iA3 rfl (λ b o hb=>by rw [nz (nA hb hacc)];exact s4 b o hb) ?_⟩⟩;rw [nk,qP,range_succ,bd]
   rfl
  intro σ H4 m9;refine oE1 m9 λ v0 m7=>oA3 m7 λ m8 s4 ha=>?_;clear m7 m9;subst m8;rw [show ((g0.length:Int)).toNat=g0.length by omega] at ha;have nl4:=nl3.tup (H':=H4) λ b o _ hb=>s4 b o hb;have nb:mY ∉ as:=λ z=>by
   obtain ⟨vs,h⟩:=nl3.isl (aB _ z);rw [hacc] at h;cases h
  have nG:mY≠l:=λ z=>by rw [z,nl3.out] at hacc;cases hacc
  have ntG:¬ zU H4 l:=λ ⟨xs,hx⟩=>by rw [nl4.out] at hx;cases hx
  refine iE3 l _ _ (iA5 rfl rfl nl4.out (zk (by rw [af];omega)) ?_);have np:=nl4.push (b:=mY) (vs:=iv (jI g0 g1)) (ys:=(jI g0 g1).map D.int) ha nb nG ntG reps_ints;refine iE3 _ _ (as ++ [mY]) (iA4 rfl (λ b o hb=>by rw [nz (nA hb hl)];exact s4 _ _ (s3 _ _ hb)) ?_ (λ b hb=>?_))
  ·rw [zdV e0 e1,show qi (jz (s0.gone.take i) (s1.gone.take i) ++ [jI g0 g1])=qi (jz (s0.gone.take i) (s1.gone.take i)) ++ [(jI g0 g1).map D.int] by simp [qi]];refine np.keep (λ _ _ _ hc=>hc) λ c hc _=>?_;obtain ⟨xs,hx⟩:=hc;exact ⟨xs,by rw [nz (λ z=>by rw [z,nl4.out] at hx;cases hx)];exact hx⟩
  ·rcases aF.mp hb with hb|hb
   ·exact fa b hb
   ·rw [ar.mp hb];exact zB s3 hacc
 ·intro σ H2 m9;refine oE3 m9 λ v3 v4 as m7=>oA4 m7 λ m8 s2 nl2 fa=>?_;clear m7 m9;subst m8;rw [af,af,la0,la1,fz,aQ,show List.take s0.gone.length s1.gone=s1.gone by rw [le];exact aQ] at nl2;walk_at "a";refine k l as _ s2 nl2 λ b hb=>?_;rcases aw.mp hb with rfl|hb
  ·exact hl
  ·exact fa b hb
def V7 {st:PSt} {fb:A9}:(z7 st k fb).2.turn=st.turn/\(z7 st k fb).2.sides=st.sides/\(z7 st k fb).2.gone=st.gone:=by
 cases fb <;> exact ⟨rfl,rfl,rfl⟩
def zaE {st:PSt} {x:zE} {tb:A9}:(vJ st x tb).turn=st.turn/\(vJ st x tb).sides=st.sides/\(vJ st x tb).gone=st.gone:=by
 cases tb <;> exact ⟨rfl,rfl,rfl⟩
def movedF_keep {r:Row} {st:PSt} {ch:Ak}:(movedF r st k ch).turn=st.turn/\(movedF r st k ch).sides=st.sides/\(movedF r st k ch).gone=st.gone:=by
 obtain ⟨a1,a2,a3⟩:=V7 (st:=st) (k:=k) (fb:=qF r ch);obtain ⟨b1,b2,b3⟩:=zaE (st:=(z7 st k (qF r ch)).2) (x:=(z7 st k (qF r ch)).1) (tb:=Zy r ch);exact ⟨b1.trans a1,b2.trans a2,b3.trans a3⟩
def jA {α:Type} {xs:List α} {k j:Nat} {x d:α} (h:k≠j):(xs.set k x).getD j d=xs.getD j d:=by
 rw [ae,ae,bH h]
def zeb (rs:At) (st:PSt) (k:Nat):(qH rs st k).1.turn=st.turn/\∀ j,k < j->(qH rs st k).1.sides.getD j 0=st.sides.getD j 0/\(qH rs st k).1.gone.getD j []=st.gone.getD j []:=by
 unfold qH;cases rs[k]? with
 | none=>exact ⟨rfl,λ _ _=>⟨rfl,rfl⟩⟩
 | some r =>
  simp only;cases qh r (qq rs st.cells r) (qX st.cells r) st.turn (st.sides.getD k 0).toNat with
  | none=>exact ⟨rfl,λ _ _=>⟨rfl,rfl⟩⟩
  | some ch =>
   obtain ⟨c1,c2,c3⟩:=movedF_keep (r:=r) (st:=st) (k:=k) (ch:=ch);refine ⟨c1,λ j hj=>⟨?_,?_⟩⟩
   ·show ((movedF r st k ch).sides.set k _).getD j 0=_
    rw [jA (by omega),c2]
   ·show ((movedF r st k ch).gone.set k _).getD j []=_
    rw [jA (by omega),c3]
theorem Q7 (rs:At) (st:PSt):∀ i,(zF rs st i).1.turn=st.turn/\∀ j,i<=j->(zF rs st i).1.sides.getD j 0=st.sides.getD j 0/\(zF rs st i).1.gone.getD j []=st.gone.getD j []
 | 0=>⟨rfl,λ _ _=>⟨rfl,rfl⟩⟩
 | i + 1=>by
  obtain ⟨h1,h2⟩:=Q7 rs st i;obtain ⟨g1,g2⟩:=zeb rs (zF rs st i).1 i;refine ⟨g1.trans h1,λ j hj=>?_⟩;obtain ⟨a1,a2⟩:=h2 j (by omega);obtain ⟨b1,b2⟩:=g2 j (by omega);exact ⟨b1.trans a1,b2.trans a2⟩
theorem qK (bs:A1) (rs:At):∀ n,(zi bs rs n).turn=n
 | 0=>rfl
 | n + 1=>by
  show (zF rs (zi bs rs n) rs.length).1.turn + 1=_
  rw [(Q7 rs (zi bs rs n) rs.length).1,qK bs rs n]
  rfl
def zgz (g:A6) (j p:Nat):g.getD p 0<=(ZV g j).getD p 0:=by
 unfold ZV;by_cases e:j=p
 ·subst e;by_cases h:j < g.length
  ·rw [ae (l:=g.set _ _),aY h];show _<=g.getD j 0 + 1
   omega
  ·rw [c7 (by omega)];exact bR _
 ·rw [jA e];exact bR _
def XN (rs:At) (st:PSt) (k i p:Nat):(st.gone.getD i []).getD p 0<=((qH rs st k).1.gone.getD i []).getD p 0:=by
 unfold qH;cases rs[k]? with
 | none=>exact bR _
 | some r =>
  simp only;cases qh r (qq rs st.cells r) (qX st.cells r) st.turn (st.sides.getD k 0).toNat with
  | none=>exact bR _
  | some ch =>
   obtain ⟨c1,c2,c3⟩:=movedF_keep (r:=r) (st:=st) (k:=k) (ch:=ch);show _<=(((movedF r st k ch).gone.set k _).getD i []).getD p 0
   rw [c3];by_cases e:k=i
   ·subst e;by_cases h:k < st.gone.length
    ·rw [ae (l:=st.gone.set _ _),aY h];exact zgz _ _ _
    ·rw [c7 (by omega)];exact bR _
   ·rw [jA e];exact bR _
theorem WW (rs:At) (st:PSt) (i p:Nat):∀ m,(st.gone.getD i []).getD p 0<=((zF rs st m).1.gone.getD i []).getD p 0
 | 0=>bR _
 | m + 1=>Int.le_trans (WW rs st i p m) (XN rs _ m i p)
theorem jO (bs:A1) (rs:At) (n i p:Nat):∀ m,((zi bs rs n).gone.getD i []).getD p 0<=((zi bs rs (n + m)).gone.getD i []).getD p 0
 | 0=>bR _
 | m + 1=>Int.le_trans (jO bs rs n i p m) (WW rs (zi bs rs (n + m)) i p rs.length)
noncomputable def J5 (bs:A1) (rs:At) (i j:Nat):List A6:=jz (zi bs rs i).gone (zi bs rs j).gone
def QT {rs:At} {s0 s1:PSt} (ro:∀ r∈rs,r.ok) (w0:stWf bs rs s0) (w1:stWf bs rs s1):s0.gone.length=s1.gone.length/\∀ (i:Nat) g0 g1,s0.gone[i]?=some g0->s1.gone[i]?=some g1->g0.length=g1.length/\g0.length<=4:=by
 refine ⟨by rw [w0.go.1,w1.go.1],λ i g0 g1 e0 e1=>?_⟩;have hi:=(aa.mp e0).1;obtain ⟨r,hr⟩:∃ r,rs[i]?=some r:=⟨_,ac (by rw [<- w0.go.1];exact hi)⟩;have q0:=(w0.go.2 i r g0 hr e0).1;have q1:=(w1.go.2 i r g1 hr e1).1;have rl:=xJ (ro r (ah hr));refine ⟨by omega,?_⟩;rw [q0];have:=a8 (n:=max r.ins.length r.outs.length) (a:=(0:Int));show (qv r).length<=4
 unfold qv;rw [a8];omega
theorem zfX {rs:At} {i j:Nat} (ro:∀ r∈rs,r.ok) (mZ:zS bs rs) (bo:∀ b∈bs,zC b.1 b.2) (h:i<=j):∀ g∈J5 bs rs i j,g.length<=4/\∀ n∈g,0<=n:=λ g hg=>by
 obtain ⟨q,hq⟩:=bj hg;unfold J5 jz at hq;rw [dH] at hq;obtain ⟨le,lg⟩:=QT ro (zH mZ bo ro i) (zH mZ bo ro j);cases e0:(zi bs rs i).gone[q]? with
 | none=>rw [e0] at hq;simp at hq
 | some g0 =>
  cases e1:(zi bs rs j).gone[q]? with
  | none=>rw [e0,e1] at hq;simp at hq
  | some g1 =>
   rw [e0,e1] at hq;have hq:jI g0 g1=g:=by simpa using hq
   subst hq;obtain ⟨l1,l2⟩:=lg q g0 g1 e0 e1;refine ⟨by unfold jI;rw [af,List.length_range];exact l2,λ n hn=>?_⟩;unfold jI at hn;obtain ⟨p,_,rfl⟩:=bc.mp hn;have:=jO bs rs i q p (j - i);rw [show i + (j - i)=j by omega,ae (l:=(zi bs rs i).gone),ae (l:=(zi bs rs j).gone),e0,e1] at this;simp only [aS] at this;omega
def zac (a:Ad) (R:List (Int × Int)->List Row->Nat->Nat->Hp->V->Hp->Prop):Sp:=λ vs H Q E=>∃ (vw:V) (lim:Nat) (bs:A1) (rs:At),vs=[vw,.int lim]/\Rep H (Off []) vw (qE a bs rs)/\zS bs rs/\(∀ b∈bs,zC b.1 b.2)/\(∀ r∈rs,r.ok)/\lim<=1000 /\
 (∀ i j v H',RoundAt bs rs lim i j->Same H H'->R bs rs i j H v H'->Q v H')/\(Zm bs rs lim->∀ H',Same H H'->E (.ref a.g) none H')
def rOf (_:A1) (_:At) (i j:Nat) (_:Hp) (v:V) (H':Hp):Prop:=∃ t,v=.ref t/\H' t=some (.tup [.int i,.int ((j:Int) - i)])
def Q0 (T:Txt K mg a) (F:FunD K "round_of" "round_of" jt f fd):FnOk P w K mg base (CXr P w) 9 f fd ["work","limit"] (zac a rOf):=by
 refine F.okx zal ?_ ?_
 ·walk_at "i"
 walk_at "j";refine oE4 h λ vw lim bs rs m7=>oA8 m7 λ m8 hv mZ bo ro l1000 kQ kE=>?_;clear m7 h;subst m8;walk_at "T";refine ⟨_,(zg (zo 2 zal.nd (zx ⟨rfl,rfl,rfl⟩ hr (za (pq 0) (za (pq 1) zb))))  (zc (zl (qL (za (zj (zn (pq 2) zd) rfl) (za (zr xn (zj (zn (pq 2) zd) rfl) (zj (zn (pq 2) zd) rfl)) zb)))))),?_⟩;walk_at "a";refine uc (vh T).mono (iE4 vw lim bs rs (iA8 rfl hv mZ bo ro l1000 (λ i j t y0 y1 n0 n1 H1 rnd s1 ht so0 so1=>?_) kE));walk_at "a";refine nC ht at0 (ra so0.hy T.gq T.gu rfl ?_);refine nC ht (show atI _ 1=some (.ref y1) from rfl) (ra so1.hy T.gq T.gu rfl ?_);refine nC ht at0 (ra so0.hy T.gq T.gu rfl ?_);walk_at "a";intro t2 ht2;rw [qK,qK];exact kQ i j _ _ rnd (s1.trans (zf ht2)) ⟨t2,rfl,nk⟩
def zcm (T:Txt K mg a):Cal P w K mg base "round_of" 9 ["work","limit"] [] (zac a rOf):=T.ku.cal (Q0 T)
def zcj (T:Txt K mg a):Cal P w K mg base "round_of" 9 ["work","limit"] [.int 200] (zac a rOf):=T.ku.cald (Q0 T)
def Jz {A W Z:Prop} [Decidable A] (z:Z) (w:A->Z->W):if A then W else Z:=by
 by_cases h:A
 ·rw [ap h];exact w h z
 ·rw [am h];exact z
inductive spLimit (K:A0) (a:Ad) (vs:Ap) (H:Hp) (Q:VK) (E:XK):Prop
 | i (l:Addr) (ns:A6) (vw:V) (bs:A1) (rs:At) (p:A5):vs=[.ref l,vw]->SqL K H l (iv ns)->Rep H p vw (qE a bs rs)->(∀ lim:Nat,lim<=1000->Q (.int lim) H)->spLimit K a vs H Q E
def zd6 (T:Txt K mg a):Cal P w K mg base "_law_limit" 2 ["_law_script","_law_work_here"] [] (spLimit K a):=T.md.cal λ F=>by
 refine F.okx zbG ?_ ?_
 ·walk_at "i"
 walk_at "j";rcases h with ⟨l,ns,vw,bs,rs,p,rfl,hl,hv,k⟩;refine oE7 (qY hv) λ yw dx fs l1 l2 bvs mW m7=>oA9 m7 λ m8 hy e1 e2 h1 h2 hB hK no=>?_;clear m7;subst m8;have kk:∀ n:Int,0<=n->n<=1000->Q (.int n) H:=λ n a b=>by
  obtain ⟨m,rfl⟩:∃ m:Nat,n=m:=⟨n.toNat,by omega⟩;exact k m (by omega)
 walk_at "T";refine ⟨_,(zh (zo 2 zbG.nd (zx ⟨rfl,rfl,rfl⟩ hr (za (zx ⟨rfl,rfl,rfl⟩ hr (za (pq 0) (za zd zb))) (za zd zb))))  (zh (zD (PW.pt (pw_and (zm Zr (z8 (pq 2)) zd (zt _)) (pw_and1 (zm (qG hr.units1) (z6 zY zX (za (zj (pq 1) rfl) zb)) zd (zt _)))))  (zc (zl zd))  zp)  (zh (zD (PW.pt (pw_and (zm (qG hr.units1) (z8 (pq 2)) zd (zt _)) (pw_and1 (zm Zr (z6 zY zX (za (zj (pq 1) rfl) zb)) zd (zt _)))))  (zc (zl zd))  zp)  (zh (zD (zm (qG hr.units1) (z8 (pq 2)) zd (zt _))  (zc (zl (zr zN zd (z8 (qd (pq 2))))))  zp)  (zh (zD (PW.pt (pw_and (zm (qG hr.units1) (z8 (pq 2)) zd (zt _)) (pw_and1 (zm Zr (z6 zY zX (za (zj (pq 1) rfl) zb)) zd (zt _)))))  (zc (zl (zr zN zd (z8 (qd (pq 2))))))  zp)  (zh (zD (PW.pt (pw_and (zm (qG hr.units1) (z8 (pq 2)) zd (zt _)) (pw_and1 (zm Zr (z6 zY zX (za (zj (pq 1) rfl) zb)) zd (zt _)))))  (zc (zl (zr zN zd (z8 (qd (pq 2))))))  zp)  (zh (zD (zm Wt (z6 zY zX (za (zj (pq 1) rfl) zb)) zd (zt _))  (zc (zl (zr zN zd (z8 (qd (pq 2))))))  zp)  (zc (zl (zr zN zd (z8 (qd (pq 2))))))))))))),?_⟩;walk_at "a";refine uc (jh T).mono (uc (zfz T).mono (iE3 l ns 7 (iA3 rfl hl ?_)));refine iE2 _ _ (iA4 rfl (by decide) (by decide) ?_);have u0:=jw (Q4 ns 7) 1207959571;generalize wF (Q4 ns 7) 1207959571=nu at u0 ⊢;walk_at "a";refine Jz ?_ (λ _ z=>⟨gJ,iE5 yw a.q dx fs _ (iA6 rfl hy T.gz T.gA e1 ⟨_,⟨.inl ⟨_,SqL.of h1,rfl⟩,zJ (λ _=>kk _ (by decide) (by decide)) (λ _=>z)⟩⟩)⟩);walk_at "a";refine Jz ?_ (λ _ z=>⟨gJ,iE5 yw a.q dx fs _ (iA6 rfl hy T.gz T.gA e1 ⟨_,⟨.inl ⟨_,SqL.of h1,rfl⟩,zJ (λ _=>kk _ (by decide) (by decide)) (λ _=>z)⟩⟩)⟩);walk_at "a";refine zJ (λ _=>(kk _ (by omega) (by omega))) (λ _=>?_);walk_at "a";refine Jz ?_ (λ _ z=>⟨gJ,iE5 yw a.q dx fs _ (iA6 rfl hy T.gz T.gA e1 ⟨_,⟨.inl ⟨_,SqL.of h1,rfl⟩,zJ (λ _=>(kk _ (by omega) (by omega))) (λ _=>z)⟩⟩)⟩);walk_at "a";refine Jz ?_ (λ _ z=>⟨gJ,iE5 yw a.q dx fs _ (iA6 rfl hy T.gz T.gA e1 ⟨_,⟨.inl ⟨_,SqL.of h1,rfl⟩,zJ (λ _=>(kk _ (by omega) (by omega))) (λ _=>z)⟩⟩)⟩);walk_at "a";refine ra hy T.gz T.gA e1 ⟨_,.inl ⟨_,SqL.of h1,rfl⟩,zJ (λ _=>(kk _ (by omega) (by omega))) (λ _=>?_)⟩;walk_at "a";exact (kk _ (by omega) (by omega))
def ziP (a:Ad) (R:List (Int × Int)->List Row->Nat->Hp->V->Hp->Prop):Sp:=λ vs H Q _=>∃ (vw:V) (lim:Nat) (bs:A1) (rs:At),vs=[vw,.int lim]/\Rep H (Off []) vw (qE a bs rs)/\zS bs rs/\(∀ b∈bs,zC b.1 b.2)/\(∀ r∈rs,r.ok)/\lim<=1000/\∀ v H',Same H H'->R bs rs lim H v H'->Q v H'
def zhg (bs:A1) (rs:At) (lim:Nat) (_:Hp) (v:V) (H':Hp):Prop:=(Zm bs rs lim/\v=.non)\/∃ i j t,RoundAt bs rs lim i j/\v=.ref t/\H' t=some (.tup [.int i,.int ((j:Int) - i)])
def zd5 (T:Txt K mg a):Cal P w K mg base "_law_round" 10 ["_law_work_here","_law_limit_here"] [] (ziP a zhg):=T.me.cal λ F=>by
 refine F.okx zbF ?_ ?_
 ·walk_at "i"
 walk_at "j";refine oE4 h λ vw lim bs rs m7=>oA7 m7 λ m8 hv mZ bo ro l1000 k=>?_;clear m7 h;subst m8;walk_at "T";refine ⟨_,(zg (zo 2 zbF.nd zG)  (zg (zhi ⟨rfl,rfl,rfl⟩ rfl (λ pn G=>(zc (zD (zm (qG hr.units1) (pq 1) zd (zt _))  (zc (zo 2 zbF.nd (zx ⟨rfl,rfl,rfl⟩ hr (za (pq 0) zb))))  (zc (zo 2 zbF.nd (zx ⟨rfl,rfl,rfl⟩ hr (za (pq 0) (za (pq 1) zb)))))))) (λ pn a=>(zc (zo 2 zbF.nd zG))))  (zc (zl (pq 2))))),?_⟩;walk_at "a";unfold zgM;walk_at "a";refine ⟨a.g,iA3 T.kX T.ml (λ pn=>zJ (λ e=>?_) (λ _=>?_))⟩
 ·have e:lim=200:=by omega
  subst e;exact iE3 _ _ _ ⟨(zcj T).mono,⟨vw,200,bs,rs,rfl,hv,mZ,bo,ro,l1000,λ i j v H1 rnd s1 ⟨t,e,ht⟩=>k v H1 s1 (.inr (iE3 i j t (iA3 rnd e ht))),λ nr H1 s1=>⟨a.g,iA3 rfl T.gZ (λ _ _=>k _ _ s1 (.inl ⟨nr,rfl⟩))⟩⟩⟩
 ·exact uc (zcm T).mono (iE4 vw lim bs rs (iA8 rfl hv mZ bo ro l1000 (λ i j v H1 rnd s1 ⟨t,e,ht⟩=>k v H1 s1 (.inr (iE3 i j t (iA3 rnd e ht)))) (λ nr H1 s1=>⟨a.g,iA3 rfl T.gZ (λ _ _=>k _ _ s1 (.inl ⟨nr,rfl⟩))⟩)))
def zcv (CN:Addr):Sp:=λ vs H Q E=>∃ t b:Int,vs=[.int t,.int b]/\b.natAbs < 2 ^ 8000/\if b=0 then E (.ref CN) none H else ∀ p,H p=none->Q (.ref p) (upd H p (.tup [.int (vy t b),.int (vz t b)]))
def zeR {CN:Addr} (iQ:mg "NoRatio"=some (.ref CN)) (xN:XC K CN) (kx:mg "abs"=none) (cC:Cal P w K mg base "common" 1 ["one","other"] [] JN)
  (F:Fun K "ratio" "ratio" Jt f fd):FnOk P w K mg base (CXr P w) 2 f fd ["top","bottom"] (zcv CN):=by
 refine F.okx zeA ?_ ?_
 ·walk_at "i"
 walk_at "k";refine oE2 h λ t b m7=>oA3 m7 λ m8 hb8 k=>?_;clear m7 h;subst m8;refine ⟨_,(zg (zD (zm (qG hr.units1) (pq 1) zd (zt _))  (zc (qR ⟨rfl,rfl,rfl⟩ rfl (za ju zb)))  zp)  (zg (zo 2 zeA.nd (zx ⟨rfl,rfl,rfl⟩ hr (za (z6 zfE zfC (za (pq 0) zb)) (za (z6 zfE zfC (za (pq 1) zb)) zb))))  (zg (zD (zm Zr (pq 1) zd (zt _))  (zc (zo 2 zeA.nd (vK xy (pq 2))))  zp)  (zc (zl (qL (za (zr Z7 (pq 0) (pq 2)) (za (zr Z7 (pq 1) (pq 2)) zb)))))))),?_⟩;walk_at "a";refine zJ (λ hb=>?_) (λ hb=>?_)
 ·rw [ap hb] at k;exact ⟨CN,iA3 iQ xN k⟩
 ·rw [am hb] at k;refine iE3 _ _ _ (iA4 cC kx kx ⟨_,_,rfl,by split <;> omega,by split <;> omega,?_⟩);rw [zgI];have hp:=zge (top:=t) hb;have h89:(Jg t b).natAbs < 2 ^ 8999:=bW hp.2 (d9 hb8 (fJ (by decide) (by decide)));have hf:∀ i,CFd i (Jg t b):=λ i=>zhN hp.1 h89;walk_at "r";by_cases hs:b < 0
  ·rw [ap hs];have e:-(Int.gcd t b:Int)=Jg t b:=by unfold Jg;rw [ap hs]
   rw [e];exact ⟨hf _,hf _,k⟩
  ·rw [am hs];have e:(Int.gcd t b:Int)=Jg t b:=by unfold Jg;rw [am hs]
   rw [e];exact ⟨hf _,hf _,k⟩
def zgy (T:Txt K mg a):Cal P w K mg base "ratio" 2 ["top","bottom"] [] (zcv a.c):=T.mG.cal (zeR T.iQ T.mh T.kx (zbe T))
def XU (L:Int) (g:A6):List D:=g.map λ n=>.tup [.int (vy n L),.int (vz n L)]
def zii (bs:A1) (rs:At) (i j:Nat) (H:Hp) (v:V) (H':Hp):Prop:=∃ l as,v=.ref l/\NL H' (zU H') l as ((J5 bs rs i j).map (XU ((j:Int) - i)))/\∀ b∈l :: as,H b=none
def Vx (T:Txt K mg a) (F:FunD K "shares_of" "shares_of" qN f fd):FnOk P w K mg base (CXr P w) 9 f fd ["work","limit"] (zac a zii):=by
 refine F.okx Vh ?_ ?_
 ·walk_at "i"
 walk_at "j";refine oE4 h λ vw lim bs rs m7=>oA8 m7 λ m8 hv mZ bo ro l1000 kQ kE=>?_;clear m7 h;subst m8;walk_at "T";refine ⟨_,(zg (zo 2 Vh.nd (zx ⟨rfl,rfl,rfl⟩ hr (za (pq 0) (za (pq 1) zb))))  (zg (J8 (i:=3) Vh.nd rfl (Or.inr rfl) (zr xn (zj (zn (pq 2) zd) rfl) (zj (zn (pq 2) zd) rfl)))  (zg (zo 4 Vh.nd (zI zb))  (zg (qo qC rfl (qp (zx ⟨rfl,rfl,rfl⟩ hr (za (zn (pq 2) zd) (za (zn (pq 2) zd) zb)))) (qj 5 Vh.nd)  (zc (zu (qB ao ay ax zL (pq 4) (za (jK (vars:=["count"]) (caps:=[3]) (N:=["count","length"]) (ON:=["work","limit","ends","length","shares","counts"]) (osc:=ze qN) rfl rfl (by first|decide +kernel|kernel_rfl) rfl rfl (qp (pq 5)) (λ s H fp m5=>(qj 0 (show (["count","length"]:A8).Nodup from by decide +kernel))) (λ s H fp m5=>qk) (λ s H fp m5=>(ZN hr (za (pq 0) (za (pq 1) zb))))) zb)))))  (zc (zl (pq 4))))))),?_⟩;walk_at "a";refine uc (vh T).mono (iE4 vw lim bs rs (iA8 rfl hv mZ bo ro l1000 (λ i j t y0 y1 n0 n1 H1 rnd s1 ht so0 so1=>?_) kE));obtain ⟨le,lg⟩:=QT ro (zH mZ bo ro i) (zH mZ bo ro j);have l24:(zi bs rs i).gone.length<=24:=by rw [(zH mZ bo ro i).go.1];exact mZ.1.2.2
 have rp:=zfX ro mZ bo (bn rnd.lt);have rl:(J5 bs rs i j).length<=24:=by
  unfold J5 jz;rw [fB];omega
 have hij:=rnd.lt;have hj:=rnd.le;walk_at "a";refine nC ht (show atI _ 1=some (.ref y1) from rfl) (ra so1.hy T.gq T.gu rfl ?_);refine nC ht at0 (ra so0.hy T.gq T.gu rfl ?_);walk_at "a";rw [qK,qK];intro l hl;have sl:=zf (o:=.lst []) hl;have nl0:H l=none:=zB s1 hl;have hl1:upd H1 l (.lst []) l=some (.lst []):=nk;have s2:=s1.trans sl;have ht2:=sl _ _ ht;have so20:=so0.same sl;have so21:=so1.same sl;generalize upd H1 l (.lst [])=H2 at hl1 s2 ht2 so20 so21 ⊢;clear sl ht so0 so1 s1 hl;walk_at "d";walk_at "a";refine uc (Q6 T).mono (nC ht2 at0 (nC ht2 (show atI _ 1=some (.ref y1) from rfl) ?_));refine iE6 y0 y1 n0 n1 _ _ (iA7 rfl so20 so21 le l24 lg (λ gl gs H3 s3 ng fg=>?_));have ng:NL H3 (zU H3) gl gs (qi (J5 bs rs i j)):=ng;have lgs:gs.length=(J5 bs rs i j).length:=by rw [ng.len,qi,af]
 have kQ:∀ v H',Same H H'->(∃ l as,v=.ref l/\NL H' (zU H') l as ((J5 bs rs i j).map (XU ((j:Int) - i)))/\∀ b∈l :: as,H b=none)->Q v H':=λ v H' s r=>kQ i j v H' rnd s r;generalize J5 bs rs i j=G at ng lgs rp rl kQ;have offl:∀ b∈gl :: gs,b ∉ [l]:=λ b hb z=>by
  have:=fg b hb;rw [ar.mp z,hl1] at this;cases this
 have s03:=s2.trans s3;have hl3:=s3 _ _ hl1;have Lp:((j:Int) - i)≠0:=by omega
 have L8:((j:Int) - i).natAbs < 2 ^ 8000:=zbz (bW (show ((j:Int) - i).natAbs<=1000 by omega) (by decide));generalize (j:Int) - i=L at Lp L8 kQ;refine ⟨gl,rfl,.inl ⟨⟨_,SqL.of ng.out⟩,?_⟩⟩;refine qS (K:=K) (a:=gl) (xs:=gs.map V.ref) (λ m σ H'=>∃ (v5:Aq) (as:Ab),σ=[some vw,some (.int lim),some (.ref t),some (.int L),some (.ref l),v5]/\Fr [l] H3 H'/\NL H' (zU H') l as ((G.take m).map (XU L))/\∀ b∈as,H b=none) (iE2 _ ([]) (iA4 rfl Fr.refl (VC hl3) (by simp))) (λ m σ H' _ h=>by obtain ⟨_,_,_,f,_⟩:=h;exact SqL.of (f _ _ (offl gl (by simp)) ng.out)) ?_ ?_
 ·intro m x σ H4 hm m9;refine oE2 m9 λ v5 as m7=>oA4 m7 λ m8 f4 nl4 fa=>?_;clear m7 m9;subst m8;rw [aj,au] at hm;obtain ⟨b,hb,rfl⟩:=hm;have hml:m < G.length:=by rw [<- lgs];exact (aa.mp hb).1
  obtain ⟨g,eg⟩:∃ g,G[m]?=some g:=⟨_,ac hml⟩;obtain ⟨b',hb',hg⟩:=xo ng eg;rw [hb] at hb';cases hb';have hg4:=f4 _ _ (offl b (aB _ (ah hb))) hg;obtain ⟨g4,_⟩:=rp g (ah eg);have la:as.length<=24:=by rw [nl4.len,af,aR];omega
  walk_at "a";refine ⟨.inl ⟨rfl,_,SqL.of nl4.out⟩,?_⟩;walk_at "e";walk_at "a";refine ⟨b,rfl,.inl ⟨⟨_,SqL.of hg4⟩,λ _ _ _ _ mY hacc=>?_⟩⟩;refine qS (K:=K) (a:=b) (xs:=iv g) (λ q σ H'=>∃ (v0:Aq) (ws:Ap),σ=[v0,some (.int L)]/\Same H4 H'/\H' mY=some (.lst ws)/\ws.length=q/\Reps H' (zU H') ws (XU L (g.take q))) (iE2 _ ([]) (iA5 rfl (zf hacc) nk rfl (.nil))) (λ q σ H' _ h=>by obtain ⟨_,_,_,s,_⟩:=h;exact SqL.of (s _ _ hg4)) ?_ ?_
  ·intro q x σ H5 hq m9;refine oE2 m9 λ v0 ws m7=>oA5 m7 λ m8 s5 ha lw rw5=>?_;clear m7 m9;subst m8;obtain ⟨c,hc,rfl⟩:=Qj hq;have hql:=(aa.mp hc).1;walk_at "a";refine uc (zgy T).mono (iE2 c L (iA3 rfl L8 ?_));rw [am Lp];intro p hp;have sp:=zf (o:=.tup [.int (vy c L),.int (vz c L)]) hp;have hp6:upd H5 p (.tup [.int (vy c L),.int (vz c L)]) p=some (.tup [.int (vy c L),.int (vz c L)]):=nk;have ha6:=sp _ _ ha;have s6:=s5.trans sp;have rw6:=rw5.keep (H':=upd H5 p (.tup [.int (vy c L),.int (vz c L)])) (q:=zU (upd H5 p (.tup [.int (vy c L),.int (vz c L)]))) λ b o ⟨xs,hx⟩ hb=>⟨⟨xs,sp _ _ hx⟩,sp _ _ hb⟩;generalize upd H5 p (.tup [.int (vy c L),.int (vz c L)])=H6 at hp6 ha6 s6 rw6 ⊢;refine ⟨_,iA3 ha6 (zk (by omega)) (iE2 _ (ws ++ [.ref p]) (iA5 rfl (λ b o hb=>by rw [nz (nA hb hacc)];exact s6 b o hb) nk (by simp [lw]) ?_))⟩;rw [aO,hc,show XU L (g.take q ++ (some c).toList)=XU L (g.take q) ++ [.tup [.int (vy c L),.int (vz c L)]] by simp [XU]];have r7:Rep H6 (zU H6) (.ref p) (.tup [.int (vy c L),.int (vz c L)]):=Reps.mkT (vs:=[.int (vy c L),.int (vz c L)]) (.cons .int (.cons .int .nil)) ⟨_,hp6⟩ hp6;refine (rw6.append (.one r7)).keep λ b o tb hb=>?_;have ne:b≠mY:=λ z=>by
    obtain ⟨xs,hx⟩:=tb;rw [z,ha6] at hx;cases hx
   obtain ⟨xs,hx⟩:=tb;exact ⟨⟨xs,by rw [nz ne];exact hx⟩,by rw [nz ne];exact hb⟩
  intro σ H5 m9;refine oE2 m9 λ v0 ws m7=>oA5 m7 λ m8 s5 ha lw rw5=>?_;clear m7 m9;subst m8;rw [zy,aQ] at rw5;have nl5:=nl4.tup (H':=H5) λ b o _ hb=>s5 b o hb;have nb:mY ∉ as:=λ z=>by
   obtain ⟨vs,h⟩:=nl4.isl (aB _ z);rw [hacc] at h;cases h
  have nG:mY≠l:=λ z=>by rw [z,nl4.out] at hacc;cases hacc
  have ntG:¬ zU H5 l:=λ ⟨xs,hx⟩=>by rw [nl5.out] at hx;cases hx
  have nac:H mY=none:=by
   cases e:H mY with
   | none=>rfl
   | some u =>
    rw [f4 mY u (λ z=>nG (ar.mp z)) (s03 _ _ e)] at hacc;cases hacc
  refine iE3 l _ _ (iA5 rfl rfl nl5.out (zk (by rw [af];omega)) ?_);have np:=nl5.push (b:=mY) (vs:=ws) (ys:=XU L g) ha nb nG ntG rw5;refine iE2 _ (as ++ [mY]) (iA4 rfl ((f4.trans s5.fr).trans (qz (by simp))) ?_ (λ b hb=>?_))
  ·rw [aO,eg,bd];refine np.keep (λ _ _ _ hc=>hc) λ c hc _=>?_;obtain ⟨xs,hx⟩:=hc;exact ⟨xs,by rw [nz (λ z=>by rw [z,nl5.out] at hx;cases hx)];exact hx⟩
  ·rcases aF.mp hb with hb|hb
   ·exact fa b hb
   ·rw [ar.mp hb];exact nac
 ·intro σ H4 m9;refine oE2 m9 λ v5 as m7=>oA4 m7 λ m8 f4 nl4 fa=>?_;clear m7 m9;subst m8;rw [af,lgs,aQ] at nl4;walk_at "a";refine kQ _ H4 (λ b o hb=>f4 b o (λ z=>by rw [ar.mp z,nl0] at hb;cases hb) (s03 _ _ hb)) (iE2 l as (iA3 rfl nl4 (λ b hb=>?_)));rcases aw.mp hb with rfl|hb
  ·exact nl0
  ·exact fa b hb
def zba (T:Txt K mg a):Cal P w K mg base "shares_of" 9 ["work","limit"] [] (zac a zii):=T.lC.cal (Vx T)
section
variable {bs:A1} {rs:At}
def zbl (bo:∀ b∈bs,zC b.1 b.2) (ro:∀ r∈rs,r.ok) (h:wg bs rs n):0 < n/\n<=4:=by
 rcases h with ⟨b,hb,rfl⟩|⟨r,hr,hw,rfl,hp⟩
 ·have h:=bo b hb;exact ⟨by have:=h.2.2.1;omega,h.2.2.2⟩
 ·exact ⟨hp,(zav (ro r hr) hw).2⟩
def zgB (bo:∀ b∈bs,zC b.1 b.2) (ro:∀ r∈rs,r.ok):∃ L,QW bs rs L:=by
 have hm:∀ n,n∈(bs.map (·.2) ++ (rs.filter λ r=>decide ((r.wd=.source\/r.wd=.drain)/\0 < r.pace)).map Row.pace) ↔ wg bs rs n:=λ n=>by
  simp only [aF,bc,cn,da,wg];constructor
  ·rintro (⟨b,hb,e⟩|⟨r,⟨hr,hw,hp⟩,e⟩)
   ·exact .inl ⟨b,hb,e⟩
   ·exact .inr ⟨r,iA4 hr hw e (by rw [<- e];exact hp)⟩
  ·rintro (⟨b,hb,e⟩|⟨r,hr,hw,e,hp⟩)
   ·exact .inl ⟨b,hb,e⟩
   ·exact .inr ⟨r,⟨hr,hw,by rw [e];exact hp⟩,e⟩
 obtain ⟨L,hL⟩:=IsLcm.ex (ns:=bs.map (·.2) ++ (rs.filter λ r=>decide ((r.wd=.source\/r.wd=.drain)/\0 < r.pace)).map Row.pace) λ n hn=>by
  have b4:=zbl bo ro ((hm n).mp hn);omega
 exact iE2 L _ ⟨hL,hm⟩
def zgC (bo:∀ b∈bs,zC b.1 b.2) (ro:∀ r∈rs,r.ok) (h:wg bs rs n):n ∣ vX bs rs:=by
 obtain ⟨L,hL⟩:=zgB bo ro;rw [<- zbm hL];obtain ⟨ns,il,im⟩:=hL;exact il.dv n ((im n).mpr h)
end
structure Alk (bs:A1) (rs:At) (s s':PSt):Prop where
 ce:s.cells.map (zw rs)=s'.cells.map (zw rs)
 si:s.sides=s'.sides
 so:∀ (j:Nat) r,rs[j]?=some r->r.wd=.source->(s.gone.getD j []).headD 0 % (r.kinds.length:Int)=(s'.gone.getD j []).headD 0 % (r.kinds.length:Int)
 tu:∀ n,wg bs rs n->s.turn % n=s'.turn % n
noncomputable def gAt (gs:List A6) (i j:Nat):Int:=(gs.getD i []).getD j 0
section
variable {bs:A1} {rs:At}
theorem Qc:∀ {xs ys:A6},xs.map some=ys.map some->xs=ys
 | [],[],_=>rfl
 | [],_ :: _,h=>by cases h
 | _ :: _,[],h=>by cases h
 | x :: xs,y :: ys,h=>by
  simp only [bM,List.cons.injEq,db] at h;rw [h.1,Qc h.2]
def zhZ {s s':PSt} (bo:∀ b∈bs,zC b.1 b.2) (ro:∀ r∈rs,r.ok) (h:JO bs rs s=JO bs rs s'):Alk bs rs s s':=by
 unfold JO at h;obtain ⟨h1,h2,h3,h4⟩:some (s.turn % vX bs rs)=some (s'.turn % vX bs rs)/\s.cells.map (zw rs)=s'.cells.map (zw rs)/\s.sides.map some=s'.sides.map some/\(zQ .source rs).map (λ j=>some (xm rs s j))=(zQ .source rs).map (λ j=>some (xm rs s' j)):=by
  simpa only [Prod.mk.injEq] using h
 refine ⟨h2,Qc h3,λ j r hr hs=>?_,λ n hn=>?_⟩
 ·have hm:=Xi hr hs;have:=List.map_inj_left.mp h4 _ hm;simp only [db] at this;unfold xm at this;rw [aE,hr] at this;exact this
 ·have d:=zgC bo ro hn;have h1:=aN h1;rw [<- fK s.turn d,h1,fK s'.turn d]
def Q5 {cs cs':Au} (h:cs.map (zw rs)=cs'.map (zw rs)) (b:Nat):zw rs (cs.getD b [])=zw rs (cs'.getD b []):=by
 have:=bP (λ l=>l.getD b (zw rs [])) h;simpa only [ae,aj,Option.getD_map] using this
def Jy (c:Av):jL rs (va c)=(zw rs c).getLastD none:=by
 unfold va zw;rw [bA,bA,List.getLast?_map];cases c.getLast? <;> rfl
def zcL (c:Av):jL rs (zgA c)=(zw rs c).headD none:=by cases c <;> rfl
def WF (c:Av) (p:Nat):jL rs (c.getD p none)=(zw rs c).getD p none:=by
 unfold zw;rw [ae,ae,aj];cases c[p]? <;> rfl
def Zi (x:zE):jL rs x=none ↔ x=none:=by cases x <;> simp [jL]
def vS (c:Av) (i:Nat) (x:zE):zw rs (c.set i x)=(zw rs c).set i (jL rs x):=by
 unfold zw;rw [dN]
 rfl
def VH {c c':Av} (h:zw rs c=zw rs c'):c.length=c'.length:=by
 have:=bP List.length h;simpa [zw] using this
def zcr {cs cs':Au} (h:cs.map (zw rs)=cs'.map (zw rs)) (i:Nat) {c c':Av} (hc:zw rs c=zw rs c'):(cs.set i c).map (zw rs)=(cs'.set i c').map (zw rs):=by
 rw [dN,dN,h,hc]
def zaZ {cs cs':Au} (h:cs.map (zw rs)=cs'.map (zw rs)) (r:Row):qq rs cs r=qq rs cs' r:=by
 unfold qq zO;refine fV λ b _=>?_;rw [Jy,Jy,Q5 h]
def zcQ {cs cs':Au} (h:cs.map (zw rs)=cs'.map (zw rs)) (r:Row):qX cs r=qX cs' r:=by
 unfold qX zO;refine fV λ b _=>?_;rw [decide_eq_decide,<- Zi (rs:=rs),<- Zi (rs:=rs) (zgA (cs'.getD _ _)),zcL,zcL,Q5 h]
def WM {r:Row} {hs:List A9} {fs:Ai} {t t':Int} {side:Nat} (ok:r.ok) (h:(r.wd=.source\/r.wd=.drain)->0 < r.pace->t % r.pace=t' % r.pace):qh r hs fs t side=qh r hs fs t' side:=by
 obtain ⟨wd,ins,outs,pc,ks⟩:=r;cases wd
 ·have p1:1<=pc:=ok.2.2.1;have e:t % pc=t' % pc:=h (.inl rfl) (show 0 < pc by omega);unfold qh;simp only [e]
 ·have p0:0<=pc:=ok.2.2.1;unfold qh;by_cases z:pc=0
  ·simp [z]
  ·have e:t % pc=t' % pc:=h (.inr rfl) (show 0 < pc by omega);simp only [e]
 all_goals rfl
def zek {s s':PSt} {r:Row} {fb:A9} (h:Alk bs rs s s') (hr:rs[k]?=some r) (hs:fb=none->r.wd=.source):jL rs (z7 s k fb).1=jL rs (z7 s' k fb).1/\(z7 s k fb).2.cells.map (zw rs)=(z7 s' k fb).2.cells.map (zw rs):=by
 cases fb with
 | none =>
  refine ⟨?_,h.ce⟩;show some (wm _ _)=some (wm _ _)
  rw [aE,hr];show some (wm r.kinds _)=some (wm r.kinds _)
  unfold wm;rw [h.so k r hr (hs rfl)]
 | some b =>
  have e:=Q5 h.ce b.toNat;refine ⟨?_,zcr h.ce _ ?_⟩
  ·show jL rs (va (s.cells.getD b.toNat []))=jL rs (va (s'.cells.getD b.toNat []))
   rw [Jy,Jy,e]
  ·unfold xA zO;rw [vS,vS,e,VH e]
def zeJ {s s':PSt} {x x':zE} {tb:A9} (h:s.cells.map (zw rs)=s'.cells.map (zw rs)) (hx:jL rs x=jL rs x'):(vJ s x tb).cells.map (zw rs)=(vJ s' x' tb).cells.map (zw rs):=by
 cases tb with
 | none=>exact h
 | some b =>
  refine zcr h _ ?_;rw [vS,vS,hx];unfold zO;rw [Q5 h]
def XD {gs:List A6} {k p i j:Nat} (hk:k < gs.length) (hp:p < (gs.getD k []).length):gAt (gs.set k (ZV (gs.getD k []) p)) i j=gAt gs i j + if i=k/\j=p then 1 else 0:=by
 unfold gAt;by_cases e:k=i
 ·subst e;rw [ae (l:=gs.set _ _),aY hk,aS];unfold ZV;by_cases z:p=j
  ·subst z;rw [ae (l:=List.set _ _ _),aY hp,ap ⟨rfl,rfl⟩]
   rfl
  ·rw [jA z,am (λ q=>z q.2.symm)];omega
 ·rw [jA e,am (λ q=>e q.1.symm)];omega
def xQ {gs:List A6}:(gs.getD j []).headD 0=gAt gs j 0:=by
 unfold gAt;cases gs.getD j [] <;> rfl
def zfH {s s':PSt} (h:Alk bs rs s s') (w:stWf bs rs s) (w':stWf bs rs s') (ro:∀ r∈rs,r.ok) (k:Nat):Alk bs rs (qH rs s k).1 (qH rs s' k).1/\∀ i j,gAt (qH rs s k).1.gone i j - gAt s.gone i j=gAt (qH rs s' k).1.gone i j - gAt s'.gone i j:=by
 unfold qH;cases hr:rs[k]? with
 | none=>exact ⟨h,λ i j=>by show gAt s.gone i j - _=gAt s'.gone i j - _;rw [ee,ee]⟩
 | some r =>
  have ok:=ro r (ah hr);have hk:=(aa.mp hr).1;simp only;rw [<- zaZ h.ce,<- zcQ h.ce,<- h.si,<- WM (t:=s.turn) (t':=s'.turn) ok λ hw hp=>h.tu _ (.inr ⟨r,ah hr,hw,rfl,hp⟩)];cases hc:qh r (qq rs s.cells r) (qX s.cells r) s.turn (s.sides.getD k 0).toNat with
  | none=>exact ⟨h,λ i j=>by show gAt s.gone i j - _=gAt s'.gone i j - _;rw [ee,ee]⟩
  | some ch =>
   have hsd:=qr (xs:=s.sides) (k:=k) (d:=0) (by rw [w.so.1];exact hk);have sd:=w.so.2 k r _ hr hsd;have sd:wI r (((s.sides.getD k 0).toNat:Nat):Int):=by rw [cf sd.1];exact sd
   refine oA6 (wD ok (by simp [qq]) (by simp [qX]) sd hc) λ c1 c2 c3 c4 c5 c6=>?_;have fs:qF r ch=none->r.wd=.source:=λ z=>by
    cases e:ch.1 with
    | none=>exact c4 e
    | some j =>
     unfold qF at z;rw [e] at z;have:r.ins[j]?=none:=z;rw [ac (c1 j e)] at this;cases this
   obtain ⟨t1,t2⟩:=zek h hr fs;obtain ⟨k1,k2,k3⟩:=movedF_keep (r:=r) (st:=s) (k:=k) (ch:=ch);obtain ⟨k1',k2',k3'⟩:=movedF_keep (r:=r) (st:=s') (k:=k) (ch:=ch);have hg0:=qr (xs:=s.gone) (k:=k) (d:=[]) (by rw [w.go.1];exact hk);have hg0':=qr (xs:=s'.gone) (k:=k) (d:=[]) (by rw [w'.go.1];exact hk);have q:=(w.go.2 k r _ hr hg0).1;have q':=(w'.go.2 k r _ hr hg0').1;have G:∀ i j,gAt (vT r s k ch).1.gone i j=gAt s.gone i j + if i=k/\j=jR r ch then 1 else 0:=λ i j=>by
    show gAt ((movedF r s k ch).gone.set k (ZV ((movedF r s k ch).gone.getD k []) (jR r ch))) i j=_
    rw [k3];exact XD (by rw [w.go.1];exact hk) (by rw [q];exact c6)
   have G':∀ i j,gAt (vT r s' k ch).1.gone i j=gAt s'.gone i j + if i=k/\j=jR r ch then 1 else 0:=λ i j=>by
    show gAt ((movedF r s' k ch).gone.set k (ZV ((movedF r s' k ch).gone.getD k []) (jR r ch))) i j=_
    rw [k3'];exact XD (by rw [w'.go.1];exact hk) (by rw [q'];exact c6)
   refine ⟨⟨zeJ t2 t1,?_,λ j r2 h2 hs=>?_,λ n hn=>?_⟩,λ i j=>by rw [G,G'];omega⟩
   ·show (movedF r s k ch).sides.set k _=(movedF r s' k ch).sides.set k _
    rw [k2,k2',h.si]
   ·have e:=h.so j r2 h2 hs;rw [xQ,xQ] at e ⊢;rw [G,G',eu,e,<- eu]
   ·show (movedF r s k ch).turn % n=(movedF r s' k ch).turn % n
    rw [k1,k1'];exact h.tu n hn
theorem zc9 {s s':PSt} (h:Alk bs rs s s') (w:stWf bs rs s) (w':stWf bs rs s') (mZ:zS bs rs) (bo:∀ b∈bs,zC b.1 b.2) (ro:∀ r∈rs,r.ok):∀ m,Alk bs rs (zF rs s m).1 (zF rs s' m).1/\∀ i j,gAt (zF rs s m).1.gone i j - gAt s.gone i j=gAt (zF rs s' m).1.gone i j - gAt s'.gone i j
 | 0=>⟨h,λ i j=>by show gAt s.gone i j - _=gAt s'.gone i j - _;omega⟩
 | m + 1=>by
  obtain ⟨a1,a2⟩:=zc9 h w w' mZ bo ro m;obtain ⟨b1,b2⟩:=zfH a1 (jn w mZ bo ro m) (jn w' mZ bo ro m) ro m;refine ⟨b1,λ i j=>?_⟩;have x:=a2 i j;have y:=b2 i j;show gAt (qH rs (zF rs s m).1 m).1.gone i j - _=gAt (qH rs (zF rs s' m).1 m).1.gone i j - _
  omega
def zdI {c c':Av} (h:zw rs c=zw rs c') (p:Nat):zw rs (qU c p)=zw rs (qU c' p):=by
 unfold qU;have e:c.getD (p + 1) none=none ↔ c'.getD (p + 1) none=none:=by rw [<- Zi (rs:=rs),<- Zi (rs:=rs) (c'.getD _ _),WF,WF,h]
 by_cases z:c.getD (p + 1) none=none
 ·rw [ap z,ap (e.mp z),vS,vS,vS,vS,WF,WF,h]
 ·rw [am z,am (λ q=>z (e.mpr q)),h]
theorem zcG {c c':Av} (h:zw rs c=zw rs c'):∀ m,zw rs (wW c m)=zw rs (wW c' m)
 | 0=>h
 | m + 1=>by
  show zw rs (qU (wW c m) (c.length - 2 - m))=zw rs (qU (wW c' m) (c'.length - 2 - m))
  rw [VH h];exact zdI (zcG h m) _
theorem zbk {cs cs':Au} {t t':Int} (h:cs.map (zw rs)=cs'.map (zw rs)) (ht:∀ b∈bs,t % b.2=t' % b.2):∀ i,i<=bs.length->(ql bs t cs i).map (zw rs)=(ql bs t' cs' i).map (zw rs)
 | 0,_=>h
 | i + 1,hi=>by
  have ih:=zbk h ht i (by omega);have e:t % (bs.getD i (0,1)).2=t' % (bs.getD i (0,1)).2:=ht _ (by rw [ae,ac (by omega)];exact getElem_mem _);unfold ql;rw [<- e];by_cases z:t % (bs.getD i (0,1)).2=0
  ·rw [ap z,ap z];refine zcr ih i ?_;unfold zcH;rw [VH (Q5 ih i)];exact zcG (Q5 ih i) _
  ·rw [am z,am z];exact ih
def zcC {s s':PSt} (h:Alk bs rs s s') (w:stWf bs rs s) (w':stWf bs rs s') (mZ:zS bs rs) (bo:∀ b∈bs,zC b.1 b.2) (ro:∀ r∈rs,r.ok):Alk bs rs (passF bs rs s).1 (passF bs rs s').1/\∀ i j,gAt (passF bs rs s).1.gone i j - gAt s.gone i j=gAt (passF bs rs s').1.gone i j - gAt s'.gone i j:=by
 obtain ⟨a1,a2⟩:=zc9 h w w' mZ bo ro rs.length;refine ⟨⟨zbk a1.ce (λ b hb=>a1.tu _ (.inl ⟨b,hb,rfl⟩)) bs.length (aq _),a1.si,a1.so,λ n hn=>?_⟩,a2⟩;show ((zF rs s rs.length).1.turn + 1) % n=((zF rs s' rs.length).1.turn + 1) % n
 rw [eu,a1.tu n hn,<- eu]
theorem Jw {p q:Nat} (h:Alk bs rs (zi bs rs p) (zi bs rs q)) (mZ:zS bs rs) (bo:∀ b∈bs,zC b.1 b.2) (ro:∀ r∈rs,r.ok):∀ m,Alk bs rs (zi bs rs (p + m)) (zi bs rs (q + m))/\∀ i j,gAt (zi bs rs (p + m)).gone i j - gAt (zi bs rs p).gone i j=gAt (zi bs rs (q + m)).gone i j - gAt (zi bs rs q).gone i j
 | 0=>⟨h,λ i j=>by show gAt (zi bs rs p).gone i j - _=gAt (zi bs rs q).gone i j - _;omega⟩
 | m + 1=>by
  obtain ⟨a1,a2⟩:=Jw h mZ bo ro m;obtain ⟨b1,b2⟩:=zcC a1 (zH mZ bo ro _) (zH mZ bo ro _) mZ bo ro;refine ⟨b1,λ i j=>?_⟩;have x:=a2 i j;have y:=b2 i j;show gAt (passF bs rs (zi bs rs (p + m))).1.gone i j - _=gAt (passF bs rs (zi bs rs (q + m))).1.gone i j - _
  omega
end
def xW (c:Av):List (Int × Int):=c.reverse.filterMap id
def atC (cs:Au) (b p:Nat):zE:=(cs.getD b []).getD p none
def qy {α:Type} {l:List α} {i j:Nat} {x d:α}:(l.set i x).getD j d=if i=j/\i < l.length then x else l.getD j d:=by
 rw [ae,ae];by_cases e:i=j
 ·subst e;by_cases h:i < l.length
  ·rw [aY h,ap ⟨rfl,h⟩];rfl
  ·rw [am (λ z=>h z.2),c7 (by omega)]
 ·rw [bH e,am (λ z=>e z.1)]
def XE (c:Av):va c=c.getD (c.length - 1) none:=by
 unfold va;rw [bA,eV,ae]
def Uq (cs:Au):Prop:=∀ b p b' p' x,atC cs b p=some x->atC cs b' p'=some x->b=b'/\p=p'
def GvL (cs:Au) (gs:List A6):Prop:=∀ b p x,atC cs b p=some x->x.2 < gAt gs x.1.toNat 0
def RowM (c c':Av):Prop:=∃ φ:Nat->Nat,(∀ q y,c'.getD q none=some y->c.getD (φ q) none=some y)/\∀ q q' y y',c'.getD q none=some y->c'.getD q' none=some y'->φ q=φ q'->q=q'
section
variable {cs:Au} {gs:List A6} {c c' d:Av}
def RowM.refl:RowM c c:=⟨id,λ _ _ h=>h,λ _ _ _ _ _ _ h=>h⟩
def RowM.trans (h:RowM c c') (h':RowM c' d):RowM c d:=by
 obtain ⟨f,f1,f2⟩:=h;obtain ⟨g,g1,g2⟩:=h';exact ⟨λ q=>f (g q),λ q y e=>f1 _ _ (g1 q y e),λ q q' y y' e e' z=>g2 q q' y y' e e' (f2 _ _ y y' (g1 q y e) (g1 q' y' e') z)⟩
def RowM.take (p:Nat):RowM c (c.set p none):=⟨id,λ q y e=>by
 rw [qy] at e
 split at e
 ·cases e
 ·exact e,λ _ _ _ _ _ _ h=>h⟩
def RowM.mvS (p:Nat):RowM c (qU c p):=by
 unfold qU
 split
 ·have key:∀ q y,((c.set (p + 1) (c.getD p none)).set p none).getD q none=some y->q≠p/\c.getD (if q=p + 1 then p else q) none=some y:=λ q y e=>by
   rw [qy] at e
   split at e
   ·cases e
   ·rename_i h1;rw [qy] at e
    split at e
    ·rename_i h2;rw [ap h2.1.symm];exact ⟨by omega,e⟩
    ·rename_i h2;by_cases e1:q=p + 1
     ·refine absurd e ?_;rw [ae,bt (by have:¬ p + 1 < c.length:=λ z=>h2 ⟨e1.symm,z⟩;omega)];exact λ z=>nomatch z
     ·rw [am e1];refine ⟨λ e2=>h1 ⟨e2.symm,?_⟩,e⟩;rw [bN];refine c9 λ z=>?_;rw [ae,bt (by omega)] at e;cases e
  exact ⟨λ q=>if q=p + 1 then p else q,λ q y e=>(key q y e).2,λ q q' y y' e e' z=>by
   have n1:=(key q y e).1;have n2:=(key q' y' e').1;have z:(if q=p + 1 then p else q)=if q'=p + 1 then p else q':=z
   split at z <;> split at z <;> omega⟩
 ·exact .refl
theorem RowM.mvG:∀ k,RowM c (wW c k)
 | 0=>.refl
 | k + 1=>(RowM.mvG k).trans (.mvS _)
def vm {b b' p:Nat}:atC (cs.set b c) b' p=if b=b'/\b < cs.length then c.getD p none else atC cs b' p:=by
 unfold atC;rw [qy]
 split <;> rfl
def Uq.row (h:Uq cs) {b:Nat} (m:RowM (cs.getD b []) c'):Uq (cs.set b c'):=by
 obtain ⟨f,f1,f2⟩:=m;intro b1 p1 b2 p2 x e1 e2;rw [vm] at e1 e2
 split at e1 <;> split at e2
 ·rename_i h1 h2;obtain ⟨rfl,_⟩:=h1;obtain ⟨rfl,_⟩:=h2;exact ⟨rfl,f2 _ _ x x e1 e2 (h b _ b _ x (f1 _ _ e1) (f1 _ _ e2)).2⟩
 ·rename_i h1 h2;obtain ⟨rfl,l⟩:=h1;obtain ⟨e3,_⟩:=h b _ b2 p2 x (f1 _ _ e1) e2;exact absurd ⟨e3,l⟩ h2
 ·rename_i h1 h2;obtain ⟨rfl,l⟩:=h2;obtain ⟨e3,_⟩:=h b1 p1 b _ x e1 (f1 _ _ e2);exact absurd ⟨e3.symm,l⟩ h1
 ·exact h _ _ _ _ x e1 e2
def GvL.row (h:GvL cs gs) {b:Nat} (m:RowM (cs.getD b []) c'):GvL (cs.set b c') gs:=by
 obtain ⟨f,f1,_⟩:=m;intro b1 p1 x e1;rw [vm] at e1
 split at e1
 ·exact h b _ x (f1 _ _ e1)
 ·exact h _ _ x e1
def Uq.put (h:Uq cs) {x:Int × Int} (no:∀ b p,atC cs b p≠some x) (b:Nat):Uq (cs.set b ((cs.getD b []).set 0 (some x))):=by
 have key:∀ b1 p1 y,atC (cs.set b ((cs.getD b []).set 0 (some x))) b1 p1=some y->(y=x/\b1=b/\p1=0)\/atC cs b1 p1=some y:=λ b1 p1 y e=>by
  rw [vm] at e
  split at e
  ·rename_i h1;obtain ⟨rfl,_⟩:=h1;rw [qy] at e
   split at e
   ·rename_i h2;exact .inl ⟨(aN e).symm,rfl,h2.1.symm⟩
   ·exact .inr e
  ·exact .inr e
 intro b1 p1 b2 p2 y e1 e2;rcases key _ _ _ e1 with ⟨z1,z2,z3⟩|e1 <;> rcases key _ _ _ e2 with ⟨y1,y2,y3⟩|e2
 ·exact ⟨by omega,by omega⟩
 ·exact absurd (z1 ▸ e2) (no _ _)
 ·exact absurd (y1 ▸ e1) (no _ _)
 ·exact h _ _ _ _ y e1 e2
theorem zgU {bs:A1} {t:Int} (h:Uq cs) (g:GvL cs gs):∀ i,Uq (ql bs t cs i)/\GvL (ql bs t cs i) gs
 | 0=>⟨h,g⟩
 | i + 1=>by
  obtain ⟨h1,h2⟩:=zgU (bs:=bs) (t:=t) h g i;rw [ql]
  split
  ·exact ⟨h1.row (RowM.mvG _),h2.row (RowM.mvG _)⟩
  ·exact ⟨h1,h2⟩
end
section
variable {bs:A1} {rs:At} {s:PSt}
def zh0 (w:stWf bs rs s) (ro:∀ r∈rs,r.ok) (h:Uq s.cells) (g:GvL s.cells s.gone) (k:Nat):Uq (qH rs s k).1.cells/\GvL (qH rs s k).1.cells (qH rs s k).1.gone:=by
 have mono:=XN rs s k;unfold qH at mono ⊢;cases hr:rs[k]? with
 | none=>exact ⟨h,g⟩
 | some r =>
  rw [hr] at mono;have ok:=ro r (ah hr);have hk:=(aa.mp hr).1;simp only at mono ⊢;cases hc:qh r (qq rs s.cells r) (qX s.cells r) s.turn (s.sides.getD k 0).toNat with
  | none=>exact ⟨h,g⟩
  | some ch =>
   rw [hc] at mono;simp only at mono ⊢;have sd:=w.so.2 k r _ hr (qr (d:=0) (by rw [w.so.1];exact hk));have sd':wI r ((s.sides.getD k 0).toNat:Int):=by rw [cf sd.1];exact sd
   refine oA6 (wD ok (by simp [qq]) (by simp [qX]) sd' hc) λ c1 _ _ c4 _ c6=>?_;have hgk:k < s.gone.length:=by rw [w.go.1];exact hk
   have gl:=(w.go.2 k r _ hr (qr (xs:=s.gone) (d:=[]) hgk)).1;have gN:(vT r s k ch).1.gone=s.gone.set k (ZV (s.gone.getD k []) (jR r ch)):=by
    show (movedF r s k ch).gone.set k (ZV ((movedF r s k ch).gone.getD k []) (jR r ch))=_
    rw [movedF_keep.2.2]
   have tk:Uq (z7 s k (qF r ch)).2.cells/\(∀ b p x,atC (z7 s k (qF r ch)).2.cells b p=some x->atC s.cells b p=some x)/\∀ x,(z7 s k (qF r ch)).1=some x->(∀ b p,atC (z7 s k (qF r ch)).2.cells b p≠some x)/\x.2 < gAt (vT r s k ch).1.gone x.1.toNat 0:=by
    cases e:qF r ch with
    | none =>
     have hs:r.wd=.source:=by
      cases e1:ch.1 with
      | none=>exact c4 e1
      | some j =>
       unfold qF at e;rw [e1] at e;simp at e;have:=c1 j e1;omega
     refine ⟨h,λ _ _ _ z=>z,λ x ex=>?_⟩;have ex:((k:Int),(s.gone.getD k []).headD 0)=x:=aN ex;subst ex;refine ⟨λ b p z=>?_,?_⟩
     ·have:=g b p _ z;rw [xQ] at this;simp only [aE] at this;omega
     ·rw [gN,xQ];simp only [aE];have cp:jR r ch=0:=by
       have:(qv r).length=1:=by
        have l:=xJ ok;unfold Row.ok at ok;rw [hs] at ok;unfold qv;rw [a8,ok.1];obtain ⟨o,ho⟩:=ok.2.1;rw [ho]
        rfl
       omega
      rw [cp,XD hgk (by rw [gl];omega),ap ⟨rfl,rfl⟩];omega
    | some b =>
     have inn:∀ b1 p1 x,atC (s.cells.set b.toNat (xA (zO s.cells b))) b1 p1=some x->atC s.cells b1 p1=some x:=λ b1 p1 x z=>by
      rw [vm] at z
      split at z
      ·rename_i h1;obtain ⟨rfl,_⟩:=h1;unfold xA at z;rw [qy] at z
       split at z
       ·cases z
       ·exact z
      ·exact z
     refine ⟨h.row (RowM.take _),inn,λ x ex=>?_⟩;have ex:va (zO s.cells b)=some x:=ex;rw [XE] at ex;have at0:atC s.cells b.toNat ((zO s.cells b).length - 1)=some x:=ex;refine ⟨λ b1 p1 z=>?_,gg (g _ _ x at0) (mono _ _)⟩;obtain ⟨e1,e2⟩:=h _ _ _ _ x (inn _ _ _ z) at0;subst e1 e2;have hb:b.toNat < s.cells.length:=c9 λ y=>by
      unfold atC at at0;rw [ae (l:=s.cells),bt (by omega)] at at0;simp at at0
     have hl:(zO s.cells b).length - 1 < (zO s.cells b).length:=c9 λ y=>by
      have:(zO s.cells b).length=0:=by omega
      rw [ae,bt (by omega)] at ex;cases ex
     have z:atC (s.cells.set b.toNat (xA (zO s.cells b))) b.toNat ((zO s.cells b).length - 1)=some x:=z;rw [vm,ap ⟨rfl,hb⟩] at z;unfold xA at z;rw [qy,ap ⟨rfl,hl⟩] at z;cases z
   obtain ⟨u1,u2,u3⟩:=tk;have up:∀ b p x,atC s.cells b p=some x->x.2 < gAt (vT r s k ch).1.gone x.1.toNat 0:=λ b p x z=>gg (g b p x z) (mono _ _);show Uq (movedF r s k ch).cells/\GvL (movedF r s k ch).cells (vT r s k ch).1.gone
   unfold movedF;cases Zy r ch with
   | none=>exact ⟨u1,λ b p x z=>up b p x (u2 b p x z)⟩
   | some b =>
    cases ex:(z7 s k (qF r ch)).1 with
    | none=>exact ⟨u1.row (RowM.take 0),λ b1 p1 x z=>by
      change atC ((z7 s k (qF r ch)).2.cells.set b.toNat ((zO (z7 s k (qF r ch)).2.cells b).set 0 none)) b1 p1=some x at z;rw [vm] at z
      split at z
      ·rw [qy] at z
       split at z
       ·cases z
       ·exact up _ _ x (u2 _ _ x z)
      ·exact up _ _ x (u2 _ _ x z)⟩
    | some x =>
     obtain ⟨no,lx⟩:=u3 x ex;refine ⟨u1.put no b.toNat,λ b1 p1 y z=>?_⟩;change atC ((z7 s k (qF r ch)).2.cells.set b.toNat ((zO (z7 s k (qF r ch)).2.cells b).set 0 (some x))) b1 p1=some y at z;rw [vm] at z
     split at z
     ·rw [qy] at z
      split at z
      ·cases z;exact lx
      ·exact up _ _ y (u2 _ _ y z)
     ·exact up _ _ y (u2 _ _ y z)
theorem zc7 (w:stWf bs rs s) (mZ:zS bs rs) (bo:∀ b∈bs,zC b.1 b.2) (ro:∀ r∈rs,r.ok) (h:Uq s.cells) (g:GvL s.cells s.gone):∀ m,Uq (zF rs s m).1.cells/\GvL (zF rs s m).1.cells (zF rs s m).1.gone
 | 0=>⟨h,g⟩
 | m + 1=>by
  obtain ⟨h1,g1⟩:=zc7 w mZ bo ro h g m;exact zh0 (jn w mZ bo ro m) ro h1 g1 m
theorem zcy (mZ:zS bs rs) (bo:∀ b∈bs,zC b.1 b.2) (ro:∀ r∈rs,r.ok):∀ n,Uq (zi bs rs n).cells/\GvL (zi bs rs n).cells (zi bs rs n).gone
 | 0=>by
  have no:∀ b p,atC (zi bs rs 0).cells b p=none:=λ b p=>by
   show ((bs.map λ b=>List.replicate b.1.toNat (none:zE)).getD b []).getD p none=none
   rw [ae,ae,aj];cases bs[b]? with
   | none=>rfl
   | some y =>
    show ((List.replicate y.1.toNat (none:zE))[p]?).getD none=none
    rw [dg]
    split <;> rfl
  exact ⟨λ b p _ _ x e=>absurd ((no b p).symm.trans e) (λ z=>nomatch z),λ b p x e=>absurd ((no b p).symm.trans e) (λ z=>nomatch z)⟩
 | n + 1=>by
  obtain ⟨h,g⟩:=zcy mZ bo ro n;obtain ⟨h1,g1⟩:=zc7 (zH mZ bo ro n) mZ bo ro h g rs.length;exact zgU h1 g1 _
end
def zfD {n:Nat} (h:n<=30000):n < sizeLine:=bW h (by decide)
def kW (x:Int × Int):List Key:=[.inl x.1,.inl x.2]
def zhF {x y:Int × Int} (h:kW x=kW y):x=y:=by
 obtain ⟨a,b⟩:=x;obtain ⟨c,d⟩:=y;simp only [kW,List.cons.injEq,Sum.inl.injEq,and_true] at h;rw [h.1,h.2]
def queue_mem {c:Av} {x:Int × Int}:x∈xW c ↔ some x∈c:=by
 unfold xW;rw [dX];constructor
 ·rintro ⟨y,h1,h2⟩;have h2:y=some x:=h2;rw [<- h2];exact List.mem_reverse.mp h1
 ·exact λ h=>⟨some x,List.mem_reverse.mpr h,rfl⟩
def flat_mem {cs:Au} {x:Int × Int}:x∈(cs.map xW).flatten ↔ ∃ c∈cs,some x∈c:=by
 rw [List.mem_flatten];constructor
 ·rintro ⟨l,h1,h2⟩;obtain ⟨c,h3,rfl⟩:=bc.mp h1;exact ⟨c,h3,queue_mem.mp h2⟩
 ·rintro ⟨c,h1,h2⟩;exact ⟨xW c,bc.mpr ⟨c,h1,rfl⟩,queue_mem.mpr h2⟩
def zdA (mW:As) (k:List Key) (v:V):(vA mW k v).length<=mW.length + 1:=by
 unfold vA
 split <;> simp
structure LayD (H:Hp) (mW:As) (seen:Int × Int->Prop) (full:Au):Prop where
 n:∀ x,j6 mW (kW x)=none->¬ seen x
 s:∀ x v,j6 mW (kW x)=some v->∃ (t:Addr) (b p:Nat) (c:Av),v=.ref t/\H t=some (.tup [.int b,.int p])/\full[b]?=some c/\c[p]?=some (some x)
section
variable {H H':Hp} {mW:As} {seen seen':Int × Int->Prop} {full:Au}
def LayD.same (h:LayD H mW seen full) (s:Same H H'):LayD H' mW seen full:=⟨h.n,λ x v e=>by
 refine oE4 (h.s x v e) λ t b p c m7=>oA3 m7 λ e1 e2 e3=>?_;clear m7;exact (iE4 t b p c (iA3 e1 (s _ _ e2) e3))⟩
def LayD.less (h:LayD H mW seen full) (s:∀ x,seen' x->seen x):LayD H mW seen' full:=⟨λ x e z=>h.n x e (s x z),h.s⟩
def LayD.put (h:LayD H mW seen full) {D t:Addr} {b p:Nat} {c:Av} {x:Int × Int} (hD:H D=some (.dT mW)) (ht:H t=some (.tup [.int b,.int p])) (hc:full[b]?=some c) (hx:c[p]?=some (some x)):LayD (upd H D (.dT (vA mW (kW x) (.ref t)))) (vA mW (kW x) (.ref t)) (λ y=>seen y\/y=x) full:=by
 have ne:∀ u xs,H u=some (.tup xs)->u≠D:=λ u xs hu z=>by rw [z,hD] at hu;cases hu
 refine ⟨λ y e z=>?_,λ y v e=>?_⟩
 ·rw [V4] at e
  split at e
  ·cases e
  ·rename_i hn;rcases z with z|z
   ·exact h.n y e z
   ·exact hn (by rw [z])
 ·rw [V4] at e
  split at e
  ·rename_i hn;cases e;rw [zhF hn];exact iE4 t b p c (iA4 rfl (by rw [nz (ne t _ ht)];exact ht) hc hx)
  ·refine oE4 (h.s y v e) λ t' b' p' c' m7=>oA3 m7 λ e1 e2 e3=>?_;clear m7;exact iE4 t' b' p' c' (iA3 e1 (by rw [nz (ne t' _ e2)];exact e2) e3)
end
def JQ (cs:Au) (i j:Nat) (x:Int × Int):Prop:=x∈((cs.take i).map xW).flatten\/∃ c,cs[i]?=some c/\some x∈c.take j
def zdl {cs:Au} {c:Av} {x:Int × Int} (h:cs[i]?=some c) (z:x∈((cs.take (i + 1)).map xW).flatten):JQ cs i c.length x:=by
 rw [aO,h,bd,List.flatten_append] at z;rcases aF.mp z with z|z
 ·exact .inl z
 ·refine .inr ⟨c,h,?_⟩;rw [aQ];have z:x∈(xW c ++ []):=z;rw [bU] at z;exact queue_mem.mp z
def zib (a:Ad):Sp:=λ vs H Q _=>∃ (y:Addr) (n:SN) (st:PSt),vs=[.ref y]/\StO a H y n st/\st.cells.length<=24/\(∀ c∈st.cells,c.length<=6)/\∀ D mW H',Same H H'->H D=none->H' D=some (.dT mW)->LayD H' mW (λ x=>x∈(st.cells.map xW).flatten) st.cells->Q (.ref D) H'
theorem Jq (T:Txt K mg a):Cal P w K mg base "cells_by_ware" 1 ["state"] [] (zib a):=T.iP.cal λ F=>by
 refine F.okx Qv ?_ ?_
 ·walk_at "i"
 walk_at "j";refine oE3 h λ y n st m7=>oA5 m7 λ m8 so l24 l6 k=>?_;clear m7 h;subst m8;have hc:=so.hc;have lc:n.acs.length=st.cells.length:=by rw [hc.len,zW,af]
 walk_at "T";refine ⟨_,(zg (zo 1 Qv.nd zeM)  (qg (qo qC rfl (qt (za (zj (pq 0) rfl) zb)) (xL (n:=2) rfl (z9 (qj 2 Qv.nd) (z9 (qj 3 Qv.nd) jF)))  (zc (qo qC rfl (qt (za (pq 3) zb)) (xL (n:=2) rfl (z9 (qj 4 Qv.nd) (z9 (qj 5 Qv.nd) jF)))  (zc (zD (zm Vw (pq 5) zG (zt _))  (zc (zf8 (zcO hr) (pq 1) (pq 5) (qL (za (pq 2) (za (pq 4) zb))) rfl))  zp)))))  (zc (zl (pq 1))))),?_⟩;walk_at "a";intro D hD;have s1:=zf (o:=.dT []) hD;have hD1:upd H D (.dT []) D=some (.dT []):=nk;generalize upd H D (.dT [])=H1 at s1 hD1 ⊢;have ld0:LayD H1 [] (JQ st.cells 0 0) st.cells:=⟨λ x _ z=>by
  rcases z with z|⟨c,_,z⟩
  ·simp at z
  ·simp at z,λ x v e=>by simp [j6] at e⟩
 have keep:∀ {H':Hp} {mW:As} {o:HO},Same H H'->Same H (upd H' D o):=λ s b u hb=>by
  rw [nz (nA hb hD)];exact s b u hb
 refine cut (λ σ' H'=>∃ (v2 v3 v4 v5:Aq) (mW:As),σ'=[some (.ref y),some (.ref D),v2,v3,v4,v5]/\Same H H'/\H' D=some (.dT mW)/\LayD H' mW (λ x=>x∈(st.cells.map xW).flatten) st.cells) ?_ ?_
 ·walk_at "d";walk_at "a";refine ra (s1 _ _ so.hy) T.gq T.gw rfl ?_;refine iE2 n.lc _ (iA3 rfl (s1 _ _ hc.out) ?_);refine Ql (K:=K) (a:=n.lc) (xs:=n.acs.map V.ref) (λ i σ H'=>∃ (v2 v3 v4 v5:Aq) (mW:As),σ=[some (.ref y),some (.ref D),v2,v3,v4,v5]/\Same H H'/\H' D=some (.dT mW)/\LayD H' mW (λ x=>x∈((st.cells.take i).map xW).flatten) st.cells/\mW.length<=6 * i) (iE5 _ _ _ _ ([]) (iA5 rfl s1 hD1 (ld0.less λ x z=>by simp at z) (aq _))) (λ i σ H' _ h=>by obtain ⟨_,_,_,_,_,_,s,_⟩:=h;exact SqL.of (s _ _ hc.out)) ?_ ?_
  ·intro i x t σ H2 hi ht m9;refine oE5 m9 λ v2 v3 v4 v5 mW m7=>oA5 m7 λ m8 s2 hD2 ld2 lk2=>?_;clear m7 m9;subst m8;rw [aj,au] at hi;obtain ⟨cb,hcb,rfl⟩:=hi;have hil:i < st.cells.length:=by rw [<- lc];exact (aa.mp hcb).1
   obtain ⟨c,ec⟩:∃ c,st.cells[i]?=some c:=⟨_,ac hil⟩;obtain ⟨vs,hvs,rvs⟩:=hc.g i cb _ hcb (show (zW st.cells)[i]?=some (c.map qf) by rw [zW,aj,ec];rfl);have lv:vs.length=c.length:=by rw [rvs.len,af]
   have c6:=l6 c (ah ec);have st2:=zf (o:=.tup [.int i,.ref cb]) ht;refine un2 nk ?_;have s3:=s2.trans st2;have hD3:=st2 _ _ hD2;have ld3:=ld2.same st2;generalize upd H2 t (.tup [.int i,.ref cb])=H3 at s3 hD3 ld3 ⊢;clear ld2 hD2 s2 st2 ht;walk_at "d";walk_at "a";refine iE2 cb _ (iA3 rfl (s3 _ _ hvs) ?_);refine Ql (K:=K) (a:=cb) (xs:=vs) (λ j σ H'=>∃ (v4 v5:Aq) (mW:As),σ=[some (.ref y),some (.ref D),some (.int i),some (.ref cb),v4,v5]/\Same H H'/\H' D=some (.dT mW)/\LayD H' mW (JQ st.cells i j) st.cells/\mW.length<=6 * i + j) ⟨_,_,mW,rfl,s3,hD3,ld3.less λ x z=>by
    rcases z with z|⟨_,_,z⟩
    ·exact z
    ·simp at z,lk2⟩ (λ i σ H' _ h=>by obtain ⟨_,_,_,_,s,_⟩:=h;exact SqL.of (s _ _ hvs)) ?_ ?_
   ·clear ld3 hD3 s3 lk2;intro j v t σ H4 hj ht m9;refine oE3 m9 λ v4 v5 mW m7=>oA5 m7 λ m8 s4 hD4 ld4 lk4=>?_;clear m7 m9;subst m8;obtain ⟨d,hd,rv⟩:=rvs.at hj;rw [aj,au] at hd;obtain ⟨wr,hwr,rfl⟩:=hd;have hjl:j < c.length:=(aa.mp hwr).1;have sn:∀ x,JQ st.cells i (j + 1) x->JQ st.cells i j x\/wr=some x:=λ x z=>by
     rcases z with z|⟨c',e,z⟩
     ·exact .inl (.inl z)
     ·rw [ec] at e;cases e;rw [aO,hwr] at z;rcases aF.mp z with z|z
      ·exact .inl (.inr ⟨c,ec,z⟩)
      ·exact .inr (ar.mp z).symm
    have st4:=zf (o:=.tup [.int j,v]) ht;refine un2 nk ?_;have s5:=s4.trans st4;have hD5:=st4 _ _ hD4;have ld5:=ld4.same st4;generalize upd H4 t (.tup [.int j,v])=H5 at s5 hD5 ld5 ⊢;clear ld4 hD4 s4 st4 ht;cases wr with
    | none =>
     have rv:Rep H (zU H) v .non:=rv;cases rv;walk_at "a";exact iE3 _ _ mW (iA5 rfl s5 hD5 (ld5.less λ x z=>(sn x z).elim id (λ z=>nomatch z)) (by omega))
    | some x =>
     obtain ⟨tx,rfl,htx⟩:=vM (b:=x) rv;walk_at "a";intro t6 ht6;have st6:=zf (o:=.tup [.int i,.int j]) ht6;have s6:=s5.trans st6;have hD6:=st6 _ _ hD5;have ld6:=ld5.same st6;have ht6':upd H5 t6 (.tup [.int i,.int j]) t6=some (.tup [.int i,.int j]):=nk;generalize upd H5 t6 (.tup [.int i,.int j])=H6 at s6 hD6 ld6 ht6' ⊢;refine iE2 D _ (iA3 rfl (DPut.t (k:=kW x) hD6 (s6 _ _ htx) (zfD (by omega))) ?_);have pl:=zdA mW (kW x) (.ref t6);refine iE3 _ _ _ (iA5 rfl (keep (mW:=mW) s6) nk ((ld6.put hD6 ht6' ec hwr).less λ z hz=>(sn z hz).imp id (λ e=>by cases e;rfl)) (by omega))
   ·intro σ H4 m9;refine oE3 m9 λ v4 v5 mW m7=>oA5 m7 λ m8 s4 hD4 ld4 lk4=>?_;clear m7 m9;subst m8;rw [lv] at ld4 lk4;exact iE5 _ _ _ _ mW (iA5 rfl s4 hD4 (ld4.less λ x z=>zdl ec z) (by omega))
  ·intro σ H2 m9;refine oE5 m9 λ v2 v3 v4 v5 mW m7=>oA5 m7 λ m8 s2 hD2 ld2 lk2=>?_;clear m7 m9;subst m8;rw [af,lc,aQ] at ld2;exact iE5 _ _ _ _ mW (iA4 rfl s2 hD2 ld2)
 intro σ' H2 m9;refine oE5 m9 λ v2 v3 v4 v5 mW m7=>oA4 m7 λ m8 s2 hD2 ld2=>?_;clear m7 m9;subst m8;walk_at "a";exact k D mW _ s2 hD hD2 ld2
inductive Org|no|kept (b p:Nat)|new (k:Nat) (m:Int)
def zbS:Org->D
 | .no=>.non
 | .kept b p=>.tup [.str "kept",.int b,.int p]
 | .new k m=>.tup [.str "new",.int k,.int m]
def WX (s0:PSt):zE->Org->Prop
 | none,.no=>True
 | some x,.kept b p=>∃ c,s0.cells[b]?=some c/\c[p]?=some (some x)
 | some x,.new k m=>x.1=k/\x ∉ (s0.cells.map xW).flatten/\m=x.2 - (s0.gone.getD k []).headD 0/\∃ g0 gs,s0.gone[k]?=some (g0 :: gs)
 | _,_=>False
def zfs (s0:PSt) (wr:zE):Prop:=∀ x,wr=some x->∃ (k:Nat) (g0:Int) (gs:A6),x.1=k/\s0.gone[k]?=some (g0 :: gs)
def zer (a:Ad):Sp:=λ vs H Q _=>∃ (vw:V) (D y:Addr) (n:SN) (s0:PSt) (wr:zE) (mW:As) (p:A5),vs=[vw,.ref D,.ref y]/\Rep H p vw (qf wr)/\H D=some (.dT mW)/\LayD H mW (λ x=>x∈(s0.cells.map xW).flatten) s0.cells/\StO a H y n s0/\zfs s0 wr/\∀ v H' o,Same H H'->Rep H' (New H) v (zbS o)->WX s0 wr o->Q v H'
theorem zbb (T:Txt K mg a):Cal P w K mg base "origin_of" 1 ["ware","lay","before"] [] (zer a):=T.lD.cal λ F=>by
 refine F.okx Vj ?_ ?_
 ·walk_at "i"
 walk_at "j";refine oE8 h λ vw D y n s0 wr mW p m7=>oA7 m7 λ m8 rv hD ld so ca k=>?_;clear m7 h;subst m8;walk_at "T";refine ⟨_,(zg (zD (zm jo (pq 0) zG (zt _))  (zc (zl zG))  zp)  (zg (zD (zeI (zhp (zcO hr) (pq 0) (pq 1)) (by with_unfolding_all rfl))  (zc (zl (qL (za ju (za (zn (zcA (zcO hr) (pq 1) (pq 0) (λ _ _=>rfl)) zd) (za (zn (zcA (zcO hr) (pq 1) (pq 0) (λ _ _=>rfl)) zd) zb))))))  zp)  (zc (zl (qL (za ju (za (zn (pq 0) zd) (za (zr xn (zn (pq 0) zd) (zn (zn (zj (pq 2) rfl) (zn (pq 0) zd)) zd)) zb)))))))),?_⟩;walk_at "a";cases wr with
 | none =>
  have rv:Rep H p vw .non:=rv;cases rv;walk_at "a";exact k _ _ .no (Same.refl _) .non trivial
 | some x =>
  obtain ⟨tx,rfl,htx⟩:=vM (b:=x) rv;walk_at "a";refine iE2 D _ (iA3 rfl (DGet.t (k:=kW x) hD htx) ?_);cases ev:j6 mW (kW x) with
  | some v =>
   refine oE4 (ld.s x v ev) λ t b q c m7=>oA4 m7 λ m8 ht e1 e2=>?_;clear m7;subst m8;walk_at "a";refine iE2 D (.ref t) (iA3 rfl (by rw [<- ev];exact DGet.t (k:=kW x) hD htx) (nC ht at0 ?_));refine iE2 D (.ref t) (iA3 rfl (by rw [<- ev];exact DGet.t (k:=kW x) hD htx) (nC ht (show atI _ 1=some (.int q) from rfl) ?_));intro t2 ht2;exact k _ _ (.kept b q) (zf ht2) (Reps.mkT (vs:=[.str "kept",.int b,.int q]) (.cons .str (.cons .int (.cons .int .nil))) ht2 nk) ⟨c,e1,e2⟩
  | none =>
   refine oE3 (ca x rfl) λ kk g0 gs m7=>oA2 m7 λ ek eg=>?_;clear m7;obtain ⟨bG,hbG,hgG⟩:=xo so.hg eg;have hmap:(n.ags.map V.ref)[kk]?=some (.ref bG):=by rw [aj,hbG];rfl
   walk_at "a";refine nC htx at0 (nC htx (show atI _ 1=some (.int x.2) from rfl) ?_);refine ra so.hy T.gq T.gx rfl ?_;refine nC htx at0 ?_;rw [ek];refine zq (SqL.of so.hg.out) (zz hmap) (zq (SqL.of hgG) at0 ?_);walk_at "a";intro t2 ht2;refine k _ _ (.new kk (x.2 - g0)) (zf ht2) (Reps.mkT (vs:=[.str "new",.int kk,.int (x.2 - g0)]) (.cons .str (.cons .int (.cons .int .nil))) ht2 nk) (iA4 ek (ld.n x ev) ?_ (iE2 g0 gs eg));rw [ae,eg]
   rfl
def V0 (s0 s1:PSt) (oss:List (List Org)):Prop:=oss.length=s1.cells.length/\∀ (i:Nat) os c,oss[i]?=some os->s1.cells[i]?=some c->os.length=c.length/\∀ (j:Nat) o wr,os[j]?=some o->c[j]?=some wr->WX s0 wr o
def zcE (oss:List (List Org)):D:=.lst (oss.map λ os=>.lst (os.map zbS))
def zdg (a:Ad):Sp:=λ vs H Q _=>∃ (y0 y1:Addr) (n0 n1:SN) (s0 s1:PSt),vs=[.ref y0,.ref y1]/\StO a H y0 n0 s0/\StO a H y1 n1 s1/\s0.cells.length<=24/\(∀ c∈s0.cells,c.length<=6)/\s1.cells.length<=24/\(∀ c∈s1.cells,c.length<=6/\∀ wr∈c,zfs s0 wr)/\∀ l H' oss,Same H H'->Rep H' (New H) (.ref l) (zcE oss)->V0 s0 s1 oss->Q (.ref l) H'
def VT (T:Txt K mg a):Cal P w K mg base "origins_of" 2 ["before","after"] [] (zdg a):=T.kT.cal λ F=>by
 refine F.okx XX ?_ ?_
 ·walk_at "i"
 walk_at "j";refine oE6 h λ y0 y1 n0 n1 s0 s1 m7=>oA8 m7 λ m8 so0 so1 l24 l6 m24 m6 k=>?_;clear m7 h;subst m8;walk_at "T";refine ⟨_,(zg (J8 (i:=2) XX.nd rfl (Or.inr rfl) (zx ⟨rfl,rfl,rfl⟩ hr (za (pq 0) zb)))  (zg (zo 3 XX.nd (zI zb))  (qg (qo qC rfl (qp (zj (pq 1) rfl)) (qj 4 XX.nd)  (zc (zu (qB ao ay ax zL (pq 3) (za (jK (vars:=["ware"]) (caps:=[2,0]) (N:=["ware","lay","before"]) (ON:=["before","after","lay","origins","cells"]) (osc:=ze xq) rfl rfl (by first|decide +kernel|kernel_rfl) rfl rfl (qp (pq 4)) (λ s H fp m5=>(qj 0 (show (["ware","lay","before"]:A8).Nodup from by decide +kernel))) (λ s H fp m5=>qk) (λ s H fp m5=>(ZN hr (za (pq 0) (za (pq 1) (za (pq 2) zb)))))) zb)))))  (zc (zl (pq 3)))))),?_⟩;walk_at "a";refine uc (Jq T).mono (iE3 y0 n0 s0 (iA5 rfl so0 l24 l6 (λ D mW H1 s1' nD hD ld=>?_)));walk_at "a";intro l hl;have sl:=zf (o:=.lst []) hl;have s2:=s1'.trans sl;have nl0:=zB s1' hl;have hD2:=sl _ _ hD;have ld2:=ld.same sl;have hl2:upd H1 l (.lst []) l=some (.lst []):=nk;generalize upd H1 l (.lst [])=H2 at s2 hD2 ld2 hl2 ⊢;have hc:=so1.hc;have lc:n1.acs.length=s1.cells.length:=by rw [hc.len,zW,af]
 clear ld hD s1' sl;walk_at "a";refine cut (λ σ' H'=>∃ (v4:Aq) (us:Ap) (oss:List (List Org)),σ'=[some (.ref y0),some (.ref y1),some (.ref D),some (.ref l),v4]/\Same H H'/\H' l=some (.lst us)/\Reps H' (λ b=>H b=none/\b≠l) us (oss.map λ os=>.lst (os.map zbS))/\V0 s0 s1 oss) ?_ ?_
 ·walk_at "d";walk_at "a";refine ra (s2 _ _ so1.hy) T.gq T.gw rfl ?_;refine ⟨n1.lc,rfl,.inl ⟨⟨_,SqL.of (s2 _ _ hc.out)⟩,?_⟩⟩;refine qS (K:=K) (a:=n1.lc) (xs:=n1.acs.map V.ref) (λ i σ H'=>∃ (v4:Aq) (us:Ap) (oss:List (List Org)),σ=[some (.ref y0),some (.ref y1),some (.ref D),some (.ref l),v4]/\Same H H'/\H' D=some (.dT mW)/\LayD H' mW (λ x=>x∈(s0.cells.map xW).flatten) s0.cells/\H' l=some (.lst us)/\Reps H' (λ b=>H b=none/\b≠l) us (oss.map λ os=>.lst (os.map zbS))/\oss.length=i/\∀ (i':Nat) os c,oss[i']?=some os->s1.cells[i']?=some c->os.length=c.length/\∀ (j:Nat) o wr,os[j]?=some o->c[j]?=some wr->WX s0 wr o)
   ⟨_,[],[],rfl,s2,hD2,ld2,hl2,.nil,rfl,λ i' os c e=>by simp at e⟩ (λ i σ H' _ h=>by obtain ⟨_,_,_,_,s,_⟩:=h;exact SqL.of (s _ _ hc.out)) ?_ ?_
  ·intro i x σ H3 hi m9;refine oE3 m9 λ v4 us oss m7=>oA8 m7 λ m8 s3 hD3 ld3 hl3 r3 lo ok3=>?_;clear m7 m9;subst m8;rw [aj,au] at hi;obtain ⟨cb,hcb,rfl⟩:=hi;have hil:i < s1.cells.length:=by rw [<- lc];exact (aa.mp hcb).1
   obtain ⟨c,ec⟩:∃ c,s1.cells[i]?=some c:=⟨_,ac hil⟩;obtain ⟨vs,hvs,rvs⟩:=hc.g i cb _ hcb (show (zW s1.cells)[i]?=some (c.map qf) by rw [zW,aj,ec];rfl);have lv:vs.length=c.length:=by rw [rvs.len,af]
   obtain ⟨c6,cw⟩:=m6 c (ah ec);have lu:us.length=i:=by rw [r3.len,af,lo]
   walk_at "a";refine ⟨.inl ⟨rfl,_,SqL.of hl3⟩,?_⟩;walk_at "e";walk_at "a";refine ⟨cb,rfl,.inl ⟨⟨_,SqL.of (s3 _ _ hvs)⟩,λ _ _ _ _ mY hacc=>?_⟩⟩;refine qS (K:=K) (a:=cb) (xs:=vs) (λ j σ H'=>∃ (v0:Aq) (ws:Ap) (os:List Org),σ=[v0,some (.ref D),some (.ref y0)]/\Same H3 H'/\H' mY=some (.lst ws)/\Reps H' (λ b=>H3 b=none/\b≠mY) ws (os.map zbS)/\os.length=j/\∀ (j':Nat) o wr,os[j']?=some o->c[j']?=some wr->WX s0 wr o) (iE3 _ ([]) ([]) (iA6 rfl (zf hacc) nk (.nil) rfl (λ j' o wr e=>by simp at e))) (λ i σ H' _ h=>by obtain ⟨_,_,_,_,s,_⟩:=h;exact SqL.of (s _ _ (s3 _ _ hvs))) ?_ ?_
   ·intro j v σ H4 hj m9;refine oE3 m9 λ v0 ws os m7=>oA6 m7 λ m8 s4 ha4 r4 lo4 ok4=>?_;clear m7 m9;subst m8;obtain ⟨d,hd,rv⟩:=rvs.at hj;rw [aj,au] at hd;obtain ⟨wr,hwr,rfl⟩:=hd;have hjl:j < c.length:=(aa.mp hwr).1;have s04:=s3.trans s4;have lw:ws.length=j:=by rw [r4.len,af,lo4]
    walk_at "a";refine uc (zbb T).mono (iE8 v D y0 n0 s0 wr mW _ (iA7 rfl (rv.keep (λ b o hb ho=>⟨hb,s04 _ _ ho⟩)) (s4 _ _ hD3) (ld3.same s4) (so0.same s04) (cw wr (ah hwr)) (λ v' H5 o s5 r5 ok5=>?_)));have f6:Fr [mY] H5 (upd H5 mY (.lst (ws ++ [v']))):=qz (by simp);refine ⟨_,iA3 (s5 _ _ ha4) (zk (by omega)) (iE3 _ (ws ++ [v']) (os ++ [o]) (iA6 rfl (((s4.trans s5).fr.trans f6).same (by intro m hm;rw [ar.mp hm];exact hacc)) nk ?_ (by simp [lo4]) (λ j' o' wr' e1 e2=>?_)))⟩
    ·rw [bd];refine (r4.keep λ b u hb ho=>⟨hb,f6 _ _ (λ z=>hb.2 (ar.mp z)) (s5 _ _ ho)⟩).append (.one (r5.keep λ b u hb ho=>?_));have hb:H4 b=none:=hb;have nb:b≠mY:=λ z=>by rw [z,ha4] at hb;cases hb
     exact ⟨⟨zB s4 hb,nb⟩,f6 _ _ (λ z=>nb (ar.mp z)) ho⟩
    ·by_cases hj':j' < os.length
     ·rw [aT hj'] at e1;exact ok4 j' o' wr' e1 e2
     ·rw [aJ (by omega)] at e1;have hz:=(aa.mp e1).1;have:j'=j:=by simp at hz;omega
      subst this;rw [lo4,fv] at e1;cases e1;rw [hwr] at e2;cases e2;exact ok5
   ·intro σ H4 m9;refine oE3 m9 λ v0 ws os m7=>oA6 m7 λ m8 s4 ha4 r4 lo4 ok4=>?_;clear m7 m9;subst m8;rw [lv] at lo4;have s04:=s3.trans s4;have f6:Fr [l] H4 (upd H4 l (.lst (us ++ [.ref mY]))):=qz (by simp);have nacl:mY≠l:=λ z=>by rw [z,hl3] at hacc;cases hacc
    have nac0:H mY=none:=zB s3 hacc;refine iE3 l _ _ (iA5 rfl rfl (s4 _ _ hl3) (zk (by omega)) ?_);have nDl:D≠l:=λ z=>by rw [z,hl3] at hD3;cases hD3
    have ld6:LayD (upd H4 l (.lst (us ++ [.ref mY]))) mW (λ x=>x∈(s0.cells.map xW).flatten) s0.cells:=⟨ld3.n,λ x v e=>by
     refine oE4 (ld3.s x v e) λ t b p c m7=>oA3 m7 λ e1 e2 e3=>?_;clear m7;have nt:t≠l:=λ z=>by rw [z,hl3] at e2;cases e2
     exact (iE4 t b p c (iA3 e1 (by rw [nz nt];exact s4 _ _ e2) e3))⟩
    refine iE3 _ (us ++ [.ref mY]) (oss ++ [os]) (iA8 rfl ((s04.fr.trans f6).same (by intro m hm;rw [ar.mp hm];exact nl0)) (by rw [nz nDl];exact s4 _ _ hD3) ld6 nk ?_ (by simp [lo]) (λ i' os' c' e1 e2=>?_))
    ·rw [bd];refine (r3.keep λ b u hb ho=>⟨hb,f6 _ _ (λ z=>hb.2 (ar.mp z)) (s4 _ _ ho)⟩).append (.one ?_);have r6:Reps (upd H4 l (.lst (us ++ [.ref mY]))) (λ b=>H b=none/\b≠l) ws (os.map zbS):=r4.keep λ b u hb ho=>by
      have nb:b≠l:=λ z=>by rw [z,hl3] at hb;cases hb.1
      exact ⟨⟨zB s3 hb.1,nb⟩,f6 _ _ (λ z=>nb (ar.mp z)) ho⟩
     exact r6.mk' ⟨nac0,nacl⟩ (by rw [nz nacl];exact ha4)
    ·by_cases hi':i' < oss.length
     ·rw [aT hi'] at e1;exact ok3 i' os' c' e1 e2
     ·rw [aJ (by omega)] at e1;have hz:=(aa.mp e1).1;have:i'=i:=by simp at hz;omega
      subst this;rw [lo,fv] at e1;cases e1;rw [ec] at e2;cases e2;exact ⟨lo4,ok4⟩
  ·intro σ H3 m9;refine oE3 m9 λ v4 us oss m7=>oA8 m7 λ m8 s3 hD3 ld3 hl3 r3 lo ok3=>?_;clear m7 m9;subst m8;rw [af,lc] at lo;exact iE3 _ us oss (iA6 rfl s3 hl3 r3 lo ok3)
 intro σ' H3 m9;refine oE3 m9 λ v4 us oss m7=>oA5 m7 λ m8 s3 hl3 r3 ok3=>?_;clear m7 m9;subst m8;walk_at "a";exact k l _ oss s3 (Reps.mk' (r3.keep λ b u hb ho=>⟨hb.1,ho⟩) nl0 hl3) ok3
def OR (ρ:Ah):zE->zE->Prop
 | none,none=>True
 | some x,some y=>ρ x y
 | _,_=>False
def OR.none_iff {ρ:Ah} {x y:zE} (h:OR ρ x y):x=none ↔ y=none:=by
 cases x <;> cases y <;> simp [OR] at h ⊢
def RowR (ρ:Ah) (c c':Av):Prop:=c.length=c'.length/\∀ p,OR ρ (c.getD p none) (c'.getD p none)
def RelC (ρ:Ah) (cs cs':Au):Prop:=cs.length=cs'.length/\∀ b,RowR ρ (cs.getD b []) (cs'.getD b [])
section
variable {ρ:Ah} {c c':Av} {cs cs':Au}
def RowR.set (h:RowR ρ c c') (p:Nat) {x x':zE} (hx:OR ρ x x'):RowR ρ (c.set p x) (c'.set p x'):=by
 refine ⟨by rw [bN,bN];exact h.1,λ q=>?_⟩;rw [qy,qy,h.1]
 split
 ·exact hx
 ·exact h.2 q
def RowR.fin (h:RowR ρ c c'):OR ρ (va c) (va c'):=by
 rw [XE,XE,h.1];exact h.2 _
def RelC.set (h:RelC ρ cs cs') (b:Nat) (hc:RowR ρ c c'):RelC ρ (cs.set b c) (cs'.set b c'):=by
 refine ⟨by rw [bN,bN];exact h.1,λ q=>?_⟩;rw [qy,qy,h.1]
 split
 ·exact hc
 ·exact h.2 q
def RelC.cell (h:RelC ρ cs cs') (b:Int):RowR ρ (zO cs b) (zO cs' b):=h.2 _
def RowR.mvS (h:RowR ρ c c') (p:Nat):RowR ρ (qU c p) (qU c' p):=by
 unfold qU;by_cases e:c.getD (p + 1) none=none
 ·rw [ap e,ap ((h.2 (p + 1)).none_iff.mp e)];exact (h.set (p + 1) (h.2 p)).set p trivial
 ·rw [am e,am (λ z=>e ((h.2 (p + 1)).none_iff.mpr z))];exact h
theorem RowR.mvG (h:RowR ρ c c'):∀ k,RowR ρ (wW c k) (wW c' k)
 | 0=>h
 | k + 1=>by rw [wW,wW,h.1];exact (RowR.mvG h k).mvS _
theorem RelC.on {bs:A1} {t t':Int} (h:RelC ρ cs cs') (ht:∀ b∈bs,t % b.2=t' % b.2):∀ i,RelC ρ (ql bs t cs i) (ql bs t' cs' i)
 | 0=>h
 | i + 1=>by
  have e:t % (bs.getD i (0,1)).2=t' % (bs.getD i (0,1)).2:=by
   rw [ae];cases z:bs[i]? with
   | none=>show t % 1=t' % 1;omega
   | some b=>exact ht b (ah z)
  have ih:=RelC.on h ht i;rw [ql,ql,e]
  split
  ·refine ih.set i ?_;unfold zcH;rw [(ih.2 i).1];exact (ih.2 i).mvG _
  ·exact ih
end
structure Sim (bs:A1) (rs:At) (ρ:Ah) (s s':PSt):Prop where
 al:Alk bs rs s s'
 ce:RelC ρ s.cells s'.cells
 nw:∀ (k:Nat) r (d:Nat),rs[k]?=some r->r.wd=.source->ρ ((k:Int),gAt s.gone k 0 + d) ((k:Int),gAt s'.gone k 0 + d)
section
variable {bs:A1} {rs:At} {ρ:Ah} {s s':PSt}
def zgG (h:Sim bs rs ρ s s') (w:stWf bs rs s) (w':stWf bs rs s') (ro:∀ r∈rs,r.ok) (k:Nat):Sim bs rs ρ (qH rs s k).1 (qH rs s' k).1:=by
 obtain ⟨a1,a2⟩:=zfH h.al w w' ro k;refine ⟨a1,?_,λ j r d hr hs=>?_⟩
 ·unfold qH;cases hr:rs[k]? with
  | none=>exact h.ce
  | some r =>
   have ok:=ro r (ah hr);have hk:=(aa.mp hr).1;simp only;rw [<- zaZ h.al.ce,<- zcQ h.al.ce,<- h.al.si,<- WM (t:=s.turn) ok (λ z p=>h.al.tu _ (.inr ⟨r,ah hr,z,rfl,p⟩))];cases hc:qh r (qq rs s.cells r) (qX s.cells r) s.turn (s.sides.getD k 0).toNat with
   | none=>exact h.ce
   | some ch =>
    have sd:=w.so.2 k r _ hr (qr (d:=0) (by rw [w.so.1];exact hk));have sd':wI r ((s.sides.getD k 0).toNat:Int):=by rw [cf sd.1];exact sd
    refine oA5 (wD ok (by simp [qq]) (by simp [qX]) sd' hc) λ c1 _ _ c4 _=>?_;have tk:OR ρ (z7 s k (qF r ch)).1 (z7 s' k (qF r ch)).1/\RelC ρ (z7 s k (qF r ch)).2.cells (z7 s' k (qF r ch)).2.cells:=by
     cases e:qF r ch with
     | none =>
      refine ⟨?_,h.ce⟩;have hs:r.wd=.source:=by
       cases e1:ch.1 with
       | none=>exact c4 e1
       | some j =>
        unfold qF at e;rw [e1] at e;simp at e;have:=c1 j e1;omega
      show ρ ((k:Int),(s.gone.getD k []).headD 0) ((k:Int),(s'.gone.getD k []).headD 0)
      have:=h.nw k r 0 hr hs;rw [xQ,xQ];simpa using this
     | some b =>
      refine ⟨(h.ce.cell b).fin,?_⟩;refine h.ce.set b.toNat ?_;unfold xA;rw [(h.ce.cell b).1];exact (h.ce.cell b).set _ trivial
    show RelC ρ (movedF r s k ch).cells (movedF r s' k ch).cells
    unfold movedF;cases Zy r ch with
    | none=>exact tk.2
    | some b=>exact tk.2.set b.toNat ((tk.2.cell b).set 0 tk.1)
 ·have m:=XN rs s k j 0;have e:=a2 j 0;have m:gAt s.gone j 0<=gAt (qH rs s k).1.gone j 0:=m;have:=h.nw j r ((gAt (qH rs s k).1.gone j 0 - gAt s.gone j 0).toNat + d) hr hs;rw [show gAt s.gone j 0 + (((gAt (qH rs s k).1.gone j 0 - gAt s.gone j 0).toNat + d:Nat):Int)=gAt (qH rs s k).1.gone j 0 + d by omega,show gAt s'.gone j 0 + (((gAt (qH rs s k).1.gone j 0 - gAt s.gone j 0).toNat + d:Nat):Int)=gAt (qH rs s' k).1.gone j 0 + d by omega] at this;exact this
theorem zbn (h:Sim bs rs ρ s s') (w:stWf bs rs s) (w':stWf bs rs s') (mZ:zS bs rs) (bo:∀ b∈bs,zC b.1 b.2) (ro:∀ r∈rs,r.ok):∀ m,Sim bs rs ρ (zF rs s m).1 (zF rs s' m).1
 | 0=>h
 | m + 1=>zgG (zbn h w w' mZ bo ro m) (jn w mZ bo ro m) (jn w' mZ bo ro m) ro m
def zeP (h:Sim bs rs ρ s s') (w:stWf bs rs s) (w':stWf bs rs s') (mZ:zS bs rs) (bo:∀ b∈bs,zC b.1 b.2) (ro:∀ r∈rs,r.ok):Sim bs rs ρ (passF bs rs s).1 (passF bs rs s').1:=by
 have i:=zbn h w w' mZ bo ro rs.length;exact ⟨(zcC h.al w w' mZ bo ro).1,i.ce.on (λ b hb=>i.al.tu _ (.inl ⟨b,hb,rfl⟩)) _,i.nw⟩
theorem zaC (mZ:zS bs rs) (bo:∀ b∈bs,zC b.1 b.2) (ro:∀ r∈rs,r.ok) {p q:Nat} (h:Sim bs rs ρ (zi bs rs p) (zi bs rs q)):∀ m,Sim bs rs ρ (zi bs rs (p + m)) (zi bs rs (q + m))
 | 0=>h
 | m + 1=>zeP (zaC mZ bo ro h m) (zH mZ bo ro _) (zH mZ bo ro _) mZ bo ro
end
def zig (rs:At) (s t:PSt) (x y:Int × Int):Prop:=(∃ b p,atC s.cells b p=some x/\atC t.cells b p=some y)\/∃ (k:Nat) (r:Row) (d:Nat),rs[k]?=some r/\r.wd=.source/\x=((k:Int),gAt s.gone k 0 + d)/\y=((k:Int),gAt t.gone k 0 + d)
noncomputable def zio (s0 s1 t:PSt) (n:Nat):Org->zE
 | .no=>none
 | .kept b p=>atC t.cells b p
 | .new k m=>some ((k:Int),gAt s0.gone k 0 + n * (gAt s1.gone k 0 - gAt s0.gone k 0) + m)
section
variable {bs:A1} {rs:At}
def zhb {s t:PSt} (h:Alk bs rs s t):Sim bs rs (zig rs s t) s t:=by
 refine ⟨h,⟨by have:=bP List.length h.ce;rw [af,af] at this;exact this,λ b=>⟨VH (Q5 h.ce b),λ p=>?_⟩⟩,λ k r d hr hs=>.inr (iE3 k r d (iA4 hr hs rfl rfl))⟩;have e:jL rs ((s.cells.getD b []).getD p none)=jL rs ((t.cells.getD b []).getD p none):=by rw [WF,WF,Q5 h.ce b]
 cases e1:(s.cells.getD b []).getD p none with
 | none =>
  rw [e1] at e;rw [(Zi _).mp e.symm]
  trivial
 | some x =>
  cases e2:(t.cells.getD b []).getD p none with
  | none=>rw [e1,e2] at e;exact absurd ((Zi _).mp e) (λ z=>nomatch z)
  | some y=>exact .inl ⟨b,p,e1,e2⟩
def Alk.refl (s:PSt):Alk bs rs s s:=⟨rfl,rfl,λ _ _ _ _=>rfl,λ _ _=>rfl⟩
def Alk.trans {s t u:PSt} (h:Alk bs rs s t) (h':Alk bs rs t u):Alk bs rs s u:=⟨h.ce.trans h'.ce,h.si.trans h'.si,λ j r a b=>(h.so j r a b).trans (h'.so j r a b),λ n a=>(h.tu n a).trans (h'.tu n a)⟩
variable (mZ:zS bs rs) (bo:∀ b∈bs,zC b.1 b.2) (ro:∀ r∈rs,r.ok) {lim i j:Nat} (rd:RoundAt bs rs lim i j)
include mZ bo ro rd
theorem zb3:∀ n,Alk bs rs (zi bs rs i) (zi bs rs (i + n * (j - i)))/\∀ k p,gAt (zi bs rs (i + n * (j - i))).gone k p=gAt (zi bs rs i).gone k p + n * (gAt (zi bs rs j).gone k p - gAt (zi bs rs i).gone k p)
 | 0=>by
  rw [Nat.zero_mul,Nat.add_zero];exact ⟨.refl _,λ k p=>by rw [show ((0:Nat):Int)=0 from rfl,Int.zero_mul,Int.add_zero]⟩
 | n + 1=>by
  obtain ⟨h1,h2⟩:=zb3 n;obtain ⟨g1,g2⟩:=Jw h1 mZ bo ro (j - i);have lt:=rd.lt;rw [show i + (j - i)=j by omega] at g1 g2;rw [show i + (n + 1) * (j - i)=i + n * (j - i) + (j - i) by rw [fu];omega];refine ⟨(zhZ bo ro rd.eq).trans g1,λ k p=>?_⟩;have:=g2 k p;have e:=h2 k p;rw [show ((n + 1:Nat):Int)=(n:Int) + 1 by omega,Int.add_mul,Int.one_mul];generalize (n:Int) * (gAt (zi bs rs j).gone k p - gAt (zi bs rs i).gone k p)=z at e ⊢;omega
theorem zaU (n b p:Nat) {o:Org} (h:WX (zi bs rs i) (atC (zi bs rs j).cells b p) o):atC (zi bs rs (i + (n + 1) * (j - i))).cells b p=zio (zi bs rs i) (zi bs rs j) (zi bs rs (i + n * (j - i))) n o:=by
 obtain ⟨h1,h2⟩:=zb3 mZ bo ro rd n;have lt:=rd.lt;have sm:=zaC mZ bo ro (zhb h1) (j - i);rw [show i + (j - i)=j by omega] at sm;rw [show i + (n + 1) * (j - i)=i + n * (j - i) + (j - i) by rw [fu];omega];have orr:OR (zig rs (zi bs rs i) (zi bs rs (i + n * (j - i)))) (atC (zi bs rs j).cells b p) (atC (zi bs rs (i + n * (j - i) + (j - i))).cells b p):=(sm.ce.2 b).2 p;generalize atC (zi bs rs (i + n * (j - i) + (j - i))).cells b p=w at orr ⊢;obtain ⟨uq,gv⟩:=zcy mZ bo ro i;have inq:∀ {b p:Nat} {x:Int × Int},atC (zi bs rs i).cells b p=some x->∃ c,(zi bs rs i).cells[b]?=some c/\c[p]?=some (some x):=λ {b p x} e=>by
  unfold atC at e;rw [ae,ae] at e;cases e1:(zi bs rs i).cells[b]? with
  | none=>rw [e1] at e;simp at e
  | some c =>
   rw [e1] at e;cases e2:c[p]? with
   | none=>rw [aS,e2] at e;cases e
   | some y=>rw [aS,e2] at e;cases e;exact ⟨c,rfl,e2⟩
 have old:∀ {b p:Nat} {x:Int × Int} {d:Nat} {k:Nat},atC (zi bs rs i).cells b p=some x->x≠((k:Int),gAt (zi bs rs i).gone k 0 + d):=λ {b p x d k} e z=>by
  have:=gv b p x e;rw [z,aE] at this;simp only at this;omega
 cases o with
 | no =>
  cases e:atC (zi bs rs j).cells b p with
  | none=>rw [e] at orr;exact orr.none_iff.mp rfl
  | some x=>rw [e] at h;exact h.elim
 | kept b' p' =>
  cases e:atC (zi bs rs j).cells b p with
  | none=>rw [e] at h;exact h.elim
  | some x =>
   rw [e] at h orr;obtain ⟨c,g1,g2⟩:=h;have at1:atC (zi bs rs i).cells b' p'=some x:=by
    unfold atC;rw [ae,ae,g1,aS,g2]
    rfl
   cases w with
   | none=>exact orr.elim
   | some y =>
    rcases orr with ⟨b2,p2,q1,q2⟩|⟨k,r,d,_,_,q,_⟩
    ·obtain ⟨rfl,rfl⟩:=uq _ _ _ _ x at1 q1;exact q2.symm
    ·exact absurd q (old at1)
 | new k m =>
  cases e:atC (zi bs rs j).cells b p with
  | none=>rw [e] at h;exact h.elim
  | some x =>
   rw [e] at h orr;refine oA4 h λ g1 g2 g3 _=>?_;clear h;cases w with
   | none=>exact orr.elim
   | some y =>
    rcases orr with ⟨b2,p2,q1,_⟩|⟨k',r,d,hr,hs,rfl,rfl⟩
    ·obtain ⟨c,q3,q4⟩:=inq q1;exact absurd (flat_mem.mpr ⟨c,ah q3,ah q4⟩) g2
    ·have ek:k'=k:=by simp only at g1;omega
     subst ek;rw [xQ] at g3;simp only at g3;show some ((k':Int),gAt (zi bs rs (i + n * (j - i))).gone k' 0 + (d:Int))=some ((k':Int),_)
     rw [h2 k' 0,show m=(d:Int) by omega]
end
noncomputable def lf (y0 lo lg:Addr) (L:Int):List (Str × V):=zP "growth" (.ref lg) (zP "origins" (.ref lo) (zP "length" (.int L) (zP "before" (.ref y0) [])))
def Wx {y0 lo lg:Addr}:(lf y0 lo lg L).lookup ("growth":Str)=some (.ref lg):=by unfold lf;rw [zA,ap rfl]
def zb2 {y0 lo lg:Addr}:(lf y0 lo lg L).lookup ("origins":Str)=some (.ref lo):=by unfold lf;rw [zA,am (by decide +kernel),zA,ap rfl]
def QP {y0 lo lg:Addr}:(lf y0 lo lg L).lookup ("length":Str)=some (.int L):=by unfold lf;rw [zA,am (by decide +kernel),zA,am (by decide +kernel),zA,ap rfl]
def xw {y0 lo lg:Addr}:(lf y0 lo lg L).lookup ("before":Str)=some (.ref y0):=by unfold lf;rw [zA,am (by decide +kernel),zA,am (by decide +kernel),zA,am (by decide +kernel),zA,ap rfl]
def Wm (a:Ad):Sp:=λ vs H Q _=>∃ (z dx y0 y1:Addr) (n0 n1:SN) (s0 s1:PSt) (H0:Hp),vs=[.ref z,.ref y0,.ref y1]/\H z=some (.ins a.r dx [])/\Same H0 H/\H0 z=none/\StO a H0 y0 n0 s0/\StO a H0 y1 n1 s1/\s0.cells.length<=24/\(∀ c∈s0.cells,c.length<=6)/\s1.cells.length<=24/\(∀ c∈s1.cells,c.length<=6/\∀ wr∈c,zfs s0 wr)/\s0.gone.length=s1.gone.length/\s0.gone.length<=24/\(∀ (i:Nat) g0 g1,s0.gone[i]?=some g0->s1.gone[i]?=some g1->g0.length=g1.length/\g0.length<=4) /\
 ∀ lo lg gs oss H',Same H0 H'->H' z=some (.ins a.r dx (lf y0 lo lg (s1.turn - s0.turn)))->Rep H' (Off [z]) (.ref lo) (zcE oss)->V0 s0 s1 oss->NL H' (zU H') lg gs (qi (jz s0.gone s1.gone))->Q .non H'
def zaG (T:Txt K mg a) (F:Fun K "__init__" "Lap.__init__" wT f fd):FnOk P w K mg base (CXr P w) 3 f fd ["self","before","after"] (Wm a):=by
 refine F.okx zap ?_ ?_
 ·walk_at "i"
 walk_at "j";refine oE5 h λ z dx y0 y1 n0 m7=>oE4 m7 λ n1 s0 s1 H0 m8=>oA9 m8 λ n6 hz sH z0 so0 so1 l0 c0 nh=>oA6 nh λ l1 c1 gl g24 gr k=>?_;clear m7 m8 nh h;subst n6;walk_at "T";refine ⟨_,(zg (qT (pq 0) (pq 1) rfl)  (zg (qT (pq 0) (zr xn (zj (pq 2) rfl) (zj (pq 1) rfl)) rfl)  (zg (qT (pq 0) (zx ⟨rfl,rfl,rfl⟩ hr (za (pq 1) (za (pq 2) zb))) rfl)  (zc (qT (pq 0) (zx ⟨rfl,rfl,rfl⟩ hr (za (pq 1) (za (pq 2) zb))) rfl))))),?_⟩;walk_at "a";have sz:∀ {H':Hp} {o:HO},Same H0 H'->Same H0 (upd H' z o):=λ s b o hb=>by rw [nz (nA hb z0)];exact s b o hb
 refine iE4 z a.r dx ([]) (iA6 rfl hz T.gC T.gE (by decide) ?_);have s1':=sz (o:=.ins a.r dx (zP "before" (.ref y0) [])) sH;walk_at "a";refine ra ((so1.same s1').hy) T.gq T.gu rfl (ra ((so0.same s1').hy) T.gq T.gu rfl ?_);walk_at "a";refine iE4 z a.r dx _ (iA6 rfl nk T.gC T.gY (by show 1 < 1000;decide) ?_);rw [vY];have s2:=sz (o:=.ins a.r dx (zP "length" (.int (s1.turn - s0.turn)) (zP "before" (.ref y0) []))) sH;have hz2:upd H z (.ins a.r dx (zP "length" (.int (s1.turn - s0.turn)) (zP "before" (.ref y0) []))) z=some (.ins a.r dx (zP "length" (.int (s1.turn - s0.turn)) (zP "before" (.ref y0) []))):=nk;generalize upd H z (.ins a.r dx (zP "length" (.int (s1.turn - s0.turn)) (zP "before" (.ref y0) [])))=H2 at s2 hz2 ⊢;walk_at "a";refine uc (VT T).mono (iE6 y0 y1 n0 n1 s0 s1 (iA8 rfl (so0.same s2) (so1.same s2) l0 c0 l1 c1 (λ lo H3 oss s3 ro3 ok3=>?_)));have s03:=s2.trans s3;have hz3:=s3 _ _ hz2;refine iE4 z a.r dx _ (iA6 rfl hz3 T.gC T.ix (by show 2 < 1000;decide) ?_);have s4:=sz (o:=.ins a.r dx (zP "origins" (.ref lo) (zP "length" (.int (s1.turn - s0.turn)) (zP "before" (.ref y0) [])))) s03;have r4:Rep (upd H3 z (.ins a.r dx (zP "origins" (.ref lo) (zP "length" (.int (s1.turn - s0.turn)) (zP "before" (.ref y0) []))))) (Off [z]) (.ref lo) (zcE oss):=ro3.keep λ b o hb ho=>by
  have nb:b≠z:=λ e=>by have hb:H2 b=none:=hb;rw [e,hz2] at hb;cases hb
  exact ⟨by simp [Off,nb],by rw [nz nb];exact ho⟩
 have hz4:upd H3 z (.ins a.r dx (zP "origins" (.ref lo) (zP "length" (.int (s1.turn - s0.turn)) (zP "before" (.ref y0) [])))) z=some (.ins a.r dx (zP "origins" (.ref lo) (zP "length" (.int (s1.turn - s0.turn)) (zP "before" (.ref y0) [])))):=nk;generalize upd H3 z (.ins a.r dx (zP "origins" (.ref lo) (zP "length" (.int (s1.turn - s0.turn)) (zP "before" (.ref y0) []))))=H4 at s4 r4 hz4 ⊢;refine uc (Q6 T).mono (iE6 y0 y1 n0 n1 s0 s1 (iA7 rfl (so0.same s4) (so1.same s4) gl g24 gr (λ lg gs H5 s5 ng fr=>?_)));have hz5:=s5 _ _ hz4;refine iE4 z a.r dx _ (iA6 rfl hz5 T.gC T.ij (by show 3 < 1000;decide) ?_);refine k lo lg gs oss _ (sz (s4.trans s5)) nk (r4.keep λ b o hb ho=>?_) ok3 (ng.tup λ b o hb ho=>?_)
 ·have nb:b≠z:=λ e=>hb (by rw [e];simp);exact ⟨hb,by rw [nz nb];exact s5 _ _ ho⟩
 ·have nb:b≠z:=λ e=>by
   subst e;rcases hb with hb|hb|⟨xs,hb⟩
   ·have:=fr lg (bT ..);rw [<- hb,hz4] at this;cases this
   ·have:=fr b (aB _ hb);rw [hz4] at this;cases this
   ·rw [hz5] at hb;cases hb
  rw [nz nb];exact ho
def ziv (T:Txt K mg a):KCal P w K mg base "Lap" a.r 3 ["self","before","after"] [] (Wm a):=T.lW.cal T.mV (zaG T)
structure LapO (a:Ad) (H:Hp) (z y0:Addr) (n0:SN) (s0 s1:PSt) (oss:List (List Org)):Prop where
 ex:∃ dx lo lg gs,H z=some (.ins a.r dx (lf y0 lo lg (s1.turn - s0.turn)))/\Rep H (λ _=>True) (.ref lo) (zcE oss)/\NL H (zU H) lg gs (qi (jz s0.gone s1.gone))
 so:StO a H y0 n0 s0
 ok:V0 s0 s1 oss
def LapO.same {H H':Hp} {z y0:Addr} {n0:SN} {s0 s1:PSt} {oss:List (List Org)} (h:LapO a H z y0 n0 s0 s1 oss) (s:Same H H'):LapO a H' z y0 n0 s0 s1 oss:=by
 refine oE4 h.ex λ dx lo lg gs m7=>oA3 m7 λ h1 h2 h3=>?_;clear m7;exact ⟨(iE4 dx lo lg gs (iA3 (s _ _ h1) (jq h2 s) (h3.tup λ b o _ hb=>s b o hb))),h.so.same s,h.ok⟩
def zdi (a:Ad):Sp:=λ vs H Q _=>∃ (z y0 t:Addr) (n0:SN) (s0 s1:PSt) (oss:List (List Org)) (k:Nat) (m:Int) (n:Nat) (x:Int) (xs:A6),vs=[.ref z,.ref t,.int n]/\LapO a H z y0 n0 s0 s1 oss/\H t=some (.tup [.str "new",.int k,.int m])/\s0.gone[k]?=some (x :: xs)/\s0.gone.length=s1.gone.length/\0<=gAt s1.gone k 0 - x/\gAt s1.gone k 0 - x<=1000/\∀ t' H',Same H H'->H' t'=some (.tup [.int k,.int (x + n * (gAt s1.gone k 0 - x) + m)])->Q (.ref t') H'
def Xp (T:Txt K mg a):MCal P w K mg base a.r "new_ware" 1 ["self","origin","rounds"] [] (zdi a):=T.ko.cal T.gC λ F=>by
 refine F.okx Jd ?_ ?_
 ·walk_at "i"
 walk_at "j";refine oE8 h λ z y0 t n0 s0 s1 oss kk m7=>oE4 m7 λ m n x xs m8=>oA8 m8 λ n6 lo ht hg le d0 d1 k=>?_;clear m7 m8 h;subst n6;refine oE4 lo.ex λ dx l1 lg gs m7=>oA3 m7 λ hz _ ng=>?_;clear m7;have hk:=(aa.mp hg).1;obtain ⟨g1,e1⟩:∃ g,s1.gone[kk]?=some g:=⟨_,ac (by rw [<- le];exact hk)⟩;have eg:(jz s0.gone s1.gone)[kk]?=some (jI (x :: xs) g1):=by unfold jz;rw [dH,hg,e1]
 have eG:gAt s1.gone kk 0=g1.getD 0 0:=by unfold gAt;rw [ae (l:=s1.gone),e1];rfl
 obtain ⟨b0,hb0,h0⟩:=xo lo.so.hg hg;obtain ⟨b1,hb1,h1⟩:=xo ng eg;have eF:(jI (x :: xs) g1)[0]?=some (g1.getD 0 0 - x):=by unfold jI;rw [aj,fC (by simp)];rfl
 rw [eG] at d0 d1 k;walk_at "T";refine ⟨_,(zg (zo 3 Jd.nd (zn (pq 1) zd))  (zg (zo 4 Jd.nd (zr zN (zn (zn (zj (zj (pq 0) rfl) rfl) (pq 3)) zd) (zr jG (pq 2) (zn (zn (zj (pq 0) rfl) (pq 3)) zd))))  (zc (zl (qL (za (pq 3) (za (zr zN (pq 4) (zn (pq 1) zd)) zb))))))),?_⟩;walk_at "a";refine nC ht (show atI _ 1=some (.int kk) from rfl) ?_;walk_at "a";refine ra hz T.gC T.gE xw (ra lo.so.hy T.gq T.gx rfl (zq (SqL.of lo.so.hg.out) (zz (by rw [aj,hb0];rfl)) (zq (SqL.of h0) at0 ?_)));refine ra hz T.gC T.ij Wx (zq (SqL.of ng.out) (zz (by rw [aj,hb1];rfl)) (zq (SqL.of h1) (show atI _ ((0:Nat):Int)=some (.int (g1.getD 0 0 - x)) from zz (jf eF)) ?_));refine ⟨mul_okR (by omega) (by omega),?_⟩;walk_at "a";refine nC ht (show atI _ 2=some (.int m) from rfl) ?_;walk_at "a";exact λ p hp=>k p _ (zf hp) nk
noncomputable def zaY (O:Nat × Nat->Org) (q:Nat × Nat):Option (Nat × Nat):=match O q with
 | .kept b p=>some (b,p)
 | _=>none
noncomputable def chn (O:Nat × Nat->Org) (q0:Nat × Nat):Nat->Option (Nat × Nat)
 | 0=>some q0
 | t + 1=>(chn O q0 t).bind (zaY O)
def zgJ (C:Nat->Nat × Nat->zE) (O:Nat × Nat->Org) (q0:Nat × Nat) (N left:Nat) (q:Nat × Nat):Prop:=∃ t,chn O q0 t=some q/\C N q0=C left q/\((t + left=N/\∀ u,0 < u->u<=t->chn O q0 u≠some q0)\/∃ d,t + left < d/\∀ u,0 < u->u < d->chn O q0 u≠some q0)
section
variable {C:Nat->Nat × Nat->zE} {O:Nat × Nat->Org} {ok:Nat × Nat->Prop} (hC:∀ n q b p,ok q->O q=.kept b p->C (n + 1) q=C n (b,p)) (hk:∀ q b p,ok q->O q=.kept b p->ok (b,p)) {q0:Nat × Nat} (h0:ok q0)
include hC hk h0
theorem zft:∀ t q,chn O q0 t=some q->ok q/\∀ m,C (m + t) q0=C m q
 | 0,q,h=>by cases h;exact ⟨h0,λ _=>rfl⟩
 | t + 1,q,h=>by
  obtain ⟨q1,h1,h2⟩:=bS.mp h;obtain ⟨o1,c1⟩:=zft t q1 h1;unfold zaY at h2
  split at h2
  ·rename_i b p e;cases h2;exact ⟨hk q1 b p o1 e,λ m=>by rw [show m + (t + 1)=m + 1 + t by omega,c1 (m + 1),hC m q1 b p o1 e]⟩
  ·cases h2
theorem zgx {d:Nat} (hd:chn O q0 d=some q0) (d0:0 < d) (m:Nat):C m q0=C (m % d) q0:=by
 have:=(zft hC hk h0 d q0 hd).2
 induction m using Nat.strongRecOn with
 | _ m ih =>
  by_cases h:m < d
  ·rw [Nat.mod_eq_of_lt h]
  ·rw [Nat.mod_eq_sub_mod (by omega),<- ih (m - d) (by omega),<- this (m - d),show m - d + d=m by omega]
theorem zea {N l:Nat} {q:Nat × Nat} (h:zgJ C O q0 N (l + 1) q) {b p:Nat} (e:O q=.kept b p):((b,p)≠q0->zgJ C O q0 N l (b,p))/\((b,p)=q0->0 < N - l/\zgJ C O q0 N (l % (N - l)) q0):=by
 refine oE1 h λ t m7=>oA3 m7 λ h1 h2 h3=>?_;clear m7 h;have nx:chn O q0 (t + 1)=some (b,p):=by
  show (chn O q0 t).bind (zaY O)=_
  rw [h1];show zaY O q=_
  unfold zaY;rw [e]
 have cq:C N q0=C l (b,p):=by rw [h2,hC l q b p (zft hC hk h0 t q h1).1 e]
 refine ⟨λ ne=>⟨t + 1,iA3 nx cq ?_⟩,λ eq=>?_⟩
 ·rcases h3 with ⟨a1,a2⟩|⟨d,a1,a2⟩
  ·refine .inl ⟨by omega,λ u u0 ul=>?_⟩;by_cases z:u=t + 1
   ·rw [z,nx];exact λ y=>ne (aN y)
   ·exact a2 u u0 (by omega)
  ·exact .inr ⟨d,by omega,a2⟩
 ·rcases h3 with ⟨a1,a2⟩|⟨d,a1,a2⟩
  ·refine ⟨by omega,⟨0,iA3 rfl ?_ (.inr ⟨t + 1,?_,λ u u0 ul=>a2 u u0 (by omega)⟩)⟩⟩
   ·rw [cq,eq,show N - l=t + 1 by omega];exact zgx hC hk h0 (by rw [nx,eq]) (by omega) l
   ·rw [show N - l=t + 1 by omega,Nat.zero_add];exact cW _ (by omega)
  ·exact absurd (nx.trans (by rw [eq])) (a2 (t + 1) (by omega) (by omega))
end
def zaS {y0 lo lg:Addr} {x:Str} (h1:x≠"before") (h2:x≠"length") (h3:x≠"origins") (h4:x≠"growth"):(lf y0 lo lg L).lookup x=none:=by
 unfold lf;rw [zA,am h4,zA,am h3,zA,am h2,zA,am h1]
 rfl
def LapO.org {z y0:Addr} {n0:SN} {s0 s1:PSt} {oss:List (List Org)} (h:LapO a H z y0 n0 s0 s1 oss) {b p:Nat} {os:List Org} {o:Org} (e1:oss[b]?=some os) (e2:os[p]?=some o):∃ dx lo lg us bl vs v,H z=some (.ins a.r dx (lf y0 lo lg (s1.turn - s0.turn)))/\H lo=some (.lst us)/\us[b]?=some (.ref bl)/\H bl=some (.lst vs)/\vs[p]?=some v/\Rep H (λ _=>True) v (zbS o):=by
 refine oE4 h.ex λ dx lo lg gs m7=>oA3 m7 λ hz r _=>?_;clear m7;refine oE2 (Rep.lst' r) λ l0 us m7=>oA4 m7 λ e _ hl ru=>?_;clear m7;cases e;have hb:b < us.length:=by rw [ru.len,af];exact (aa.mp e1).1
 obtain ⟨d,hd,rb⟩:=ru.at (ac hb);rw [aj,e1] at hd;cases hd;refine oE2 (Rep.lst' rb) λ bl vs m7=>oA4 m7 λ e _ hbl rv=>?_;clear m7;have hp:p < vs.length:=by rw [rv.len,af];exact (aa.mp e2).1
 obtain ⟨d,hd,rp⟩:=rv.at (ac hp);rw [aj,e2] at hd;cases hd;exact iE7 dx lo lg us bl vs (vs[p]) (iA6 hz hl (by rw [<- e];exact ac hb) hbl (ac hp) rp)
def zh8 {x:Str} {m:Int} (h:Rep H p v (.tup [.str x,.int k,.int m])):∃ t,v=.ref t/\H t=some (.tup [.str x,.int k,.int m]):=by
 refine oE2 (Rep.tup' h) λ t us m7=>oA4 m7 λ m8 _ ht rr=>?_;clear m7;subst m8;have g:=rr.g;refine oE2 (VQ rr.len) λ x0 _ m7=>oA2 m7 λ m8 h1=>?_;clear m7;subst m8;obtain ⟨x1,x2,rfl⟩:=two_of h1;have a0:=g 0 x0 _ rfl rfl;have a1:=g 1 x1 _ rfl rfl;have a2:=g 2 x2 _ rfl rfl;cases a0;cases a1;cases a2;exact ⟨t,rfl,ht⟩
def zh1 (rs:At) (st:PSt) (k i p:Nat):gAt (qH rs st k).1.gone i p<=gAt st.gone i p + if i=k then 1 else 0:=by
 unfold qH;have z:gAt st.gone i p<=gAt st.gone i p + if i=k then 1 else 0:=by split <;> omega
 cases rs[k]? with
 | none=>exact z
 | some r =>
  simp only;cases qh r (qq rs st.cells r) (qX st.cells r) st.turn (st.sides.getD k 0).toNat with
  | none=>exact z
  | some ch =>
   obtain ⟨_,_,c3⟩:=movedF_keep (r:=r) (st:=st) (k:=k) (ch:=ch);show gAt ((movedF r st k ch).gone.set k _) i p<=_
   rw [c3];unfold gAt;rw [qy]
   split
   ·rename_i h;obtain ⟨rfl,_⟩:=h;rw [ap rfl];unfold ZV;rw [qy]
    split
    ·rename_i h;rw [h.1];exact bR _
    ·omega
   ·exact z
theorem zc8 (rs:At) (st:PSt) (i p:Nat):∀ m,gAt (zF rs st m).1.gone i p<=gAt st.gone i p + if i < m then 1 else 0
 | 0=>by rw [am (Nat.not_lt_zero _)];exact Int.le_of_eq (Int.add_zero _).symm
 | m + 1=>by
  have h1:=zc8 rs st i p m;have h2:=zh1 rs (zF rs st m).1 m i p;show gAt (qH rs (zF rs st m).1 m).1.gone i p<=_
  by_cases e:i=m
  ·rw [ap e] at h2;rw [am (by omega)] at h1;rw [ap (by omega)];omega
  ·rw [am e] at h2;by_cases h:i < m
   ·rw [ap h] at h1;rw [ap (by omega)];omega
   ·rw [am h] at h1;rw [am (by omega)];omega
theorem Jv (bs:A1) (rs:At) (k p:Nat):∀ n:Nat,gAt (zi bs rs n).gone k p<=n
 | 0=>by
  show gAt (rs.map qv) k p<=0
  unfold gAt;rw [ae,ae,aj];cases rs[k]? with
  | none=>exact bR _
  | some r =>
   show ((qv r)[p]?).getD 0<=0
   unfold qv;rw [dg]
   split <;> exact bR _
 | n + 1=>by
  have h1:=Jv bs rs k p n;have h2:=zc8 rs (zi bs rs n) k p rs.length;show gAt (zF rs (zi bs rs n) rs.length).1.gone k p<=_
  split at h2 <;> omega
def zaa (a:Ad):Sp:=λ vs H Q _=>∃ (z y0 t:Addr) (n0:SN) (oss:List (List Org)) (bs:A1) (rs:At) (lim i j N b p:Nat) (c:Av),vs=[.ref z,.ref t,.int N]/\LapO a H z y0 n0 (zi bs rs i) (zi bs rs j) oss/\zS bs rs/\(∀ b∈bs,zC b.1 b.2)/\(∀ r∈rs,r.ok)/\RoundAt bs rs lim i j/\lim<=1000/\H t=some (.tup [.int b,.int p])/\(zi bs rs i).cells[b]?=some c/\p < c.length/\∀ v H',Same H H'->Rep H' (zU H') v (qf (atC (zi bs rs (i + N * (j - i))).cells b p))->Q v H'
theorem QN (T:Txt K mg a):MCal P w K mg base a.r "ware_after" 2 ["self","first","rounds"] [] (zaa a):=T.iG.cal T.gC λ F=>by
 refine F.okx Z0 ?_ ?_
 ·walk_at "i"
 walk_at "j";refine oE8 h λ z y0 t n0 oss bs rs lim m7=>oE6 m7 λ i j N b p c m8=>oA9 m8 λ n6 lo mZ bo ro rd l1000 ht nh=>oA3 nh λ hc hp k=>?_;clear m7 m8 nh h;subst n6;have w0:=zH mZ bo ro i;have w1:=zH mZ bo ro j;let C:Nat->Nat × Nat->zE:=λ n q=>atC (zi bs rs (i + n * (j - i))).cells q.1 q.2;let O:Nat × Nat->Org:=λ q=>(oss.getD q.1 []).getD q.2 .no;let ok:Nat × Nat->Prop:=λ q=>∃ c,(zi bs rs i).cells[q.1]?=some c/\q.2 < c.length;have hO:∀ q,ok q->∃ os,oss[q.1]?=some os/\os[q.2]?=some (O q)/\WX (zi bs rs i) (atC (zi bs rs j).cells q.1 q.2) (O q):=λ q ⟨c,h1,h2⟩=>by
  have hq:=(aa.mp h1).1;have eb:=ac (l:=bs) (i:=q.1) (by rw [<- w0.co.1];exact hq);obtain ⟨c1,e1⟩:∃ c1,(zi bs rs j).cells[q.1]?=some c1:=⟨_,ac (by rw [w1.co.1,<- w0.co.1];exact hq)⟩;have l1:c1.length=c.length:=by rw [(w1.co.2 q.1 _ c1 eb e1).1,(w0.co.2 q.1 _ c eb h1).1]
  obtain ⟨os,e2⟩:∃ os,oss[q.1]?=some os:=⟨_,ac (by rw [lo.ok.1];exact (aa.mp e1).1)⟩;obtain ⟨l2,g⟩:=lo.ok.2 q.1 os c1 e2 e1;obtain ⟨o,e3⟩:∃ o,os[q.2]?=some o:=⟨_,ac (by omega)⟩;obtain ⟨wr,e4⟩:∃ wr,c1[q.2]?=some wr:=⟨_,ac (by omega)⟩;have eO:O q=o:=by
   show (oss.getD q.1 []).getD q.2 .no=o
   rw [ae,ae,e2,aS,e3]
   rfl
  have eW:atC (zi bs rs j).cells q.1 q.2=wr:=by
   unfold atC;rw [ae,ae,e1,aS,e4]
   rfl
  rw [eO,eW];exact ⟨os,iA3 e2 e3 (g q.2 o wr e3 e4)⟩
 have hC:∀ n q b p,ok q->O q=.kept b p->C (n + 1) q=C n (b,p):=λ n q b p hq e=>by
  refine oE1 (hO q hq) λ _ m7=>oA3 m7 λ _ _ g=>?_;clear m7;rw [e] at g;exact zaU mZ bo ro rd n q.1 q.2 g
 have hk:∀ q b p,ok q->O q=.kept b p->ok (b,p):=λ q b p hq e=>by
  refine oE1 (hO q hq) λ _ m7=>oA3 m7 λ _ _ g=>?_;clear m7;rw [e] at g;cases e1:atC (zi bs rs j).cells q.1 q.2 with
  | none=>rw [e1] at g;exact g.elim
  | some x =>
   rw [e1] at g;obtain ⟨c,g1,g2⟩:=g;exact ⟨c,g1,(aa.mp g2).1⟩
 walk_at "T";refine ⟨_,(zg (zo 3 Z0.nd (pq 1))  (zg (zo 4 Z0.nd (pq 2))  (zg (zaB qC (zm Wt (pq 4) zd (zt _))  (zg (zo 5 Z0.nd (zn (zn (zj (pq 0) rfl) (zn (pq 3) zd)) (zn (pq 3) zd)))  (zg (zD (zm jo (pq 5) zG (zt _))  (zc (zl zG))  zp)  (zg (zhj (i:=4) Z0.nd rfl (Or.inl rfl) zd zhJ)  (zg (zD (zm (qG hr.units1) (zn (pq 5) zd) ju (zt _))  (zc (zl (QK ⟨rfl,rfl,rfl⟩ hr (pq 0) (za (pq 5) (za (pq 4) zb)))))  zp)  (zg (zo 3 Z0.nd (qL (za (zn (pq 5) zd) (za (zn (pq 5) zd) zb))))  (zc (zD (zm (qG hr.units1) (pq 3) (pq 1) (zt _))  (zc (zo 4 Z0.nd (zr qu (pq 4) (zr xn (pq 2) (pq 4)))))  zp))))))))  (zc (zl (zn (zn (zj (zj (pq 0) rfl) rfl) (zn (pq 3) zd)) (zn (pq 3) zd))))))),?_⟩;walk_at "a";have ok0:ok (b,p):=⟨c,hc,hp⟩;have k:∀ v H',Same H H'->Rep H' (zU H') v (qf (C N (b,p)))->Q v H':=k;refine ⟨λ l σ H'=>∃ (tc:Addr) (q:Nat × Nat) (v5:Aq),σ=[some (.ref z),some (.ref t),some (.int N),some (.ref tc),some (.int l),v5]/\Same H H'/\H' tc=some (.tup [.int q.1,.int q.2])/\zgJ C O (b,p) N l q/\ok q,(iE4 N t (b,p) none (iA5 rfl (Same.refl _) ht ⟨0,iA3 rfl rfl (.inl ⟨by omega,λ u u0 ul=>absurd u0 (by omega)⟩)⟩ ok0)),?_⟩;intro l σ H1 m9;refine oE3 m9 λ tc q v5 m7=>oA5 m7 λ m8 s1 htc bk okq=>?_;clear m7 m9;subst m8;have lo1:=lo.same s1;have ceq:C N (b,p)=C l q:=bk.choose_spec.2.1;walk_at "a";refine zJ (λ hl=>?_) (λ hl=>?_)
 ·obtain ⟨l,rfl⟩:∃ l',l=l' + 1:=⟨l - 1,by omega⟩;refine zih ?_;refine oE1 (hO q okq) λ os m7=>oA3 m7 λ e1 e2 og=>?_;clear m7;refine oE7 (lo1.org e1 e2) λ dx lo' lg us bl vs v m7=>oA6 m7 λ hz hlo hus hbl hvs rv=>?_;clear m7;have lc:=zaU mZ bo ro rd l q.1 q.2 og;walk_at "a";refine ra hz T.gC T.ix zb2 (nC htc at0 (zq (SqL.of hlo) (zz hus) (nC htc (show atI _ 1=some (.int q.2) from rfl) (zq (SqL.of hbl) (zz hvs) ?_))));cases eo:O q with
  | no =>
   rw [eo] at rv lc;have rv:Rep H1 (λ _=>True) v .non:=rv;cases rv;walk_at "a";exact k _ H1 s1 (by rw [ceq];show Rep H1 _ _ (qf (atC _ _ _));rw [lc];exact .non)
  | new kk m =>
   rw [eo] at rv lc;obtain ⟨to,rfl,hto⟩:=zh8 rv;rw [eo] at og;obtain ⟨x,xs,hg⟩:∃ x xs,(zi bs rs i).gone[kk]?=some (x :: xs):=by
    cases e3:atC (zi bs rs j).cells q.1 q.2 with
    | none=>rw [e3] at og;exact og.elim
    | some w2=>rw [e3] at og;obtain ⟨_,_,_,g0,gs,h⟩:=og;exact ⟨g0,gs,h⟩
   have ex:gAt (zi bs rs i).gone kk 0=x:=by unfold gAt;rw [ae (l:=(zi bs rs i).gone),hg];rfl
   have mo:gAt (zi bs rs i).gone kk 0<=gAt (zi bs rs j).gone kk 0:=by
    have:=jO bs rs i kk 0 (j - i);have lt:=rd.lt;rw [show i + (j - i)=j by omega] at this;exact this
   have up:=Jv bs rs kk 0 j;have x0:0<=gAt (zi bs rs i).gone kk 0:=by
    have hkk:=(aa.mp hg).1;have er:=ac (l:=rs) (i:=kk) (by rw [<- w0.go.1];exact hkk);rw [ex];exact (w0.go.2 kk _ _ er hg).2 x (bT ..)
   have jl:=rd.le;change _=some ((kk:Int),gAt (zi bs rs i).gone kk 0 + (l:Int) * (gAt (zi bs rs j).gone kk 0 - gAt (zi bs rs i).gone kk 0) + m) at lc;rw [ex] at mo x0 lc;walk_at "a";refine nC hto at0 ?_;walk_at "a";rw [show ((l + 1:Nat):Int) - 1=(l:Int) by omega];refine iE7 z a.r dx _ _ _ _ (iA5 rfl hz (zaS (by decide +kernel) (by decide +kernel) (by decide +kernel) (by decide +kernel)) ((Xp T).mono) ⟨z,y0,to,n0,_,_,oss,kk,m,l,x,xs,rfl,lo1,hto,hg,by rw [w0.go.1,w1.go.1],by omega,by omega,λ t' H' s' ht'=>k _ _ (s1.trans s') ?_⟩);rw [ceq];show Rep H' _ _ (qf (atC _ _ _))
   rw [lc];exact Reps.mkT (vs:=[.int kk,.int (x + l * (gAt (zi bs rs j).gone kk 0 - x) + m)]) (.cons .int (.cons .int .nil)) ⟨_,ht'⟩ ht'
  | kept b' p' =>
   rw [eo] at rv lc;obtain ⟨to,rfl,hto⟩:=zh8 (m:=(p':Int)) rv;obtain ⟨n1,n2⟩:=zea hC hk ok0 bk eo;have okn:=hk q b' p' okq eo;walk_at "a";refine nC hto at0 ?_;walk_at "a";refine zJ (λ z=>absurd z (by decide +kernel)) λ _=>nC hto (show atI _ 1=some (.int b') from rfl) (nC hto (show atI _ 2=some (.int p') from rfl) λ p1 hp1=>?_);have s2:=zf (o:=.tup [.int b',.int p']) hp1;have h2:upd H1 p1 (.tup [.int b',.int p']) p1=some (.tup (iv [(b':Int),(p':Int)])):=nk;have ht2:upd H1 p1 (.tup [.int b',.int p']) t=some (.tup (iv [(b:Int),(p:Int)])):=s2 _ _ (s1 _ _ ht);refine .inr (.inl (iE4 p1 t _ _ (iA6 rfl rfl (.inr ⟨SqT.of h2,SqT.of ht2⟩) rfl rfl ?_)));rw [show ((l + 1:Nat):Int) - 1=(l:Int) by omega,ZD];by_cases e3:(b',p')=(b,p)
   ·obtain ⟨d0,bk2⟩:=n2 e3;rw [bp (by cases e3;rfl)];refine ⟨by omega,⟨l % (N - l),⟨?_,iE3 p1 (b,p) (some (.ref to)) (iA5 ?_ (s1.trans s2) ?_ bk2 ok0)⟩⟩⟩
    ·exact Nat.lt_succ_of_le (Nat.mod_le _ _)
    ·rw [show (l:Int) % ((N:Int) - l)=((l % (N - l):Nat):Int) by rw [dl,Int.natCast_sub (by omega)]]
    ·cases e3;exact nk
   ·rw [aV (λ z=>e3 (by simp at z;exact Prod.ext (by show b'=b;omega) (by show p'=p;omega)))];exact ⟨l,⟨by omega,iE3 p1 (b',p') _ (iA5 rfl (s1.trans s2) nk (n1 e3) okn)⟩⟩
 ·have l0:l=0:=by omega
  subst l0;obtain ⟨c1,g1,g2⟩:=okq;refine oE4 lo1.ex λ dx lo' lg gs m7=>oA3 m7 λ hz _ _=>?_;clear m7;obtain ⟨bq,us,hb,hu,ru⟩:=lo1.so.hc.at (i:=q.1) (xs:=c1.map qf) (by rw [zW,aj,g1];rfl);have lu:us.length=c1.length:=by rw [ru.len,af]
  obtain ⟨v,hv⟩:∃ v,us[q.2]?=some v:=⟨_,ac (by omega)⟩;obtain ⟨d,hd,rv⟩:=ru.at hv;rw [aj,au] at hd;obtain ⟨wr,hwr,rfl⟩:=hd;walk_at "a";refine ra hz T.gC T.gE xw (ra lo1.so.hy T.gq T.gw rfl (nC htc at0 (zq (SqL.of lo1.so.hc.out) (zz (by rw [aj,hb];rfl)) (nC htc (show atI _ 1=some (.int q.2) from rfl) (zq (SqL.of hu) (zz hv) (k _ H1 s1 ?_))))));have e0:C 0 q=wr:=by
   show atC (zi bs rs (i + 0 * (j - i))).cells q.1 q.2=wr
   rw [Nat.zero_mul,Nat.add_zero];unfold atC;rw [ae,ae,g1,aS,hwr]
   rfl
  rw [ceq,e0];exact rv
def Vd (a:Ad):Sp:=λ vs H Q _=>∃ (z y0:Addr) (n0:SN) (oss:List (List Org)) (bs:A1) (rs:At) (lim i j N:Nat),vs=[.ref z,.int N]/\LapO a H z y0 n0 (zi bs rs i) (zi bs rs j) oss/\zS bs rs/\(∀ b∈bs,zC b.1 b.2)/\(∀ r∈rs,r.ok)/\RoundAt bs rs lim i j/\lim<=1000/\∀ l H',Same H H'->Rep H' (Off []) (.ref l) (.lst ((zW (zi bs rs (i + N * (j - i))).cells).map D.lst))->Q (.ref l) H'
def Qe (T:Txt K mg a):MCal P w K mg base a.r "cells_after" 3 ["self","rounds"] [] (Vd a):=T.iA.cal T.gC λ F=>by
 refine F.okx ZH ?_ ?_
 ·walk_at "i"
 walk_at "j";refine oE8 h λ z y0 n0 oss bs rs lim i m7=>oE2 m7 λ j N m8=>oA8 m8 λ n6 lo mZ bo ro rd l1000 k=>?_;clear m7 m8 h;subst n6;have w0:=zH mZ bo ro i;have wN:=zH mZ bo ro (i + N * (j - i));have lc:n0.acs.length=bs.length:=by rw [lo.so.hc.len,zW,af,w0.co.1]
 have b24:=mZ.1.1.2;walk_at "T";refine ⟨_,(zg (zo 2 ZH.nd (zI zb))  (zg (qo qC rfl (qt (za (zj (zj (pq 0) rfl) rfl) zb)) (xL (n:=2) rfl (z9 (Ze (i:=3) ZH.nd rfl (Or.inr rfl)) (z9 (qj 4 ZH.nd) jF)))  (zc (zu (qB ao ay ax zL (pq 2) (za (jK (vars:=["place"]) (caps:=[1,0,3]) (N:=["place","rounds","self","belt"]) (ON:=["self","rounds","cells","belt","old"]) (osc:=ze qV) rfl rfl (by first|decide +kernel|kernel_rfl) rfl rfl (jP (za (z6 zY zX (za (pq 4) zb)) zb)) (λ s H fp m5=>(qj 0 (show (["place","rounds","self","belt"]:A8).Nodup from by decide +kernel))) (λ s H fp m5=>qk) (λ s H fp m5=>(zgc hr (pq 2) (za (qL (za (pq 3) (za (pq 0) zb))) (za (pq 1) zb))))) zb)))))  (zc (zl (pq 2))))),?_⟩;walk_at "a";intro C hC;have sC:=zf (o:=.lst []) hC;have hC1:upd H C (.lst []) C=some (.lst []):=nk;generalize upd H C (.lst [])=H1 at sC hC1 ⊢;refine oE4 lo.ex λ dx lo' lg gs m7=>oA3 m7 λ hz _ _=>?_;clear m7;walk_at "d";walk_at "a";refine ra (sC _ _ hz) T.gC T.gE xw (ra ((lo.so.same sC).hy) T.gq T.gw rfl (iE2 n0.lc _ (iA3 rfl (sC _ _ lo.so.hc.out) ?_)));refine Ql (K:=K) (a:=n0.lc) (xs:=n0.acs.map V.ref) (λ b σ H'=>∃ (v3 v4:Aq) (us:Ap),σ=[some (.ref z),some (.int N),some (.ref C),v3,v4]/\Same H H'/\H' C=some (.lst us)/\Reps H' (Off [C]) us ((zW ((zi bs rs (i + N * (j - i))).cells.take b)).map D.lst)) (iE3 _ _ ([]) (iA4 rfl sC hC1 (by rw [bX];exact .nil))) (λ b σ H' _ h=>by obtain ⟨_,_,_,_,s,_⟩:=h;exact SqL.of (s _ _ lo.so.hc.out)) ?_ ?_
 ·intro b x t σ H2 hb ht m9;refine oE3 m9 λ v3 v4 us m7=>oA4 m7 λ m8 s2 hC2 ru=>?_;clear m7 m9;subst m8;rw [aj,au] at hb;obtain ⟨cb,hcb,rfl⟩:=hb;have hbl:b < bs.length:=by rw [<- lc];exact (aa.mp hcb).1
  have eb:=ac hbl;obtain ⟨c,ec⟩:∃ c,(zi bs rs i).cells[b]?=some c:=⟨_,ac (by rw [w0.co.1];exact hbl)⟩;obtain ⟨cN,eN⟩:∃ c,(zi bs rs (i + N * (j - i))).cells[b]?=some c:=⟨_,ac (by rw [wN.co.1];exact hbl)⟩;have l1:=(w0.co.2 b _ c eb ec).1;have l2:=(wN.co.2 b _ cN eb eN).1;have bk:=(bo _ (ah eb)).2.1;obtain ⟨vs,hvs,rvs⟩:=lo.so.hc.g b cb _ hcb (show (zW (zi bs rs i).cells)[b]?=some (c.map qf) by rw [zW,aj,ec];rfl);have lv:vs.length=c.length:=by rw [rvs.len,af]
  have lus:us.length<=b:=by rw [ru.len,af,af,aR];exact eK _ _
  have st:=zf (o:=.tup [.int b,.ref cb]) ht;have s3:=s2.trans st;have hC3:=st _ _ hC2;have ru3:=ru.same st;refine un2 nk ?_;generalize upd H2 t (.tup [.int b,.ref cb])=H3 at s3 hC3 ru3 ⊢;walk_at "a";walk_at "e";walk_at "a";refine iA4 (.inl ⟨rfl,_,SqL.of hC3⟩) ke gJ ⟨_,⟨.inl ⟨_,SqL.of (s3 _ _ hvs),rfl⟩,?_⟩⟩;rw [lv];refine ⟨by omega,by omega,λ _ _ _ _ Z hZ=>?_⟩;have nZC:Z≠C:=(nA hC3 hZ).symm;refine wz (n:=((c.length:Nat):Int).toNat) (λ q σ H'=>∃ (v0:Aq) (ws:Ap),σ=[v0,some (.int N),some (.ref z),some (.int b)]/\Same H3 H'/\H' Z=some (.lst ws)/\Reps H' (Off [C,Z]) ws ((cN.take q).map qf)) (iE2 _ ([]) (iA4 rfl (zf hZ) nk (by rw [bX];exact .nil))) ?_ ?_
  ·intro q σ H4 hq m9;refine oE2 m9 λ v0 ws m7=>oA4 m7 λ m8 s4 hZ4 rw4=>?_;clear m7 m9;subst m8;rw [aE] at hq;have s34:=s3.trans s4;have lo4:=lo.same s34;obtain ⟨wr,hwr⟩:∃ wr,cN[q]?=some wr:=⟨_,ac (by rw [l2,<- l1];exact hq)⟩;have lw:ws.length<=q:=by rw [rw4.len,af,aR];exact eK _ _
   walk_at "a";simp only [cU];refine iE7 z a.r dx _ _ _ _ (iA5 rfl (s34 _ _ hz) (zaS (by decide +kernel) (by decide +kernel) (by decide +kernel) (by decide +kernel)) ((QN T).mono) (λ t2 ht2=>?_));have s5:=zf (o:=.tup [.int b,.int q]) ht2;refine iE8 z y0 t2 n0 oss bs rs lim (iE6 i j N b q c (iA9 rfl (lo4.same s5) mZ bo ro rd l1000 nk (iA3 ec hq (λ v H6 s6 rv=>?_))));have atN:atC (zi bs rs (i + N * (j - i))).cells b q=wr:=by
    unfold atC;rw [ae,ae,eN,aS,hwr]
    rfl
   rw [atN] at rv;have s46:=s5.trans s6;have hZ6:=s46 _ _ hZ4;have hC6:=s46 _ _ (s4 _ _ hC3);have fm:Fr [C,Z] H6 (upd H6 Z (.lst (ws ++ [v]))):=qz (by simp);refine ⟨_,iA3 hZ6 (zk (by omega)) (iE2 _ (ws ++ [v]) (iA4 rfl (λ b o hb=>by rw [nz (nA hb hZ)];exact s46 _ _ (s4 b o hb)) nk ?_))⟩;rw [aO,hwr,bd];refine ((rw4.same s46).fr fm).append (.one (Rep.fr (rv.keep λ b o hb ho=>⟨λ e=>?_,ho⟩) fm));obtain ⟨xs,hx⟩:=hb;simp only [aw,bZ,cK] at e;rcases e with rfl|rfl
   ·rw [hC6] at hx;cases hx
   ·rw [hZ6] at hx;cases hx
  intro σ H4 m9;refine oE2 m9 λ v0 ws m7=>oA4 m7 λ m8 s4 hZ4 rw4=>?_;clear m7 m9;subst m8;rw [aE,show c.length=cN.length from l1.trans l2.symm,aQ] at rw4;have fm:Fr [C] H4 (upd H4 C (.lst (us ++ [.ref Z]))):=qz (by simp);have lo':∀ b∈[C],b∈[C,Z]\/H4 b=none:=λ b hb=>.inl (by simp [ar.mp hb]);refine iE3 C _ _ (iA5 rfl rfl (s4 _ _ hC3) (zk (by omega)) ?_);refine iE3 _ _ (us ++ [.ref Z]) (iA4 rfl (λ b o hb=>by rw [nz (nA hb hC)];exact s4 _ _ (s3 b o hb)) nk ?_);rw [aO,eN,gf,show (zW ((zi bs rs (i + N * (j - i))).cells.take b ++ [cN])).map D.lst=(zW ((zi bs rs (i + N * (j - i))).cells.take b)).map D.lst ++ [.lst (cN.map qf)] by simp [zW]];exact ((ru3.same s4).append (.one ((rw4.more lo').mk' (by simp [Off,nZC]) hZ4))).fr fm
 ·intro σ H2 m9;refine oE3 m9 λ v3 v4 us m7=>oA4 m7 λ m8 s2 hC2 ru=>?_;clear m7 m9;subst m8;rw [af,lc,<- wN.co.1,aQ] at ru;walk_at "a";exact k C H2 s2 (ru.all.mk' (λ z=>nomatch z) hC2)
def zaf (a:Ad):Sp:=λ vs H Q _=>∃ (z y0:Addr) (n0:SN) (oss:List (List Org)) (bs:A1) (rs:At) (lim i j N:Nat),vs=[.ref z,.int N]/\LapO a H z y0 n0 (zi bs rs i) (zi bs rs j) oss/\zS bs rs/\(∀ b∈bs,zC b.1 b.2)/\(∀ r∈rs,r.ok)/\RoundAt bs rs lim i j/\lim<=1000/\∀ l H',Same H H'->Rep H' (Off []) (.ref l) (.lst ((qi (zi bs rs (i + N * (j - i))).gone).map D.lst))->Q (.ref l) H'
def QO (T:Txt K mg a):MCal P w K mg base a.r "gone_after" 1 ["self","rounds"] [] (zaf a):=T.iH.cal T.gC λ F=>by
 refine F.okx Z1 ?_ ?_
 ·walk_at "i"
 walk_at "j";refine oE8 h λ z y0 n0 oss bs rs lim i m7=>oE2 m7 λ j N m8=>oA8 m8 λ n6 lo mZ bo ro rd l1000 k=>?_;clear m7 m8 h;subst n6;have w0:=zH mZ bo ro i;have w1:=zH mZ bo ro j;have wN:=zH mZ bo ro (i + N * (j - i));refine oE4 lo.ex λ dx lo' lg gs m7=>oA3 m7 λ hz _ ng=>?_;clear m7;have la:n0.ags.length=rs.length:=by rw [lo.so.hg.len,qi,af,w0.go.1]
 have lb:gs.length=rs.length:=by rw [ng.len,qi,af,jz,fB,w0.go.1,w1.go.1,fz]
 have r24:=mZ.1.2.2;walk_at "T";refine ⟨_,(zg (zo 2 Z1.nd (zI zb))  (zg (qo qC rfl (zeK (za (zj (zj (pq 0) rfl) rfl) (za (zj (pq 0) rfl) zb))) (xL (n:=2) rfl (z9 (Ze (i:=3) Z1.nd rfl (Or.inr rfl)) (z9 (Ze (i:=4) Z1.nd rfl (Or.inr rfl)) jF)))  (zc (zu (qB ao ay ax zL (pq 2) (za (jK (vars:=["place"]) (caps:=[3,1,4]) (N:=["place","old","rounds","more"]) (ON:=["self","rounds","gone","old","more"]) (osc:=ze jm) rfl rfl (by first|decide +kernel|kernel_rfl) rfl rfl (jP (za (z6 zY zX (za (pq 3) zb)) zb)) (λ s H fp m5=>(qj 0 (show (["place","old","rounds","more"]:A8).Nodup from by decide +kernel))) (λ s H fp m5=>qk) (λ s H fp m5=>(zr zN (zn (pq 1) (pq 0)) (zr jG (pq 2) (zn (pq 3) (pq 0)))))) zb)))))  (zc (zl (pq 2))))),?_⟩;walk_at "a";intro C hC;have sC:=zf (o:=.lst []) hC;have hC1:upd H C (.lst []) C=some (.lst []):=nk;generalize upd H C (.lst [])=H1 at sC hC1 ⊢;walk_at "d";walk_at "a";refine ra (sC _ _ hz) T.gC T.gE xw (ra ((lo.so.same sC).hy) T.gq T.gx rfl (ra (sC _ _ hz) T.gC T.ij Wx (iE6 true true n0.lg lg _ _ (iA4 rfl (SqL.of (sC _ _ lo.so.hg.out)) (SqL.of (sC _ _ ng.out)) ?_))));refine zgW (K:=K) (xs:=n0.ags.map V.ref) (ys:=gs.map V.ref) (λ q σ H'=>∃ (v3 v4:Aq) (us:Ap),σ=[some (.ref z),some (.int N),some (.ref C),v3,v4]/\Same H H'/\H' C=some (.lst us)/\Reps H' (Off [C]) us ((qi ((zi bs rs (i + N * (j - i))).gone.take q)).map D.lst)) (iE3 _ _ ([]) (iA4 rfl sC hC1 (by rw [bX];exact .nil))) (λ q σ H' _ h=>by obtain ⟨_,_,_,_,s,_⟩:=h;exact ⟨SqL.of (s _ _ lo.so.hg.out),SqL.of (s _ _ ng.out)⟩) ?_ ?_
 ·intro q x x' t σ H2 hq hq' ht m9;refine oE3 m9 λ v3 v4 us m7=>oA4 m7 λ m8 s2 hC2 ru=>?_;clear m7 m9;subst m8;rw [aj,au] at hq hq';obtain ⟨b0,hb0,rfl⟩:=hq;obtain ⟨b1,hb1,rfl⟩:=hq';have hql:q < rs.length:=by rw [<- la];exact (aa.mp hb0).1
  have er:=ac hql;obtain ⟨g0,e0⟩:∃ g,(zi bs rs i).gone[q]?=some g:=⟨_,ac (by rw [w0.go.1];exact hql)⟩;obtain ⟨g1,e1⟩:∃ g,(zi bs rs j).gone[q]?=some g:=⟨_,ac (by rw [w1.go.1];exact hql)⟩;obtain ⟨gN,eN⟩:∃ g,(zi bs rs (i + N * (j - i))).gone[q]?=some g:=⟨_,ac (by rw [wN.go.1];exact hql)⟩;have l0:=(w0.go.2 q _ g0 er e0).1;have l1:=(w1.go.2 q _ g1 er e1).1;have lN:=(wN.go.2 q _ gN er eN).1;have cp:=wC (ro _ (ah er));have eg:(jz (zi bs rs i).gone (zi bs rs j).gone)[q]?=some (jI g0 g1):=by unfold jz;rw [dH,e0,e1]
  obtain ⟨c0,q0,h0⟩:=xo lo.so.hg e0;obtain ⟨c1,q1,h1⟩:=xo ng eg;rw [hb0] at q0;cases q0;rw [hb1] at q1;cases q1;have lus:us.length<=q:=by rw [ru.len,af,af,aR];exact eK _ _
  have st:=zf (o:=.tup [.ref b0,.ref b1]) ht;have s3:=s2.trans st;have hC3:=st _ _ hC2;have ru3:=ru.same st;refine un2 nk ?_;generalize upd H2 t (.tup [.ref b0,.ref b1])=H3 at s3 hC3 ru3 ⊢;walk_at "a";walk_at "e";walk_at "a";refine iA4 (.inl ⟨rfl,_,SqL.of hC3⟩) ke gJ ⟨_,⟨.inl ⟨_,SqL.of (s3 _ _ h0),rfl⟩,?_⟩⟩;rw [zy];refine ⟨by omega,by omega,λ _ _ _ _ Z hZ=>?_⟩;have nZC:Z≠C:=(nA hC3 hZ).symm;refine wz (n:=((g0.length:Nat):Int).toNat) (λ p σ H'=>∃ (v0:Aq),σ=[v0,some (.ref b0),some (.int N),some (.ref b1)]/\Same H3 H'/\H' Z=some (.lst (iv (gN.take p)))) ⟨_,iA3 rfl (zf hZ) nk⟩ ?_ ?_
  ·intro p σ H4 hp m9;refine oE1 m9 λ v0 m7=>oA3 m7 λ m8 s4 hZ4=>?_;clear m7 m9;subst m8;rw [aE] at hp;have s34:=s3.trans s4;have lp:=(zb3 mZ bo ro rd N).2 q p;have m0:=jO bs rs i q p (j - i);have up:=Jv bs rs q p j;have lt:=rd.lt;have le:=rd.le;rw [Nat.add_sub_of_le (bn lt)] at m0;have m0:gAt (zi bs rs i).gone q p<=gAt (zi bs rs j).gone q p:=m0;have x0:g0[p]?=some (gAt (zi bs rs i).gone q p):=by
    unfold gAt;rw [ae (l:=(zi bs rs i).gone),e0,aS];exact qr hp
   have x1:(jI g0 g1)[p]?=some (gAt (zi bs rs j).gone q p - gAt (zi bs rs i).gone q p):=by
    unfold jI gAt;rw [aj,fC hp,ae (l:=(zi bs rs i).gone),ae (l:=(zi bs rs j).gone),e0,e1]
    rfl
   have xN:gN[p]?=some (gAt (zi bs rs (i + N * (j - i))).gone q p):=by
    unfold gAt;rw [ae (l:=(zi bs rs (i + N * (j - i))).gone),eN,aS];exact qr (by omega)
   have p0:0<=gAt (zi bs rs i).gone q p:=(w0.go.2 q _ g0 er e0).2 _ (ah x0);walk_at "a";simp only [cU];refine zq (SqL.of (s34 _ _ h0)) (zz (jf x0)) (zq (SqL.of (s34 _ _ h1)) (zz (jf x1)) ?_);walk_at "a";refine ⟨mul_okR (by omega) (by omega),?_⟩;walk_at "a";refine ⟨_,iA3 hZ4 (zk (by rw [zy,aR];omega)) ⟨_,iA3 rfl (λ b o hb=>by rw [nz (nA hb hZ)];exact s4 b o hb) ?_⟩⟩;rw [nk,qP,aO,xN,lp]
   rfl
  intro σ H4 m9;refine oE1 m9 λ v0 m7=>oA3 m7 λ m8 s4 hZ4=>?_;clear m7 m9;subst m8;rw [show ((g0.length:Nat):Int).toNat=gN.length by omega,aQ] at hZ4;have fm:Fr [C] H4 (upd H4 C (.lst (us ++ [.ref Z]))):=qz (by simp);refine iE3 C _ _ (iA5 rfl rfl (s4 _ _ hC3) (zk (by omega)) ?_);refine iE3 _ _ (us ++ [.ref Z]) (iA4 rfl (λ b o hb=>by rw [nz (nA hb hC)];exact s4 _ _ (s3 b o hb)) nk ?_);rw [aO,eN,gf,show (qi ((zi bs rs (i + N * (j - i))).gone.take q ++ [gN])).map D.lst=(qi ((zi bs rs (i + N * (j - i))).gone.take q)).map D.lst ++ [.ints gN] by simp [qi]];exact ((ru3.same s4).append (.one (qm (by simp [Off,nZC]) hZ4))).fr fm
 ·intro σ H2 m9;refine oE3 m9 λ v3 v4 us m7=>oA4 m7 λ m8 s2 hC2 ru=>?_;clear m7 m9;subst m8;rw [af,af,la,lb,fz,<- wN.go.1,aQ] at ru;walk_at "a";exact k C H2 s2 (ru.all.mk' (λ z=>nomatch z) hC2)
def Vb (a:Ad):Sp:=λ vs H Q _=>∃ (z y0:Addr) (n0:SN) (oss:List (List Org)) (bs:A1) (rs:At) (lim i j N:Nat),vs=[.ref z,.int N]/\LapO a H z y0 n0 (zi bs rs i) (zi bs rs j) oss/\zS bs rs/\(∀ b∈bs,zC b.1 b.2)/\(∀ r∈rs,r.ok)/\RoundAt bs rs lim i j/\lim<=1000/\∀ v H',Same H H'->Q8 a H H' v (zi bs rs (i + N * (j - i)))->Q v H'
def Qd (T:Txt K mg a):MCal P w K mg base a.r "state_after" 4 ["self","rounds"] [] (Vb a):=T.iB.cal T.gC λ F=>by
 refine F.okx ZG ?_ ?_
 ·walk_at "i"
 walk_at "j";refine oE8 h λ z y0 n0 oss bs rs lim i m7=>oE2 m7 λ j N m8=>oA8 m8 λ n6 lo mZ bo ro rd l1000 k=>?_;clear m7 m8 h;subst n6;refine oE4 lo.ex λ dx lo' lg gs m7=>oA3 m7 λ hz _ _=>?_;clear m7;have lt:=rd.lt;have le:=rd.le;have wN:=zH mZ bo ro (i + N * (j - i));have b24:=mZ.1.1.2;have r24:=mZ.1.2.2;walk_at "T";refine ⟨_,(zg (zo 2 ZG.nd (zr zN (zj (zj (pq 0) rfl) rfl) (zr jG (pq 1) (zj (pq 0) rfl))))  (zc (zl (qw (x:="State") ⟨rfl,rfl,rfl⟩ hr (za (pq 2) (za (QK ⟨rfl,rfl,rfl⟩ hr (pq 0) (za (pq 1) zb)) (za (zj (zj (pq 0) rfl) rfl) (za (QK ⟨rfl,rfl,rfl⟩ hr (pq 0) (za (pq 1) zb)) zb)))))))),?_⟩;walk_at "a";refine ra hz T.gC T.gE xw (ra lo.so.hy T.gq T.gu rfl (ra hz T.gC T.gY QP ?_));walk_at "a";rw [qK,qK];refine ⟨mul_okR (by omega) (by omega),?_⟩;walk_at "a";have et:(i:Int) + (N:Int) * ((j:Int) - i)=(zi bs rs (i + N * (j - i))).turn:=by
  rw [qK,Int.natCast_add,dB,Int.natCast_sub (by omega)]
 rw [et];refine iE4 a.h _ _ _ ⟨(VG T).mono,iE7 z a.r dx _ _ _ _ (iA5 rfl hz (zaS (by decide +kernel) (by decide +kernel) (by decide +kernel) (by decide +kernel)) ((Qe T).mono) ⟨z,y0,n0,oss,bs,rs,lim,i,j,N,rfl,lo,mZ,bo,ro,rd,l1000,λ lc H1 s1 rc=>?_⟩)⟩;have lo1:=lo.same s1;refine ra (s1 _ _ hz) T.gC T.gE xw (ra lo1.so.hy T.gq T.gF rfl (iE7 z a.r dx _ _ _ _ (iA5 rfl (s1 _ _ hz) (zaS (by decide +kernel) (by decide +kernel) (by decide +kernel) (by decide +kernel)) ((QO T).mono) ⟨z,y0,n0,oss,bs,rs,lim,i,j,N,rfl,lo1,mZ,bo,ro,rd,l1000,λ lg2 H2 s2 rg=>?_⟩)));have lo2:=lo1.same s2;have hs:=lo2.so.hs;rw [(zb3 mZ bo ro rd N).1.si] at hs;refine Xm T (st:=zi bs rs (i + N * (j - i))) (rc.same s2) (qm (p:=Off []) (λ z=>nomatch z) hs) rg (by rw [wN.co.1];omega) (by rw [wN.go.1];omega) λ y H3 s3 sn=>?_;refine oE2 sn λ y' n m7=>oA5 m7 λ e so ny nd nn=>?_;clear m7 sn;have s12:=s1.trans s2;exact k _ H3 (s12.trans s3) (iE2 y' n (iA5 e so (zB s12 ny) (zB s12 nd) (λ b hb=>zB s12 (nn b hb))))
inductive spLeapt (a:Ad) (vs:Ap) (H:Hp) (Q:VK) (E:XK):Prop
 | i (vw:V) (n lim:Nat) (bs:A1) (rs:At):vs=[vw,.int n,.int lim]->Rep H (Off []) vw (qE a bs rs)->zS bs rs->(∀ b∈bs,zC b.1 b.2)->(∀ r∈rs,r.ok)->lim<=1000->(∀ i j v H',RoundAt bs rs lim i j->Same H H'->Q8 a H H' v (zi bs rs n)->Q v H')->(Zm bs rs lim->∀ H',Same H H'->E (.ref a.g) none H')->spLeapt a vs H Q E
def zeS (T:Txt K mg a) (F:FunD K "leapt" "leapt" wL f fd):FnOk P w K mg base (CXr P w) 9 f fd ["work","turns","limit"] (spLeapt a):=by
 refine F.okx zeB ?_ ?_
 ·walk_at "i"
 walk_at "j";rcases h with ⟨vw,n,lim,bs,rs,rfl,hv,mZ,bo,ro,l1000,kQ,kE⟩;walk_at "T";refine ⟨_,(zg (zo 3 zeB.nd (zx ⟨rfl,rfl,rfl⟩ hr (za (pq 0) (za (pq 2) zb))))  (zg (zo 4 zeB.nd (qw (x:="Lap") ⟨rfl,rfl,rfl⟩ hr (za (zn (pq 3) zd) (za (zn (pq 3) zd) zb))))  (zg (zo 5 zeB.nd (zj (zn (pq 3) zd) rfl))  (zg (zD (zm Zr (pq 1) (pq 5) (zt _))  (zc (zl (zx ⟨rfl,rfl,rfl⟩ hr (za (pq 0) (za (pq 1) zb)))))  zp)  (zg (zo 6 zeB.nd (QK ⟨rfl,rfl,rfl⟩ hr (pq 4) (za (zr Z7 (zr xn (pq 1) (pq 5)) (zj (pq 4) rfl)) zb)))  (zg (qo qC rfl (jP (za (zr qu (zr xn (pq 1) (pq 5)) (zj (pq 4) rfl)) zb)) (qj 7 zeB.nd)  (zc (zu (zx ⟨rfl,rfl,rfl⟩ hr (za (pq 0) (za (pq 6) zb))))))  (zc (zl (pq 6))))))))),?_⟩;walk_at "a";refine uc (vh T).mono (iE4 vw lim bs rs (iA8 rfl hv mZ bo ro l1000 (λ i j t y0 y1 n0 n1 H1 rd s1 ht so0 so1=>?_) kE));have w0:=zH mZ bo ro i;have w1:=zH mZ bo ro j;have b24:=mZ.1.1.2;have r24:=mZ.1.2.2;walk_at "a";refine iE4 a.r _ _ _ ⟨(ziv T).mono,nC ht at0 (nC ht (show atI _ 1=some (.ref y1) from rfl) ?_)⟩;intro z dz hz hdz hne;have sN:Same H1 (upd (upd H1 dz (.own z)) z (.ins a.r dz [])):=(zf hdz).trans (zf (by rw [nz (aW hne)];exact hz));obtain ⟨gl,gr⟩:=QT ro w0 w1;have c6:∀ {s:PSt},stWf bs rs s->∀ c∈s.cells,c.length<=6/\∀ wr∈c,vB rs wr:=λ w c hc=>by
  obtain ⟨q,hq⟩:=bj hc;have eb:=ac (l:=bs) (i:=q) (by rw [<- w.co.1];exact (aa.mp hq).1);obtain ⟨l,wk⟩:=w.co.2 q _ c eb hq;have:=(bo _ (ah eb)).2.1;exact ⟨by omega,wk⟩
 refine iE5 z dz y0 y1 n0 (iE4 n1 _ _ H1 (iA9 rfl nk sN hz so0 so1 (by rw [w0.co.1];exact b24) (λ c hc=>(c6 w0 c hc).1) (iA6 (by rw [w1.co.1];exact b24) (λ c hc=>⟨(c6 w1 c hc).1,λ wr hw x ex=>?_⟩) gl (by rw [w0.go.1];exact r24) gr (λ lo lg gs oss H2 s2 hz2 ro2 ok2 ng2=>⟨rfl,?_⟩))))
 ·refine oE2 ((c6 w1 c hc).2 wr hw x.1 x.2 (by rw [ex])) λ q r m7=>oA3 m7 λ e1 hr' _=>?_;clear m7;obtain ⟨g,eg⟩:∃ g,(zi bs rs i).gone[q]?=some g:=⟨_,ac (by rw [w0.go.1];exact (aa.mp hr').1)⟩;have:=(w0.go.2 q r g hr' eg).1;have:=wC (ro r (ah hr'));cases g with
  | nil=>simp at *;omega
  | cons g0 gs=>exact ⟨q,g0,gs,e1,eg⟩
 have lo2:LapO a H2 z y0 n0 (zi bs rs i) (zi bs rs j) oss:=⟨⟨dz,lo,lg,gs,hz2,ro2.keep λ b o _ ho=>⟨trivial,ho⟩,ng2⟩,so0.same s2,ok2⟩;have s02:=s1.trans s2;have lt:=rd.lt;have le:=rd.le;have kQ:∀ v H3 H',Same H H3->Same H3 H'->Q8 a H3 H' v (zi bs rs n)->Q v H':=λ v H3 H' sA sB sn=>by
  refine oE2 sn λ y' n' m7=>oA5 m7 λ e so ny nd nn=>?_;clear m7 sn;exact kQ i j v H' rd (sA.trans sB) (iE2 y' n' (iA5 e so (zB sA ny) (zB sA nd) (λ b hb=>zB sA (nn b hb))))
 refine nC (s2 _ _ ht) at0 (ra lo2.so.hy T.gq T.gu rfl ?_);rw [qK];walk_at "a";refine zJ (λ hn=>?_) (λ hn=>?_)
 ·exact uc (zfx T).mono (iE4 vw n bs rs (iA7 rfl (hv.same s02) mZ bo ro (by omega) (λ v' H' s' sn=>kQ v' H2 H' s02 s' sn)))
 walk_at "a";have tl:(zi bs rs j).turn - (zi bs rs i).turn=((j - i:Nat):Int):=by rw [qK,qK];omega
 have d0:(0:Int) < ((j - i:Nat):Int):=by omega
 refine iE7 z a.r dz _ _ _ _ (iA5 rfl hz2 (zaS (by decide +kernel) (by decide +kernel) (by decide +kernel) (by decide +kernel)) ((Qd T).mono) (iE5 z a.r dz _ _ (iA6 rfl hz2 T.gC T.gY QP ?_)));rw [tl];walk_at "a";refine ⟨fd_small d0 (by omega),?_⟩;have ed:(n:Int) - i=((n - i:Nat):Int):=by omega
 rw [fdiv_pos d0,ed,<- Int.natCast_ediv];refine iE8 z y0 n0 oss bs rs lim i (iE2 j ((n - i) / (j - i)) (iA8 rfl lo2 mZ bo ro rd l1000 (λ v H3 s3 sn=>?_)));refine oE2 sn λ y ny m7=>oA5 m7 λ m8 so3 fy fd' fn=>?_;clear m7 sn;subst m8;have s03:=s02.trans s3;have na:∀ b∈y :: ny.all,H2 b=none:=λ b hb=>by
  rcases aw.mp hb with rfl|hb
  ·exact fy
  ·exact fn b hb
 have na0:∀ b∈y :: ny.all,H b=none:=λ b hb=>zB s02 (na b hb);have hw3:Rep H3 (Off (y :: ny.all)) vw (qE a bs rs):=jq (hv.more (ns:=y :: ny.all) λ b hb=>.inr (na0 b hb)) s03;have hz3:=s3 _ _ hz2;walk_at "d";walk_at "a";refine ra hz3 T.gC T.gY QP ?_;rw [tl];walk_at "a";rw [ed,<- dl];have rl:(n - i) % (j - i) < j - i:=cW _ (by omega);refine ⟨by omega,by omega,?_⟩;refine wz (n:=(((n - i) % (j - i):Nat):Int).toNat) (λ q σ H'=>∃ (v7:Aq),σ=[some vw,some (.int n),some (.int lim),some (.ref t),some (.ref z),some (.int i),some (.ref y),v7]/\Fr (y :: ny.all) H3 H'/\StO a H' y ny (zi bs rs (i + (n - i) / (j - i) * (j - i) + q))) ⟨_,iA3 rfl Fr.refl so3⟩ ?_ ?_
 ·intro q σ H4 hq m9;refine oE1 m9 λ v7 m7=>oA3 m7 λ m8 f4 so4=>?_;clear m7 m9;subst m8;walk_at "a";refine uc (vV T).mono (iE6 vw y ny _ bs rs (iA8 rfl (hw3.fr f4) so4 (zH mZ bo ro _) mZ bo ro (λ l us H5 f5 so5 _ _ _ _=>?_)));exact ⟨_,iA3 rfl (f4.trans f5) so5⟩
 ·intro σ H4 m9;refine oE1 m9 λ v7 m7=>oA3 m7 λ m8 f4 so4=>?_;clear m7 m9;subst m8;have en:i + (n - i) / (j - i) * (j - i) + (n - i) % (j - i)=n:=by
   have:=Nat.div_add_mod (n - i) (j - i);rw [Nat.mul_comm] at this;omega
  rw [aE,en] at so4;walk_at "a";exact kQ _ H2 H4 s02 (λ b o hb=>f4 b o (λ z=>by rw [na b z] at hb;cases hb) (s3 b o hb)) (iE2 y ny (iA5 rfl so4 fy fd' fn))
def VU (T:Txt K mg a):Cal P w K mg base "leapt" 9 ["work","turns","limit"] [] (spLeapt a):=T.mH.cal (zeS T)
inductive spFold (K:A0) (vs:Ap) (H:Hp) (Q:VK) (E:XK):Prop
 | i (l:Addr) (ns:A6) (b:Int):vs=[.ref l,.int b]->SqL K H l (iv ns)->0 < b->(∀ n,0<=n->Q (.int n) H)->spFold K vs H Q E
def zbh (T:Txt K mg a):Cal P w K mg base "_law_fold" 1 ["_law_script","_law_bound"] [] (spFold K):=T.mz.cal λ F=>by
 refine F.okx zds ?_ ?_
 ·walk_at "i"
 walk_at "j";rcases h with ⟨l,ns,b,rfl,hl,b0,k⟩;walk_at "T";refine ⟨_,(zg (zo 2 zds.nd zd)  (zg (qo qC rfl (qp (pq 0)) (qj 3 zds.nd)  (zc (zo 2 zds.nd (zr qu (zr zN (zr jG (pq 2) zd) (pq 3)) (pq 1)))))  (zc (zl (pq 2))))),?_⟩;walk_at "a";walk_at "d";refine ⟨l,rfl,.inl ⟨⟨_,hl⟩,?_⟩⟩;refine qS (K:=K) (a:=l) (xs:=iv ns) (λ i σ H'=>∃ (m:Int) (v:Aq),σ=[some (.ref l),some (.int b),some (.int m),v]/\H'=H/\0<=m) ⟨0,none,rfl,rfl,by decide⟩ (λ i σ H' _ ⟨_,_,_,e,_⟩=>e ▸ hl) ?_ ?_
 ·rintro i x σ H1 hi ⟨m,v,rfl,rfl,m0⟩;obtain ⟨c,hc,rfl⟩:=Qj hi;walk_at "a";refine ⟨mul_okR (by decide) (by decide),?_⟩;walk_at "a";exact ⟨_,_,rfl,aH _ (by omega)⟩
 ·rintro σ H1 ⟨m,v,rfl,rfl,m0⟩;walk_at "a";exact k _ m0
def zgw (ns:A6):∃ cs:List Int,Zq (iv ns) (some 1) none=iv cs:=by
 unfold Zq;rw [show (some (1:Int))=some ((1:Nat):Int) from rfl,HT.sIx_nat,HT.sIx_none,zy];exact ⟨(ns.drop (min 1 ns.length)).take (ns.length - min 1 ns.length),by simp [iv]⟩
def zad (K:A0):Sp:=λ vs H Q _=>∃ (l:Addr) (ns:A6),vs=[.ref l]/\SqL K H l (ns.map V.int)/\ns.length<=63/\∀ H',Q (.bl true) H'
def zhs (T:Txt K mg a) (F:Fun K "law" "law" JY f fd):FnOk P w K mg base (CXr P w) 11 f fd ["_law_script"] (zad K):=by
 refine F.okx zhc ?_ ?_
 ·walk_at "i"
 walk_at "j";refine oE2 h λ l ns m7=>oA4 m7 λ m8 hl hn k=>?_;clear m7 h;subst m8;have hl:SqL K H l (iv ns):=hl;walk_at "T";refine ⟨_,(zh (zo 1 zhc.nd (zx ⟨rfl,rfl,rfl⟩ hr (za (pq 0) zb)))  (zh (zo 2 zhc.nd (z6 (zd2 rfl) zhW (za zd (za (zx ⟨rfl,rfl,rfl⟩ hr (za (pq 0) (za (pq 1) zb))) zb))))  (zh (zo 3 zhc.nd (zx ⟨rfl,rfl,rfl⟩ hr (za (pq 1) (za (pq 2) zb))))  (zh (zD (zm jo (pq 3) zG (zt _))  (zc (zl zeO))  zp)  (zh (zo 4 zhc.nd (zx ⟨rfl,rfl,rfl⟩ hr (za (pq 0) (za Vv zb))))  (zh (zo 5 zhc.nd (zr zN (zn (pq 3) zd) (qd (pq 4))))  (zh (zo 6 zhc.nd (zr jG (zn (pq 3) zd) (zr Z7 (zx ⟨rfl,rfl,rfl⟩ hr (za (xM ZB (pq 0) (xX zd) Zd) (za Vv zb))) (zn (pq 3) zd))))  (zh (zo 7 zhc.nd (zr qu (pq 4) (zn (pq 3) zd)))  (zh (zo 8 zhc.nd (zx ⟨rfl,rfl,rfl⟩ hr (za (pq 1) (za (pq 5) (za (pq 2) zb)))))  (zh (zo 9 zhc.nd (zx ⟨rfl,rfl,rfl⟩ hr (za (pq 1) (za (zr zN (pq 5) (pq 6)) (za (pq 2) zb)))))  (zh (zo 10 zhc.nd (zx ⟨rfl,rfl,rfl⟩ hr (za (pq 1) (za (zr zN (zr zN (pq 5) (pq 6)) (pq 7)) (za (pq 2) zb)))))  (zh (zo 11 zhc.nd (zx ⟨rfl,rfl,rfl⟩ hr (za (pq 1) (za (pq 2) zb))))  (qg (qo qC rfl (qt (za (zj (pq 1) rfl) zb)) (xL (n:=2) rfl (z9 (qj 12 zhc.nd) (z9 (qj 13 zhc.nd) jF)))  (zc (qo qC rfl (jP (za (z6 (WN rfl) zfB (za (z6 zY zX (za (zj (pq 13) rfl) zb)) (za (z6 zY zX (za (zj (pq 13) rfl) zb)) zb))) zb)) (qj 14 zhc.nd)  (zh (zo 15 zhc.nd (zn (zn (pq 11) (pq 12)) (pq 14)))  (zh (zo 16 zhc.nd (zr xn (zn (zn (zj (pq 9) rfl) (pq 12)) (pq 14)) (zn (zn (zj (pq 8) rfl) (pq 12)) (pq 14))))  (zh (zo 17 zhc.nd (zr xn (zn (zn (zj (pq 10) rfl) (pq 12)) (pq 14)) (zn (zn (zj (pq 9) rfl) (pq 12)) (pq 14))))  (zc (zD (PW.pt (pw_or (zm (Xe hr.units1) (zr jG (pq 16) (zn (pq 15) zd)) (zr jG (zn (pq 15) zd) (pq 6)) (zt _)) (pw_or (zm Zr (pq 17) zd (zt _)) (pw_or1 (zm Wt (zr jG (pq 17) (zn (pq 15) zd)) (zr jG (zn (pq 15) zd) (zn (pq 3) zd)) (zt _))))))  (zc (zl zeO))  zp))))))))  (zc (zl zeO))))))))))))))),?_⟩;walk_at "a";refine uc (zfy T).mono (spWorkOf.i l ns rfl hl (λ vw H1 bs rs s1 hw mZ bo ro=>?_));have hl1:=JI s1 hl;clear s1 hl hn;walk_at "a";refine uc (zd6 T).mono (spLimit.i l ns vw bs rs _ rfl hl1 hw (λ lim l1000=>?_));walk_at "a";refine iE2 _ _ ⟨rfl,?_⟩;obtain ⟨lm,el,l1⟩:∃ lm:Nat,(if (lim:Int) < 100 then (lim:Int) else 100)=lm/\lm<=100:=by
  split
  ·exact ⟨lim,rfl,by omega⟩
  ·exact ⟨100,rfl,aq _⟩
 rw [el];clear el l1000;walk_at "a";refine uc (zd5 T).mono (iE4 vw lm bs rs (iA7 rfl hw mZ bo ro (by omega) (λ v H2 s2 r2=>?_)));have hw2:=hw.same s2;have hl2:=JI s2 hl1;clear hw s2 hl1;rcases r2 with ⟨nr,rfl⟩|⟨i,j,tf,rd,rfl,htf⟩
 ·walk_at "a";exact k _
 have lt:=rd.lt;have le:=rd.le;obtain ⟨L,eL⟩:∃ L:Nat,(j:Int) - i=L:=⟨j - i,by omega⟩;rw [eL] at htf;have t0:atI [V.int i,.int L] 0=some (.int i):=rfl;have t1:atI [V.int i,.int L] 1=some (.int L):=rfl;walk_at "a";refine uc (zbh T).mono (spFold.i l ns _ rfl hl2 (by decide) (λ n1 p1=>?_));obtain ⟨n,rfl⟩:∃ n:Nat,n1=n:=⟨n1.toNat,by omega⟩;walk_at "a";refine nC htf t0 ?_;walk_at "a";refine nC htf t1 (uc (zbh T).mono (ZM hl2 λ p hp=>?_));obtain ⟨cs,ec⟩:=zgw ns;rw [ec];have s3:=zf (o:=.lst (iv cs)) hp;have hw3:=hw2.same s3;have ht3:=s3 _ _ htf;refine ⟨p,cs,_,rfl,SqL.of nk,by decide,λ m1 p2=>?_⟩;generalize upd H2 p (.lst (iv cs))=H3 at hw3 ht3 ⊢;clear hw2 htf s3 hl2 ec hp;obtain ⟨m,rfl⟩:∃ m:Nat,m1=m:=⟨m1.toNat,by omega⟩;refine nC ht3 t1 ⟨fd_small (by omega) (by omega),mul_okL (by omega) (by omega),?_⟩;obtain ⟨q,eq⟩:∃ q:Nat,(m:Int).fdiv L=q:=⟨m / L,by rw [cY _ (by omega)];rfl⟩;rw [eq];walk_at "a";refine nC ht3 t1 ⟨by omega,?_⟩;walk_at "a";obtain ⟨tn,et,it⟩:∃ tn:Nat,(i:Int) + n / 7=tn/\i<=tn:=⟨i + n / 7,by omega,by omega⟩;obtain ⟨r,er,rL⟩:∃ r:Nat,(n:Int) % L=r/\r < L:=⟨n % L,by rw [dl],cW _ (by omega)⟩;have eq2:(L:Int) * q=(q * L:Nat):=by rw [dB,dr]
 rw [et,er,eq2];clear et er eq2 eq p1 p2;refine uc (VU T).mono (spLeapt.i vw tn lm bs rs rfl hw3 mZ bo ro (by omega) (λ i2 j2 v2 H4 rd2 s4 sn=>?_) (λ nr=>absurd nr rd.no));refine oE2 sn λ y1 n1 m7=>oA3 m7 λ m8 so1 _=>?_;clear m7 sn;subst m8;have hw4:=hw3.same s4;have ht4:=s4 _ _ ht3;clear hw3 ht3 s4 rd2;walk_at "a";refine uc (VU T).mono (spLeapt.i vw (tn + q * L) lm bs rs (by simp) hw4 mZ bo ro (by omega) (λ i2 j2 v2 H5 rd2 s5 sn=>?_) (λ nr=>absurd nr rd.no));refine oE2 sn λ y2 n2 m7=>oA3 m7 λ m8 so2 _=>?_;clear m7 sn;subst m8;have hw5:=hw4.same s5;have ht5:=s5 _ _ ht4;have so1:=so1.same s5;clear hw4 ht4 s5 rd2;walk_at "a";refine uc (VU T).mono (spLeapt.i vw (tn + q * L + r) lm bs rs (by simp) hw5 mZ bo ro (by omega) (λ i2 j2 v2 H6 rd2 s6 sn=>?_) (λ nr=>absurd nr rd.no));refine oE2 sn λ y3 n3 m7=>oA3 m7 λ m8 so3 _=>?_;clear m7 sn;subst m8;have hw6:=hw5.same s6;have ht6:=s6 _ _ ht5;have so1:=so1.same s6;have so2:=so2.same s6;clear hw5 ht5 s6 rd2;walk_at "a";refine uc (zba T).mono (iE4 vw lm bs rs (iA8 rfl hw6 mZ bo ro (by omega) (λ i2 j2 v2 H7 rd2 s7 sh=>?_) (λ nr=>absurd nr rd.no)));obtain ⟨e1,e2⟩:=rd.one rd2;subst e1 e2;refine oE2 sh λ sl as m7=>oA3 m7 λ m8 nl _=>?_;clear m7 sh;subst m8;have hw7:=hw6.same s7;have ht7:=s7 _ _ ht6;have so1:=so1.same s7;have so2:=so2.same s7;have so3:=so3.same s7;clear hw6 ht6 s7 rd2;refine oE7 (qY hw7) λ yw dw fws l1' l2 bvs mW m7=>oA9 m7 λ m8 hyw ew1 ew2 hl1 hl2 hB hK no=>?_;clear m7;subst m8;have w0:=zH mZ bo ro i;have w1:=zH mZ bo ro j;have wa:=zH mZ bo ro tn;have wb:=zH mZ bo ro (tn + q * L);have wc:=zH mZ bo ro (tn + q * L + r);walk_at "a";let n9:St->Hp->Prop:=λ σ' H'=>True;refine cut n9 ?_ (λ _ _ _=>by walk_at "a";exact k _);walk_at "d";walk_at "a";refine ra hyw T.gz T.gy ew2 (iE2 l2 _ (iA3 rfl hl2 ?_));let ni:Nat->St->Hp->Prop:=λ m σ H'=>∃ (v12 v13 v14 v15 v16 v17:Aq),σ=[some (.ref l),some (.ref yw),some (.int lm),some (.ref tf),some (.int n),some (.int tn),some (.int (q * L:Nat)),some (.int r),some (.ref y1),some (.ref y2),some (.ref y3),some (.ref sl),v12,v13,v14,v15,v16,v17]/\Same H7 H';refine Ql (K:=K) (a:=l2) (xs:=mW) ni (iE6 _ _ _ _ _ _ ⟨rfl,Same.refl _⟩) (λ m σ H' _ h=>by obtain ⟨_,_,_,_,_,_,_,s⟩:=h;exact SqL.of (s _ _ hl2)) ?_ (λ _ _ _=>trivial);intro m x t σ H8 hm ht m9;refine oE6 m9 λ v12 v13 v14 v15 v16 v17 m7=>oA2 m7 λ m8 s8=>?_;clear m7 m9;subst m8;obtain ⟨r',hr',hKn⟩:=hK.at hm;refine oE6 hKn.inv λ z1 dx1 m1 m2 m3 fs1 m7=>oA9 m7 λ m8 _ _ _ _ g0 f1 f2 n6=>oA5 n6 λ _ g1 g2 _ _=>?_;clear m7 n6;subst m8;have s9:=s8.trans (zf (o:=.tup [.int m,.ref z1]) ht);refine un2 nk ?_;generalize upd H8 t (.tup [.int m,.ref z1])=H9 at s9 ⊢;clear s8 ht;walk_at "d";walk_at "a";refine ra (s9 _ _ g0) (CT T _) (NI T _) f1 ⟨_,iA3 (.inl ⟨_,SqL.of (s9 _ _ g1),rfl⟩) gJ (iE5 z1 _ dx1 fs1 _ (iA6 rfl (s9 _ _ g0) (CT T _) (NO T _) f2 ⟨_,⟨.inl ⟨_,SqL.of (s9 _ _ g2),rfl⟩,iE2 _ _ ⟨rfl,?_⟩⟩⟩))⟩;rw [zy,zy];have kl:=(aa.mp hr').1;have rl:=xJ (ro r' (ah hr'));have em:(if (r'.outs.length:Int) > (r'.ins.length:Int) then (r'.outs.length:Int) else (r'.ins.length:Int))=((qv r').length:Nat):=by
  rw [qv,a8]
  split <;> omega
 rw [em];have c4:(qv r').length<=4:=by rw [qv,a8];omega
 refine ⟨by omega,by omega,?_⟩;obtain ⟨u0,e0⟩:∃ g,(zi bs rs i).gone[m]?=some g:=⟨_,ac (by rw [w0.go.1];exact kl)⟩;obtain ⟨u1,e1⟩:∃ g,(zi bs rs j).gone[m]?=some g:=⟨_,ac (by rw [w1.go.1];exact kl)⟩;obtain ⟨ua,ea⟩:∃ g,(zi bs rs tn).gone[m]?=some g:=⟨_,ac (by rw [wa.go.1];exact kl)⟩;obtain ⟨ub,eb⟩:∃ g,(zi bs rs (tn + q * L)).gone[m]?=some g:=⟨_,ac (by rw [wb.go.1];exact kl)⟩;obtain ⟨uc',ec⟩:∃ g,(zi bs rs (tn + q * L + r)).gone[m]?=some g:=⟨_,ac (by rw [wc.go.1];exact kl)⟩;have l0:=(w0.go.2 m _ u0 hr' e0).1;have la:=(wa.go.2 m _ ua hr' ea).1;have lb:=(wb.go.2 m _ ub hr' eb).1;have lc:=(wc.go.2 m _ uc' hr' ec).1;obtain ⟨ca,qa,ha⟩:=xo so1.hg ea;obtain ⟨cb,qb,hb⟩:=xo so2.hg eb;obtain ⟨cc,qc,hc⟩:=xo so3.hg ec;have eg:(J5 bs rs i j)[m]?=some (jI u0 u1):=by unfold J5 jz;rw [dH,e0,e1]
 refine wz (n:=((qv r').length:Int).toNat) (λ n_ σ H'=>∃ (v14 v15 v16 v17:Aq),σ=[some (.ref l),some (.ref yw),some (.int lm),some (.ref tf),some (.int n),some (.int tn),some (.int (q * L:Nat)),some (.int r),some (.ref y1),some (.ref y2),some (.ref y3),some (.ref sl),some (.int m),some (.ref z1),v14,v15,v16,v17]/\H'=H9) (iE4 _ _ _ _ ⟨rfl,rfl⟩) ?_ (λ σ H' h=>by obtain ⟨_,_,_,_,rfl,rfl⟩:=h;exact (iE6 _ _ _ _ _ _ ⟨rfl,s9⟩));intro b σ H10 hb' m9;refine oE4 m9 λ v14 v15 v16 v17 m7=>oA2 m7 λ m8 n6=>?_;clear m7 m9;subst m8 n6;rw [aE] at hb';simp only [cU];walk_at "a";obtain ⟨sb,vs,qs,hs,rvs⟩:=nl.at (i:=m) (xs:=XU ((j:Int) - i) (jI u0 u1)) (by rw [aj,eg];rfl);have x0:(jI u0 u1)[b]?=some (gAt (zi bs rs j).gone m b - gAt (zi bs rs i).gone m b):=by
  unfold jI gAt;rw [aj,fC (by omega),ae (l:=(zi bs rs i).gone),ae (l:=(zi bs rs j).gone),e0,e1]
  rfl
 have xg:∀ {n:Nat} {g:A6},(zi bs rs n).gone[m]?=some g->b < g.length->g[b]?=some (gAt (zi bs rs n).gone m b):=λ {n g} e h=>by
  unfold gAt;rw [ae (l:=(zi bs rs n).gone),e,aS];exact qr h
 have xi:=(w0.go.2 m _ u0 hr' e0).2 _ (ah (xg e0 (by omega)));have xj:=Jv bs rs m b j;have xa:=xg ea (by omega);have xb:=xg eb (by omega);have xc:=xg ec (by omega);have m1:=jO bs rs i m b (j - i);have m2:=jO bs rs (tn + q * L) m b r;have m3:=jO bs rs (tn + q * L + r) m b (L - r);have a1:=(Jw (zb3 mZ bo ro rd q).1 mZ bo ro (tn - i)).2 m b;have a2:=(zb3 mZ bo ro rd q).2 m b;have a3:=(Jw (zb3 mZ bo ro rd 1).1 mZ bo ro (tn + q * L - i)).2 m b;have ej:j - i=L:=by omega
 rw [Nat.one_mul,ej,show i + (tn + q * L - i)=tn + q * L by omega,show i + L + (tn + q * L - i)=tn + q * L + L by omega] at a3;rw [ej,show i + (tn - i)=tn by omega,show i + q * L + (tn - i)=tn + q * L by omega] at a1;rw [ej] at a2 m1;rw [show tn + q * L + r + (L - r)=tn + q * L + L by omega] at m3;rw [show i + L=j by omega] at a3 m1;change gAt _ m b<=gAt _ m b at m1 m2 m3;obtain ⟨v,hv,rv⟩:=rvs.of (i:=b) (d:=.tup [.int (vy (gAt (zi bs rs j).gone m b - gAt (zi bs rs i).gone m b) L),.int (vz (gAt (zi bs rs j).gone m b - gAt (zi bs rs i).gone m b) L)]) (by rw [XU,aj,x0,eL];rfl);obtain ⟨ts,rfl,hts⟩:=vM (b:=(vy (gAt (zi bs rs j).gone m b - gAt (zi bs rs i).gone m b) L,vz (gAt (zi bs rs j).gone m b - gAt (zi bs rs i).gone m b) L)) rv;have sm:=zdx (top:=gAt (zi bs rs j).gone m b - gAt (zi bs rs i).gone m b) (bottom:=L) (by omega);have lw:=zf2 (top:=gAt (zi bs rs j).gone m b - gAt (zi bs rs i).gone m b) (bottom:=L) (by omega);refine zq (SqL.of (s9 _ _ nl.out)) (zz (by rw [aj,qs];rfl)) (zq (SqL.of (s9 _ _ hs)) (zz hv) ?_);have h1:=s9 _ _ hts;have so1:=so1.same s9;have so2:=so2.same s9;have so3:=so3.same s9;have ha:=s9 _ _ ha;have hb:=s9 _ _ hb;have hc:=s9 _ _ hc;generalize gAt (zi bs rs tn).gone m b=ga at xa a1;generalize gAt (zi bs rs (tn + q * L)).gone m b=gb at xb a1 a3 m2;generalize gAt (zi bs rs (tn + q * L + r)).gone m b=gc at xc m2 m3;generalize gAt (zi bs rs (tn + q * L + L)).gone m b=gd at a3 m3;generalize gAt (zi bs rs (i + q * L)).gone m b=ge at a1 a2;generalize gAt (zi bs rs i).gone m b=gi at x0 rv hts lw sm xi a1 a2 a3 m1 h1;generalize gAt (zi bs rs j).gone m b=gj at x0 rv hts lw sm xj a2 a3 m1 h1;generalize vy (gj - gi) L=ct at lw sm h1;generalize vz (gj - gi) L=cb2 at lw sm h1;walk_at "a";refine ra so2.hy T.gq T.gx rfl (zq (SqL.of so2.hg.out) (zz (Zl qb)) (zq (SqL.of hb) (zz (jf xb)) ?_));refine ra so1.hy T.gq T.gx rfl (zq (SqL.of so1.hg.out) (zz (Zl qa)) (zq (SqL.of ha) (zz (jf xa)) ?_));walk_at "a";refine ra so3.hy T.gq T.gx rfl (zq (SqL.of so3.hg.out) (zz (Zl qc)) (zq (SqL.of hc) (zz (jf xc)) ?_));refine ra so2.hy T.gq T.gx rfl (zq (SqL.of so2.hg.out) (zz (Zl qb)) (zq (SqL.of hb) (zz (jf xb)) ?_));walk_at "a";have d1:gb - ga=q * (gj - gi):=by omega
 have k1:(gb - ga) * cb2=ct * (q * L:Nat):=by rw [d1,dB,Int.mul_left_comm,lw.v,Int.mul_assoc]
 have k2:(gc - gb) * cb2<=ct * L:=by
  rw [lw.v];exact Int.mul_le_mul_of_nonneg_right (by omega) (by have:=lw.b1;omega)
 refine nC h1 (show atI _ 1=some (.int cb2) from rfl) ⟨mul_okR (by omega) (by omega),nC h1 at0 ⟨mul_okL (by omega) (by omega),?_⟩⟩;rw [am (λ z=>z k1),am (by omega)];refine nC h1 (show atI _ 1=some (.int cb2) from rfl) ⟨mul_okR (by omega) (by omega),nC h1 at0 (nC (s9 _ _ ht7) t1 ⟨mul_okR (by omega) (by omega),?_⟩)⟩;rw [am (Int.not_lt.mpr k2)];exact iE4 _ _ _ _ ⟨rfl,rfl⟩
theorem top_ok (T:Txt K mg a) (F:Fun K "law" "law" JY f fd):FnOk P w K mg base (CXr P w) 11 f fd ["_law_script"] (zad K):=zhs T F
end
local macro_rules | `(tactic| walk_at "b")=>`(tactic| first|((repeat intro _);rfl))
def zfG:Nat->(List Value->Prop)->Prop
 | 0,P=>P []
 | n + 1,P=>∀ x,zfG n λ l=>P (x :: l)
def jX {n:Nat}:∀ {P:List Value->Prop},zfG n P->∀ us:List Value,us.length=n->P us:=by
 induction n with
 | zero =>
  intro P h us e;cases us with
  | nil=>exact h
  | cons=>cases e
 | succ n ih =>
  intro P h us e;cases us with
  | nil=>cases e
  | cons x r=>exact ih (h x) r (Nat.succ.inj e)
abbrev NNy (K:A0) (x:Str):Prop:=nsIn K mainGlobals x=some none
abbrev NRy (K:A0) (x:Str) (f:Addr):Prop:=nsIn K mainGlobals x=some (some (.ref f))
abbrev FHy (K:A0) (x:Str) (st:Stmt):Prop:=∃ (f:Addr) (oc:Am) (od an:Aa) (osl:Ae) (kV doc pm cdv ct:Am),nsIn K mainGlobals x=some (some (.ref f))/\K.lookup f=some ⟨oc,od,.func (fnOf x x (zZ st) (zR st) (ze st) .none kV doc pm an cdv ct),osl⟩/\codeIn K cdv x=true/\keepIn K (.ref f)=true
def fhy {x:Str} {st:Stmt} {f:Addr} {oc:Am} {od an:Aa} {osl:Ae} {kV doc pm cdv ct:Am} (a:nsIn K mainGlobals x=some (some (.ref f))) (l:K.lookup f=some ⟨oc,od,.func (fnOf x x (zZ st) (zR st) (ze st) .none kV doc pm an cdv ct),osl⟩) (c:codeIn K cdv x=true) (k:keepIn K (.ref f)=true):FHy K x st:=⟨_,_,_,_,_,_,_,_,_,_,a,l,c,k⟩
def qA {mg:A4} {h:Heap} {x:Str} {st:Stmt} (X:K.In h) (G:h.Ns mainGlobals mg) (y:FHy K x st) (hb:∀ (kV doc pm:Am) (an:Aa) (cdv ct:Am),zfG ps.length λ us=>bindArgs (fnOf x x (zZ st) (zR st) (ze st) .none kV doc pm an cdv ct) ⟨us,[]⟩=pure (ps.zip us):=by walk_at "b"):FA K mg x st ps:=by
 obtain ⟨_,_,_,_,_,_,_,_,_,_,a,l,c,k⟩:=y;exact ziE X G a l c k λ _ _ _ _ _ _=>jX (hb _ _ _ _ _ _)
abbrev CHy (K:A0) (C:Addr):Prop:=plainGet K C Str.empty=true/\hasDictIn K C=true/\plainOver K C=true/\findIn K (.ref C) "__setattr__"=some (some (.builtin "object.__setattr__"))/\makesIn K C=true/\keepIn K (.ref C)=true/\findIn K (.ref C) "__class__"=some (some (.builtin "object.__class__"))/\mroIn K C (.type "object")=some true
def CHy.c (h:CHy K C):Cls K C:=⟨h.1,h.2.1,h.2.2.1,h.2.2.2.1⟩
def CHy.w (h:CHy K C) (g:specialIn K (.builtin "object.__class__") "__get__"=some (some (.builtin "getset_descriptor.__get__"))) (t:takesIn K (.builtin "object.__class__")=some true):WI K C:=⟨h.2.2.2.2.2.2.1,h.2.2.2.2.2.2.2,g,t⟩
abbrev MHy (K:A0) (C:Addr) (m q:Str) (st:Stmt):Prop:=∃ (f:Addr) (oc:Am) (od an:Aa) (osl:Ae) (kV doc pm cdv ct:Am),findIn K (.ref C) m=some (some (.ref f))/\isFn K (.ref f)=true/\K.lookup f=some ⟨oc,od,.func (fnOf m q (zZ st) (zR st) (ze st) .none kV doc pm an cdv ct),osl⟩/\codeIn K cdv q=true/\keepIn K (.ref f)=true
def mhy {m q:Str} {st:Stmt} {f:Addr} {oc:Am} {od an:Aa} {osl:Ae} {kV doc pm cdv ct:Am} (a:findIn K (.ref C) m=some (some (.ref f))) (i:isFn K (.ref f)=true) (l:K.lookup f=some ⟨oc,od,.func (fnOf m q (zZ st) (zR st) (ze st) .none kV doc pm an cdv ct),osl⟩) (c:codeIn K cdv q=true) (k:keepIn K (.ref f)=true):MHy K C m q st:=⟨_,_,_,_,_,_,_,_,_,_,a,i,l,c,k⟩
def wn {m q:Str} {st:Stmt} (y:MHy K C m q st) (hb:∀ (kV doc pm:Am) (an:Aa) (cdv ct:Am),zfG ps.length λ us=>bindArgs (fnOf m q (zZ st) (zR st) (ze st) .none kV doc pm an cdv ct) ⟨us,[]⟩=pure (ps.zip us):=by walk_at "b"):FM K C m q st ps:=by
 obtain ⟨_,_,_,_,_,_,_,_,_,_,a,i,l,c,k⟩:=y;exact ziA a i l c k λ _ _ _ _ _ _=>jX (hb _ _ _ _ _ _)
def Wc {q:Str} {st:Stmt} (z:CHy K C) (y:MHy K C "__init__" q st) (hb:∀ (kV doc pm:Am) (an:Aa) (cdv ct:Am),zfG ps.length λ us=>bindArgs (fnOf "__init__" q (zZ st) (zR st) (ze st) .none kV doc pm an cdv ct) ⟨us,[]⟩=pure (ps.zip us):=by walk_at "b"):FK K C q st ps:=by
 obtain ⟨_,_,_,_,_,_,_,_,_,_,a,i,l,c,k⟩:=y;exact ziB z.2.2.2.2.1 z.2.2.2.2.2.1 a i l c k λ _ _ _ _ _ _=>jX (hb _ _ _ _ _ _)
theorem all_mk {l:PySem.W.OpenLaw} {w:World} {h:Heap} {mg:A4} {fa fL f26 ya f28 yb f35 yc yd ye yf yg yh yi yj yk ym yn yo yp yq yr yt yu yv yx:Addr} (X:K.In h) (G:h.Ns mainGlobals mg) (hfa:mg "law"=some (.ref fa))
  {yy yz yA yB yC yD odL anL yE yF:Aa} {yG yH yI slL yJ:Ae} {yK yL yM yN yO yP yQ yR yS yT yU yV yW yX yY yZ y8 y9 ocL kVL dcL pmL cdL ctL yaa yba yca yda yea yfa:Am}
  {yga yha yia:Am} {yja yka yla:Aa} {yma yna yoa:Nat} {ypa yqa yra:Ae} {ysa yta yua:Tok}
  {yva ywa yxa yya yza yAa yBa:Tok}
  (h1:FHy K "common" Z2)
  (h2:FHy K "ratio" Jt)
  (h3:FHy K "lasting" QC)
  (h4:FHy K "kind_of" QD)
  (h5:FHy K "no_counts" vG)
  (h6:FHy K "empty_state" jp)
  (h7:FHy K "copied_state" xD)
  (h8:FHy K "kinds_in" wM)
  (h9:FHy K "kind_place" wO)
  (h10:FHy K "shape_of" xB)
  (h11:FHy K "check_pace" wR)
  (h12:FHy K "check_kind" wS)
  (h13:FHy K "check_ways" wP)
  (h14:FHy K "first_place" wj)
  (h15:FHy K "place_for_ware" jM)
  (h16:FHy K "heads_of" xC)
  (h17:FHy K "taken_ware" wJ)
  (h18:FHy K "belt_at" QE)
  (h19:FHy K "counted_place" j7)
  (h20:FHy K "act" zau)
  (h21:FHy K "act_all" QF)
  (h22:FHy K "move_belt" vH)
  (h23:FHy K "pass_turn" xS)
  (h24:FHy K "one_turn" ZI)
  (h25:FHy K "round_ends" wK)
  (a26:nsIn K mainGlobals "round_of"=some (some (.ref f26))) (l26:K.lookup f26=some ⟨yK,yy,.func (fnOf "round_of" "round_of" (zZ jt) (zR jt) (ze jt) (.ref ya) yL yM yN yz yO yP),yG⟩) (c26:codeIn K yO "round_of"=true) (k26:keepIn K (.ref f26)=true)
  (yCa:K.lookup ya=some ⟨yga,yja,.seq #[.int 200 ysa] yma,ypa⟩)
  (h27:FHy K "growth_of" xT)
  (a28:nsIn K mainGlobals "shares_of"=some (some (.ref f28))) (l28:K.lookup f28=some ⟨yQ,yA,.func (fnOf "shares_of" "shares_of" (zZ qN) (zR qN) (ze qN) (.ref yb) yR yS yT yB yU yV),yH⟩) (c28:codeIn K yU "shares_of"=true) (k28:keepIn K (.ref f28)=true)
  (yDa:K.lookup yb=some ⟨yha,yka,.seq #[.int 200 yta] yna,yqa⟩)
  (h29:FHy K "check_size" wQ)
  (h30:FHy K "check_each_once" jB)
  (h31:FHy K "played" JX)
  (h32:FHy K "cells_by_ware" j8)
  (h33:FHy K "origin_of" vF)
  (h34:FHy K "origins_of" xq)
  (a35:nsIn K mainGlobals "leapt"=some (some (.ref f35))) (l35:K.lookup f35=some ⟨yW,yC,.func (fnOf "leapt" "leapt" (zZ wL) (zR wL) (ze wL) (.ref yc) yX yY yZ yD y8 y9),yI⟩) (c35:codeIn K y8 "leapt"=true) (k35:keepIn K (.ref f35)=true)
  (yEa:K.lookup yc=some ⟨yia,yla,.seq #[.int 200 yua] yoa,yra⟩)
  (h36:FHy K "_law_at" zbJ)
  (h37:FHy K "_law_spread" ZJ)
  (h38:FHy K "_law_belt" J3)
  (h39:FHy K "_law_source" wU)
  (h40:FHy K "_law_drain" QI)
  (h41:FHy K "_law_kind" JZ)
  (h42:FHy K "_law_joined" ZL)
  (h43:FHy K "_law_parted" ZK)
  (h44:FHy K "_law_grow" J0)
  (h45:FHy K "_law_close" QJ)
  (h46:FHy K "_law_work" Z3)
  (h47:FHy K "_law_limit" QH)
  (h48:FHy K "_law_round" QG)
  (h49:FHy K "_law_fold" J1)
  (aL:nsIn K mainGlobals "law"=some (some (.ref fL))) (lL:K.lookup fL=some ⟨ocL,odL,.func (fnOf "law" "law" (zZ JY) (zR JY) (ze JY) .none kVL dcL pmL anL cdL ctL),slL⟩) (cL:codeIn K cdL "law"=true) (kL:keepIn K (.ref fL)=true)
  (yFa:NNy K "abs")
  (yGa:NNy K "list")
  (yHa:NNy K "len")
  (yIa:NNy K "max")
  (yJa:NNy K "tuple")
  (yKa:NNy K "range")
  (yLa:NNy K "isinstance")
  (yMa:NNy K "enumerate")
  (yNa:NNy K "zip")
  (yOa:NNy K "sorted")
  (yPa:NNy K "reversed")
  (yQa:NNy K "min")
  (yRa:NRy K "WorkError" yd)
  (ySa:NRy K "NoRatio" ye)
  (yTa:NRy K "BadBelt" yf)
  (yUa:NRy K "BadKnot" yg)
  (yVa:NRy K "BadWork" yh)
  (yWa:NRy K "TooLong" yi)
  (yXa:NRy K "State" yj)
  (yYa:NRy K "Belt" yk)
  (yZa:NRy K "Knot" ym)
  (y0a:NRy K "Source" yn)
  (y1a:NRy K "Drain" yo)
  (y2a:NRy K "Parter" yp)
  (y3a:NRy K "FirstParter" yq)
  (y4a:NRy K "Sieve" yr)
  (y5a:NRy K "Joiner" yt)
  (y6a:NRy K "Work" yu)
  (y7a:NRy K "Lap" yv)
  (y8a:CHy K yj)
  (y9a:NoAttr K yj "turn")
  (yab:NoAttr K yj "cells")
  (ybb:NoAttr K yj "sides")
  (ycb:NoAttr K yj "gone")
  (ydb:MHy K yj "__init__" "State.__init__" jk)
  (yeb:CHy K yk)
  (yfb:NoAttr K yk "room")
  (ygb:NoAttr K yk "pace")
  (yhb:MHy K yk "__init__" "Belt.__init__" xV)
  (yib:findIn K (.ref ym) "__init__"=some (some (.ref yx))) (yjb:isFn K (.ref yx)=true) (ykb:K.lookup yx=some ⟨yaa,yE,.func (fnOf "__init__" "Knot.__init__" (zZ jb) (zR jb) (ze jb) .none yba yca yda yF yea yfa),yJ⟩) (ylb:codeIn K yea "Knot.__init__"=true) (ymb:keepIn K (.ref yx)=true)
  (ynb:specialIn K (.ref ym) "__getattribute__"=some (some (.builtin "type.__getattribute__")))
  (yob:readsIn K ym (.type "type")=true)
  (ypb:findCls K (.ref ym) (.type "type") "__init__"=some (.val (.ref yx)))
  (yqb:CHy K yn)
  (yrb:NoAttr K yn "pace")
  (ysb:NoAttr K yn "kinds")
  (ytb:NoAttr K yn "ins")
  (yub:NoAttr K yn "outs")
  (yvb:MHy K yn "__init__" "Source.__init__" jT)
  (ywb:MHy K yn "choice" "Source.choice" xf)
  (yxb:MHy K yn "copied" "Source.copied" j9)
  (yyb:CHy K yo)
  (yzb:NoAttr K yo "pace")
  (yAb:NoAttr K yo "ins")
  (yBb:NoAttr K yo "outs")
  (yCb:MHy K yo "__init__" "Drain.__init__" xt)
  (yDb:MHy K yo "choice" "Drain.choice" xI)
  (yEb:MHy K yo "copied" "Drain.copied" xH)
  (yFb:CHy K yp)
  (yGb:NoAttr K yp "ins")
  (yHb:NoAttr K yp "outs")
  (yIb:MHy K yp "__init__" "Parter.__init__" jU)
  (yJb:MHy K yp "choice" "Parter.choice" xk)
  (yKb:MHy K yp "copied" "Parter.copied" xh)
  (yLb:CHy K yq)
  (yMb:NoAttr K yq "ins")
  (yNb:NoAttr K yq "outs")
  (yOb:MHy K yq "__init__" "FirstParter.__init__" qO)
  (yPb:MHy K yq "choice" "FirstParter.choice" jd)
  (yQb:MHy K yq "copied" "FirstParter.copied" jc)
  (yRb:CHy K yr)
  (ySb:NoAttr K yr "kind")
  (yTb:NoAttr K yr "ins")
  (yUb:NoAttr K yr "outs")
  (yVb:MHy K yr "__init__" "Sieve.__init__" xr)
  (yWb:MHy K yr "choice" "Sieve.choice" xF)
  (yXb:MHy K yr "place_for" "Sieve.place_for" jD)
  (yYb:MHy K yr "copied" "Sieve.copied" xE)
  (yZb:CHy K yt)
  (y0b:NoAttr K yt "ins")
  (y1b:NoAttr K yt "outs")
  (y2b:MHy K yt "__init__" "Joiner.__init__" jV)
  (y3b:MHy K yt "choice" "Joiner.choice" jr)
  (y4b:MHy K yt "copied" "Joiner.copied" xl)
  (y5b:CHy K yu)
  (y6b:NoAttr K yu "belts")
  (y7b:NoAttr K yu "knots")
  (y8b:MHy K yu "__init__" "Work.__init__" jy)
  (y9b:MHy K yu "drains" "Work.drains" jS)
  (yac:MHy K yu "sources" "Work.sources" jC)
  (ybc:MHy K yu "beat" "Work.beat" xU)
  (ycc:CHy K yv)
  (ydc:NoAttr K yv "before")
  (yec:NoAttr K yv "length")
  (yfc:NoAttr K yv "origins")
  (ygc:NoAttr K yv "growth")
  (yhc:MHy K yv "__init__" "Lap.__init__" wT)
  (yic:MHy K yv "new_ware" "Lap.new_ware" xG)
  (yjc:MHy K yv "ware_after" "Lap.ware_after" jN)
  (ykc:MHy K yv "cells_after" "Lap.cells_after" qV)
  (ylc:MHy K yv "gone_after" "Lap.gone_after" jm)
  (ymc:MHy K yv "state_after" "Lap.state_after" jE)
  (wgn:specialIn K (.builtin "object.__class__") "__get__"=some (some (.builtin "getset_descriptor.__get__"))) (wtk:takesIn K (.builtin "object.__class__")=some true)
  (ync:nsIn K mainGlobals "MOST_ROOM"=some (some (.int 6 yva)))
  (yoc:nsIn K mainGlobals "MOST_PACE"=some (some (.int 4 ywa)))
  (ypc:nsIn K mainGlobals "MOST_KINDS"=some (some (.int 6 yxa)))
  (yqc:nsIn K mainGlobals "FEWEST_WAYS"=some (some (.int 2 yya)))
  (yrc:nsIn K mainGlobals "MOST_WAYS"=some (some (.int 4 yza)))
  (ysc:nsIn K mainGlobals "MOST_BELTS"=some (some (.int 24 yAa)))
  (ytc:nsIn K mainGlobals "MOST_KNOTS"=some (some (.int 24 yBa)))
  (yuc:excIn K ye bmV "ValueError.__new__"=true)
  (yvc:excIn K yf bmV "ValueError.__new__"=true)
  (ywc:excIn K yg bmV "ValueError.__new__"=true)
  (yxc:excIn K yi bmV "ValueError.__new__"=true)
  (yyc:excIn K yh bmV "ValueError.__new__"=true)
  (yzc:subIn K (.ref yi) (.type "BaseException")=some true)
  (yAc:hasDictIn K yi=true)
  (yBc:typeIn K (.ref yi)=some (.type "type"))
  (yCc:subIn K (.ref yi) (.ref yi)=some true)
  (yDc:KOy K yn yt false)
  (yEc:KOy K yo yt false)
  (yFc:KOy K yp yt false)
  (yGc:KOy K yq yt false)
  (yHc:KOy K yr yt false)
  (yIc:KOy K yt yt true)
  (yJc:KOy K yn yo false)
  (yKc:KOy K yo yo true)
  (yLc:KOy K yp yo false)
  (yMc:KOy K yq yo false)
  (yNc:KOy K yr yo false)
  (yOc:KOy K yt yo false)
  (yPc:KOy K yn yn true)
  (yQc:KOy K yo yn false)
  (yRc:KOy K yp yn false)
  (ySc:KOy K yq yn false)
  (yTc:KOy K yr yn false)
  (yUc:KOy K yt yn false)
  : ∃ fd:FuncData,(∀ (s:An) (v:Am),BindsTo s fd ⟨[v],[]⟩ [("_law_script",v)])/\∀ base:Heap,K.In base->base.Ns mainGlobals mg->FnOk l.prog w K mg base (CXr l.prog w) 11 fa fd ["_law_script"] (zad K):=by
 have e:=hfa.symm.trans (cg X G aL);cases e;have T:Txt K mg ⟨yd,ye,yf,yg,yh,yi,yj,yk,ym,yn,yo,yp,yq,yr,yt,yu,yv⟩:={
  mr:=qA X G h1
  mG:=qA X G h2
  lZ:=qA X G h3
  l5:=qA X G h4
  ly:=qA X G h5
  kA:=qA X G h6
  kb:=qA X G h7
  lM:=qA X G h8
  kK:=qA X G h9
  lO:=qA X G h10
  kM:=qA X G h11
  kN:=qA X G h12
  kO:=qA X G h13
  kB:=qA X G h14
  iC:=qA X G h15
  lP:=qA X G h16
  kP:=qA X G h17
  l7:=qA X G h18
  iO:=qA X G h19
  mU:=qA X G h20
  l8:=qA X G h21
  lz:=qA X G h22
  lA:=qA X G h23
  lQ:=qA X G h24
  kR:=qA X G h25
  ku:=zfm (st:=jt) (ps:=["work","limit"]) X G a26 l26 c26 k26 yCa (.cons ⟨_,rfl⟩ (.nil)) (λ s us hK hl=>by refine jX (n:=2) (P:=λ z=>BindsTo s _ ⟨z,[]⟩ (List.zip ["work","limit"] z)) ?_ us hl;intro _ _;exact fO hK rfl yCa rfl rfl rfl) (λ s us hK hl=>by refine jX (n:=1) (P:=λ z=>BindsTo s _ ⟨z,[]⟩ (List.zip ["work","limit"] (z ++ _))) ?_ us (by simp at hl;omega);intro _;exact fO hK rfl yCa rfl rfl rfl)
  lB:=qA X G h27
  lC:=zfm (st:=qN) (ps:=["work","limit"]) X G a28 l28 c28 k28 yDa (.cons ⟨_,rfl⟩ (.nil)) (λ s us hK hl=>by refine jX (n:=2) (P:=λ z=>BindsTo s _ ⟨z,[]⟩ (List.zip ["work","limit"] z)) ?_ us hl;intro _ _;exact fO hK rfl yDa rfl rfl rfl) (λ s us hK hl=>by refine jX (n:=1) (P:=λ z=>BindsTo s _ ⟨z,[]⟩ (List.zip ["work","limit"] (z ++ _))) ?_ us (by simp at hl;omega);intro _;exact fO hK rfl yDa rfl rfl rfl)
  kS:=qA X G h29
  iy:=qA X G h30
  mt:=qA X G h31
  iP:=qA X G h32
  lD:=qA X G h33
  kT:=qA X G h34
  mH:=zfm (st:=wL) (ps:=["work","turns","limit"]) X G a35 l35 c35 k35 yEa (.cons ⟨_,rfl⟩ (.nil)) (λ s us hK hl=>by refine jX (n:=3) (P:=λ z=>BindsTo s _ ⟨z,[]⟩ (List.zip ["work","turns","limit"] z)) ?_ us hl;intro _ _ _;exact fO hK rfl yEa rfl rfl rfl) (λ s us hK hl=>by refine jX (n:=2) (P:=λ z=>BindsTo s _ ⟨z,[]⟩ (List.zip ["work","turns","limit"] (z ++ _))) ?_ us (by simp at hl;omega);intro _ _;exact fO hK rfl yEa rfl rfl rfl)
  mR:=qA X G h36
  lS:=qA X G h37
  mv:=qA X G h38
  lT:=qA X G h39
  l9:=qA X G h40
  mw:=qA X G h41
  lU:=qA X G h42
  lV:=qA X G h43
  mx:=qA X G h44
  ma:=qA X G h45
  my:=qA X G h46
  md:=qA X G h47
  me:=qA X G h48
  mz:=qA X G h49
  kx:=bV X G yFa
  mB:=bV X G yGa
  gJ:=bV X G yHa
  mq:=bV X G yIa
  lX:=bV X G yJa
  ke:=bV X G yKa
  iD:=bV X G yLa
  i9:=bV X G yMa
  mP:=bV X G yNa
  lJ:=bV X G yOa
  ky:=bV X G yPa
  mQ:=bV X G yQa
  iQ:=cg X G ySa
  mf:=cg X G yTa
  g9:=cg X G yUa
  kU:=cg X G yVa
  kX:=cg X G yWa
  mJ:=cg X G yXa
  mS:=cg X G yYa
  kz:=cg X G y0a
  lY:=cg X G y1a
  mC:=cg X G y2a
  kC:=cg X G y3a
  mK:=cg X G y4a
  lK:=cg X G y5a
  mT:=cg X G y6a
  mV:=cg X G y7a
  gq:=y8a.c
  gu:=y9a
  gw:=yab
  gF:=ybb
  gx:=ycb
  kY:=Wc y8a ydb
  iu:=yeb.c
  io:=yfb
  g6:=ygb
  lE:=Wc yeb yhb
  gD:=ziC (st:=jb) (ps:=["self","ins","outs"]) (cg X G yZa) ynb yob ypb ykb ylb ymb (λ _ _ _ _ _ _=>jX (by walk_at "b"))
  gG:=yqb.c
  gQ:=yrb
  gI:=ysb
  iE:=ytb
  g7:=yub
  mD:=yqb.w wgn wtk
  kD:=Wc yqb yvb
  iR:=wn ywb
  iS:=wn yxb
  gS:=yyb.c
  gO:=yzb
  ip:=yAb
  iF:=yBb
  mL:=yyb.w wgn wtk
  kZ:=Wc yyb yCb
  kg:=wn yDb
  kh:=wn yEb
  gU:=yFb.c
  ia:=yGb
  gR:=yHb
  mE:=yFb.w wgn wtk
  kF:=Wc yFb yIb
  iT:=wn yJb
  iU:=wn yKb
  gH:=yLb.c
  gM:=yMb
  gL:=yNb
  kG:=yLb.w wgn wtk
  iw:=Wc yLb yOb
  ib:=wn yPb
  ic:=wn yQb
  gP:=yRb.c
  ie:=ySb
  ir:=yTb
  ig:=yUb
  mM:=yRb.w wgn wtk
  k8:=Wc yRb yVb
  ki:=wn yWb
  iz:=wn yXb
  kj:=wn yYb
  gW:=yZb.c
  gX:=y0b
  g8:=y1b
  mF:=yZb.w wgn wtk
  kH:=Wc yZb y2b
  iV:=wn y3b
  iW:=wn y4b
  gz:=y5b.c
  gA:=y6b
  gy:=y7b
  lF:=Wc y5b y8b
  kI:=wn y9b
  km:=wn yac
  lG:=wn ybc
  gC:=ycc.c
  gE:=ydc
  gY:=yec
  ix:=yfc
  ij:=ygc
  lW:=Wc ycc yhc
  ko:=wn yic
  iG:=wn yjc
  iA:=wn ykc
  iH:=wn ylc
  iB:=wn ymc
  lH:=⟨_,cg X G ync⟩
  ka:=⟨_,cg X G yoc⟩
  k9:=⟨_,cg X G ypc⟩
  kJ:=⟨_,cg X G yqc⟩
  lI:=⟨_,cg X G yrc⟩
  lh:=⟨_,cg X G ysc⟩
  lj:=⟨_,cg X G ytc⟩
  mh:=⟨yuc⟩
  mi:=⟨yvc⟩
  hJ:=⟨ywc⟩
  mj:=⟨yxc⟩
  ll:=⟨yyc⟩
  ml:=yzc
  gZ:=zdM yAc yBc yCc
  iI:=yDc
  iX:=yEc
  iJ:=yFc
  hW:=yGc
  iY:=yHc
  iK:=yIc
  iZ:=yJc
  kq:=yKc
  i5:=yLc
  ik:=yMc
  kr:=yNc
  i6:=yOc
  iL:=yPc
  i7:=yQc
  iM:=yRc
  hX:=ySc
  i8:=yTc
  iN:=yUc
 }
 exact ⟨_,λ s v=>.of_eq rfl,λ base _ _=>top_ok T (w6 (st:=JY) lL cL kL)⟩
def walk {l:PySem.W.OpenLaw} {q:Af} {loose:A8} {XP:(Str->Option Value)->Heap->Prop} {YP:World->Heap->Prop} {d:DefRec} {K:Params->PySem.W.Frag} (hn:l.most=some 63) (hdf:d.params.defaults=[])
  (hY:∀ (w:World) (h:Heap),YP w h->(K w.params).In h)
  (F:∀ (w:World) (mg:A4) (fa:Addr) (h:Heap),(K w.params).In h->h.Ns mainGlobals mg->mg d.name=some (.ref fa) ->
   ∃ fd:FuncData,(∀ (s:An) (u:Am),BindsTo s fd ⟨[u],[]⟩ [("_law_script",u)])/\∀ base:Heap,(K w.params).In base->base.Ns mainGlobals mg->FnOk l.prog w (K w.params) mg base (CXr l.prog w) 11 fa fd ["_law_script"] (zad (K w.params))) :
  PySem.W.WalkO q loose XP YP l.row.toRowW d [] (λ f vs=>PySem.call f vs) :=
 L2.walk_of (n:=63) (k:=11) (x:="_law_script") (CX:=λ w=>CXr l.prog w) (sp:=λ w=>zad (K w.params)) hn (by decide) hdf ⟨rfl,by decide,by decide⟩ hY F (λ _ _ a ns hl _ hS=>⟨a,ns,rfl,hS,hl,λ _=>rfl⟩) λ _ _ _ _ _ z=>zdZ z
end K34
set_option Elab.async false
structure PySem.W.Fast:Prop where(tw5534457220067672714 tw15037343748127910141 tw5025596884597062435 tw6125250102080464107 tw16598057105070132851 tw6173837358196527874 tw3589187139957856667 tw3973682279852742200 tw18133133858748247971 tw13156417807272073636 tw10088471104963373598 tw877410392974621286 tw2339953170661604112 tw18316796277771802236 tw13680594430218567324 tw9785456054366742343 tw4558031005423993895 tw4341057826374694659 tw2910511125057763541 tw10576974821602933792 tw2303357311416688150 tw11302603668095260164 tw6271250697888900039 tw16504553656255042354 tw14613245951983779368 tw13798801356420156994 tw13119100135548343075 tw967842167687878139 tw8814434526349412758 tw16318355188796204554 tw4901808358024077451 tw6398078318317422577 tw13871889711802899882 tw11900231662943410672 tw2346166635250852546 tw11724560195288539345 tw11436992656402549628 tw10956774936448101959 tw9538203081046565287 tw16887304258144497593 tw16955404713512666459 tw14059374013424219699 tw9625830125920218724 tw13454010427988021590 tw989009211846299510 tw10804246582696055877 tw4461972919852816811 tw17748024247910647779 tw12377510175430598098 tw3632908787513043134 tw823189072008801866 tw822778370177282122 tw17483975056697381110 tw14641659036788721867 tw4002823362135677750 tw14838194461780528225 tw2776653469812272656 tw2948683099604266735 tw10783622767592641221 tw17057184664654436692 tw6993163896267887448 tw2695356882515331377 tw5906216102765296604 tw14000414632129218809 tw8936611849829201394 tw8150974680800370233 tw17305234780194203016 tw14823656297381681369 tw3839881371424411376 tw7870997749396918601 tw6784470752243758791 tw1025306235272730878 tw12745874622016152435 tw15359488356930080517 tw3198169368016116603 tw6901076863468812588 tw10366193933095557218 tw17287099643806085826 tw12820072065342471864 tw16560394558230498971 tw15615316651466873225 tw12115525208015656157 tw7945499430510763981 tw7021909965562410107 tw8158075252242169646 tw9301332998596079820 tw3720698968796737847 tw18029551915261493822 tw10182331506674838933 tw11665198506874729940 tw17421780257421534411 tw12072145657358966099 tw7054767907005411822 tw7732091676725288493 tw967378281248833907 tw10584514597359322860 tw2454456264677091384 tw4118414347443255972 tw8394654952457093104 tw1235898811586742802 tw2618358822518162556 tw11550869979780840199 tw16544005871883646313 tw5251603329338233732 tw7489211797284913406 tw653596436457227603 tw214119399912516716 tw3546448085143437765 tw18364049050966876663 tw3699519916137570301 tw10025199677953920105 tw8909915364922834966 tw13283245884389255799 tw10047922649972068800 tw12087566966642292072 tw13579575124277965173 tw11831398927508072228 tw9676864086387126836 tw3674719709713084176 tw9930051832908581863 tw17316048532585294165 tw8758743774913369055 tw8843179201415544846 tw3414507882952123505 tw15485934662270872054 tw9893911994033760629 tw15671669899741754619 tw17769514061170927572 tw10403571416349754312 tw7273332637131140560 tw3343299267068863735 tw17263099274824435670 tw16711893890936613505 tw14020025233683983156 tw17336125988664285866 tw13433428557326603141 tw13490190488713936271 tw12889898929427299686 tw15363789337146177094 tw15810915882217579552 tw10672063446099257609 tw14210159985457725066 tw12770540084498372085 tw10038417783837974135 tw544985784394441175 tw335867811221062305 tw8469736722973773269 tw8284540217170287897 tw7864314735530489737 tw14243075830000966347 tw1753285258967290043 tw16316513211912155727 tw4873678987321879556 tw2417645147351630134 tw18419765710812445782 tw518955904000527782 tw3760912144912812068 tw8041128260817878855 tw11047691175887025498 tw9735166418943740532 tw17407488784397345547 tw1880061918905969436 tw2299061762367398665 tw3008287164245904937 tw12717702209871221852 tw12845230764926602582 tw17267434046785023673 tw16449651278668929395 tw12286442328583689706 tw6887202810371383495 tw5919082633662851103 tw5324852823898069695 tw7466145396480441761 tw4389030279888975105 tw7274022766588252556 tw15003704613340507671 tw7077943569177912780 tw16480724197258327944 tw11744249811277253862 tw4598577334612730395 tw1303286226738380395 tw15288271937195648852 tw441376985046776152 tw15523511842704477009 tw17199410137195980182 tw6623521547904162274 tw7619988522966768618 tw14094339043238980186 tw2039198880132613284 tw1485368197429468413 tw14864170550518757501 tw9139344194428342067 tw8572338834527269175 tw7678763159520603108 tw2250915191411840957 tw16311129001283269154 tw3796038588280054651 tw14531951761870180228 tw18442892227703210055 tw12955709116648528203 tw1785898903494990174 tw2732450709869511593 tw9370241902134621842 tw9975342495958028841 tw9882657022145422918 tw16773812329351663927 tw8274993630420185185 tw16515042572977332445 tw13130782104297331785 tw4276802119310000173 tw6074223896733696647 tw17928396632901667190 tw13124236482782645835 tw3355460923256508510 tw3673519500808732333 tw11854859375714667758 tw3322131315805729635 tw14726186999587523750 tw3239496302352488544 tw17162180740239329229 tw17359418924132309681 tw9537319621124775049 tw8412360815734370270 tw9925819891281678899 tw654868962519746662 tw17105086605302672037 tw2291651826672492404 tw10582670206941094639 tw2692401041627697098 tw16948506498848812837 tw14666950441308386050 tw11582745824039363912 tw15413260360894382261 tw17517724103538904278 tw13422601881454158199 tw4566954255378795418 tw16512526403382578745 tw16319030838255868567 tw13799773445572878424 tw1522171902944115586 tw7053924527047059933 tw9642012211629155107 tw10075067719396577805 tw2746762565773327930 tw6482663694695566078 tw12215064842120027191 tw10825440613740714644 tw11774871906625388460 tw4945061704752977304 tw9691763458203556880 tw3364151551747845276 tw11503962693863868977 tw15931265537070101590 tw16821834437322243257 tw2866344362124783468 tw9640359794754494399 tw14691829060786057999 tw2218194971709121904 tw11531843898179787434 tw12913671773487202819 tw7119104546453476063 tw5900228878587090357 tw13002260183258005943 tw3980328130202888716 tw9812412442669616690 tw7914476495144673368 tw13056651559451893884 tw11095595706248899918 tw2808754123605363284 tw5663320024543472158 tw9980541231894389216 tw6274493902769231818 tw15582353348532291964 tw17201308070600981655 tw3776307350174801916 tw10617808708756190141 tw3559221888493138614 tw7756928604974129359 tw3769520383423093643 tw5051279627727845147 tw3940253813335351834 tw7024660421362595506 tw10371170073503672623 tw1071711122731337624 tw2143831298461922498 tw5158293270613128151 tw7677383626124195979 tw7287348719687137155 tw3096210108921674358 tw2532685116331211039 tw10684052952718925361 tw2492135062164738566 tw6423081168189555782 tw8755250757430158785 tw2282286860307226229 tw301075765265520780 tw15014569282379546114 tw4850896799958980151 tw11383758594793883148 tw2231457999098887385 tw8097199129182538322 tw8369190739060766176 tw6380559264260725521 tw424997111088619973 tw10797894022747342102 tw12793125716227622456 tw6077642761489340227 tw14253592005838266736 tw5501800075821007470 tw15216664342327657297 tw87591647272794578 tw715530298935879254 tw15885822657347242306 tw10360539459520839843 tw16820319442139849375 tw8437551259616861827 tw13671422028918896038 tw6709597228432309510 tw5992339438875555541 tw7972385425292961112 tw13093226619462812397 tw15080059699108554514 tw770160945819268211 tw6450234205568126365 tw14765523933311877905 tw1787245138601923781 tw4767284630493893106 tw10317547447421889930 tw11158321106447602334 tw8323167023917147781 tw2632030498763372331 tw9165894069428361673 tw5023576009327140820 tw17901988785629291432 tw16780993851050838433 tw6105744725332457361 tw5018893930942711499 tw14451209917615377638 tw1362634739579514837 tw9503726783425742320 tw13478384315850770218 tw13371048305213659059 tw14250814949992222452 tw12676908253270355771 tw323636872828414671 tw6566710653024954160 tw11383054237253486777 tw12758258618644749083 tw1972762154105317938 tw14335307104135885192 tw13856681079477866713 tw9095302747551934740 tw662802394106134271 tw7583536006457370692 tw12120554507956146955 tw4367951198108893387 tw2248578541621213588 tw1842255957196138267 tw4453645890293740637 tw18046840831445420014 tw11622150487784966751 tw17507876834744862594 tw10876564161628079966 tw12472421029201128603 tw17997645026031251769 tw3785555148733084191 tw1459593248861967815 tw5487359079090579805 tw17022714229394908153 tw1021191730399482016 tw2488118449462478872 tw5363864930570832290 tw1168952586971284911 tw4258565710699054439 tw14898141301661619165 tw11210186417945111672 tw13105434377181624844 tw17077304711734309376 tw11878336194305596125 tw11399689400911153256 tw3199192419249904482 tw1798640578695851540:True)
open PySem PySem.W PyProof.Rows
set_option maxRecDepth 100000 in
set_option maxHeartbeats 0 in
theorem PySem.Challenge.cw_beltshares_k34_whole_shares_for_ever_holds : PySem.Challenge.rw_beltshares_k34_whole_shares_for_ever.Holds := by
 w_on;o_law;k_head;(case hw=>w_witness2)
 k_fill
 refine K34.walk (l:=PySem.Challenge.rw_beltshares_k34_whole_shares_for_ever) rfl rfl (λ w h Y=>PySem.W.kIn_of Y) ?F
 case F =>
  intro w mg fa h KX G hmg;refine' K34.all_mk KX G hmg ?h1 ?h2 ?h3 ?h4 ?h5 ?h6 ?h7 ?h8 ?h9 ?h10 ?h11 ?h12 ?h13 ?h14 ?h15 ?h16 ?h17 ?h18 ?h19 ?h20 ?h21 ?h22 ?h23 ?h24 ?h25 ?a26 ?l26 ?c26 ?k26 ?yCa ?h27 ?a28 ?l28 ?c28 ?k28 ?yDa ?h29 ?h30 ?h31 ?h32 ?h33 ?h34 ?a35 ?l35 ?c35 ?k35 ?yEa ?h36 ?h37 ?h38 ?h39 ?h40 ?h41 ?h42 ?h43 ?h44 ?h45 ?h46 ?h47 ?h48 ?h49 ?aL ?lL ?cL ?kL ?yFa ?yGa ?yHa ?yIa ?yJa ?yKa ?yLa ?yMa ?yNa ?yOa ?yPa ?yQa ?yRa ?ySa ?yTa ?yUa ?yVa ?yWa ?yXa ?yYa ?yZa ?y0a ?y1a ?y2a ?y3a ?y4a ?y5a ?y6a ?y7a ?y8a ?y9a ?yab ?ybb ?ycb ?ydb ?yeb ?yfb ?ygb ?yhb ?yib ?yjb ?ykb ?ylb ?ymb ?ynb ?yob ?ypb ?yqb ?yrb ?ysb ?ytb ?yub ?yvb ?ywb ?yxb ?yyb ?yzb ?yAb ?yBb ?yCb ?yDb ?yEb ?yFb ?yGb ?yHb ?yIb ?yJb ?yKb ?yLb ?yMb ?yNb ?yOb ?yPb ?yQb ?yRb ?ySb ?yTb ?yUb ?yVb ?yWb ?yXb ?yYb ?yZb ?y0b ?y1b ?y2b ?y3b ?y4b ?y5b ?y6b ?y7b ?y8b ?y9b ?yac ?ybc ?ycc ?ydc ?yec ?yfc ?ygc ?yhc ?yic ?yjc ?ykc ?ylc ?ymc ?wgn ?wtk ?ync ?yoc ?ypc ?yqc ?yrc ?ysc ?ytc ?yuc ?yvc ?ywc ?yxc ?yyc ?yzc ?yAc ?yBc ?yCc ?yDc ?yEc ?yFc ?yGc ?yHc ?yIc ?yJc ?yKc ?yLc ?yMc ?yNc ?yOc ?yPc ?yQc ?yRc ?ySc ?yTc ?yUc
  (case h1|h2|h3|h4|h5|h6|h7|h8|h9|h10|h11|h12|h13|h14|h15|h16|h17|h18|h19|h20|h21|h22|h23|h24|h25=>(refine' K34.fhy ?a ?l ?c ?k;(case a=>k_is);(case l=>k_is);(case c=>k_is);(case k=>k_is)))
  (case a26|l26|c26|k26|yCa=>k_is)
  (case h27=>(refine' K34.fhy ?a ?l ?c ?k;(case a=>k_is);(case l=>k_is);(case c=>k_is);(case k=>k_is)))
  (case a28|l28|c28|k28|yDa=>k_is)
  (case h29|h30|h31|h32|h33|h34=>(refine' K34.fhy ?a ?l ?c ?k;(case a=>k_is);(case l=>k_is);(case c=>k_is);(case k=>k_is)))
  (case a35|l35|c35|k35|yEa=>k_is)
  (case h36|h37|h38|h39|h40|h41|h42|h43|h44|h45|h46|h47|h48|h49=>(refine' K34.fhy ?a ?l ?c ?k;(case a=>k_is);(case l=>k_is);(case c=>k_is);(case k=>k_is)))
  (case aL|lL|cL|kL=>k_is)
  (case yFa|yGa|yHa|yIa|yJa|yKa|yLa|yMa|yNa|yOa|yPa|yQa|yRa|ySa|yTa|yUa|yVa|yWa|yXa|yYa|yZa|y0a|y1a|y2a|y3a|y4a|y5a|y6a|y7a=>(show nsIn _ _ _=_;k_is))
  (case y8a=>(refine ⟨?_,?_,?_,?_,?_,?_,?_,?_⟩ <;> k_is))
  (case y9a|yab|ybb|ycb=>(show findIn _ _ _=_;k_is))
  (case ydb=>(refine' K34.mhy ?a ?i ?l ?c ?k;(case a=>k_is);(case i=>k_is);(case l=>k_is);(case c=>k_is);(case k=>k_is)))
  (case yeb=>(refine ⟨?_,?_,?_,?_,?_,?_,?_,?_⟩ <;> k_is))
  (case yfb|ygb=>(show findIn _ _ _=_;k_is))
  (case yhb=>(refine' K34.mhy ?a ?i ?l ?c ?k;(case a=>k_is);(case i=>k_is);(case l=>k_is);(case c=>k_is);(case k=>k_is)))
  (case yib|yjb|ykb|ylb|ymb|ynb|yob|ypb=>k_is)
  (case yqb=>(refine ⟨?_,?_,?_,?_,?_,?_,?_,?_⟩ <;> k_is))
  (case yrb|ysb|ytb|yub=>(show findIn _ _ _=_;k_is))
  (case yvb|ywb|yxb=>(refine' K34.mhy ?a ?i ?l ?c ?k;(case a=>k_is);(case i=>k_is);(case l=>k_is);(case c=>k_is);(case k=>k_is)))
  (case yyb=>(refine ⟨?_,?_,?_,?_,?_,?_,?_,?_⟩ <;> k_is))
  (case yzb|yAb|yBb=>(show findIn _ _ _=_;k_is))
  (case yCb|yDb|yEb=>(refine' K34.mhy ?a ?i ?l ?c ?k;(case a=>k_is);(case i=>k_is);(case l=>k_is);(case c=>k_is);(case k=>k_is)))
  (case yFb=>(refine ⟨?_,?_,?_,?_,?_,?_,?_,?_⟩ <;> k_is))
  (case yGb|yHb=>(show findIn _ _ _=_;k_is))
  (case yIb|yJb|yKb=>(refine' K34.mhy ?a ?i ?l ?c ?k;(case a=>k_is);(case i=>k_is);(case l=>k_is);(case c=>k_is);(case k=>k_is)))
  (case yLb=>(refine ⟨?_,?_,?_,?_,?_,?_,?_,?_⟩ <;> k_is))
  (case yMb|yNb=>(show findIn _ _ _=_;k_is))
  (case yOb|yPb|yQb=>(refine' K34.mhy ?a ?i ?l ?c ?k;(case a=>k_is);(case i=>k_is);(case l=>k_is);(case c=>k_is);(case k=>k_is)))
  (case yRb=>(refine ⟨?_,?_,?_,?_,?_,?_,?_,?_⟩ <;> k_is))
  (case ySb|yTb|yUb=>(show findIn _ _ _=_;k_is))
  (case yVb|yWb|yXb|yYb=>(refine' K34.mhy ?a ?i ?l ?c ?k;(case a=>k_is);(case i=>k_is);(case l=>k_is);(case c=>k_is);(case k=>k_is)))
  (case yZb=>(refine ⟨?_,?_,?_,?_,?_,?_,?_,?_⟩ <;> k_is))
  (case y0b|y1b=>(show findIn _ _ _=_;k_is))
  (case y2b|y3b|y4b=>(refine' K34.mhy ?a ?i ?l ?c ?k;(case a=>k_is);(case i=>k_is);(case l=>k_is);(case c=>k_is);(case k=>k_is)))
  (case y5b=>(refine ⟨?_,?_,?_,?_,?_,?_,?_,?_⟩ <;> k_is))
  (case y6b|y7b=>(show findIn _ _ _=_;k_is))
  (case y8b|y9b|yac|ybc=>(refine' K34.mhy ?a ?i ?l ?c ?k;(case a=>k_is);(case i=>k_is);(case l=>k_is);(case c=>k_is);(case k=>k_is)))
  (case ycc=>(refine ⟨?_,?_,?_,?_,?_,?_,?_,?_⟩ <;> k_is))
  (case ydc|yec|yfc|ygc=>(show findIn _ _ _=_;k_is))
  (case yhc|yic|yjc|ykc|ylc|ymc=>(refine' K34.mhy ?a ?i ?l ?c ?k;(case a=>k_is);(case i=>k_is);(case l=>k_is);(case c=>k_is);(case k=>k_is)))
  (case wgn|wtk|ync|yoc|ypc|yqc|yrc|ysc|ytc=>k_is)
  (case yuc|yvc|ywc|yxc|yyc=>k_exc)
  (case yzc|yAc|yBc|yCc=>k_is)
  (case yDc|yEc|yFc|yGc|yHc|yIc|yJc|yKc|yLc|yMc|yNc|yOc|yPc|yQc|yRc|ySc|yTc|yUc=>(show kitOne _ _ _=_;kit_is))
