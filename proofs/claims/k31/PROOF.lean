import PyProof.Rows.All
import Wide.All
import OpenK.AllK
import Wide.FinOn
import Lean
import PyProof.EqAt
import PyProof.EqKinds
import PyProof.TupleCall
import PyProof.NeKinds
import PyProof.SumWalkG
import PyProof.Rows.CallKwBuiltin
import PyProof.Rows.FStr
import PyProof.ListRange
import PyProof.ZipIter
import PyProof.CompFree
import KE.KIntText
import PyProof.StrWalks
import PyProof.Rows.StrMul
import PyProof.ConsumeWalk
import Wide.Txt
import PySem.Challenge.RW_beltshares_k31_whole_rounds_far_away
open PySem.W (instObj methodObj lookIn plainGet hasDictIn findIn handedIn plainGet_of isFn plainOver takerIn any_some makesIn typeIn emptyDict looks_findIn keepIn specialIn takesIn mroIn fnOf codeIn callWith_K methodCall_KW kitOne excIn kitCls subIn nsIn mg_of readsIn findCls binds_K mg_none_of)
set_option Elab.async false
set_option linter.all false
set_option maxRecDepth 100000
set_option compiler.extract_closed false
set_option bootstrap.genMatcherCode false
set_option hygiene false
local macro_rules | `(tactic| walk_at "p")=>`(tactic| first|exact Or.inl rfl|exact Or.inr rfl|assumption)
local macro_rules | `(tactic| walk_at "q")=>`(tactic| first|exact L2.nobehind _ (by decide) (by decide)|rfl)
set_option hygiene true
open List (nodup_append getElem_mem of_mem_zip range_succ nodup_nil all_cons any_cons map_nil)
def aa:=@List.getElem?_eq_some_iff
def ac:=@List.getElem?_eq_getElem
def ae:=@List.getD_eq_getElem?_getD
def af:=@PySem.wpAny_bind
def ah:=@List.mem_of_getElem?
def ai:=@List.length_map
def aj:=@PySem.Heap.get?_push_of_some
def am:=@List.getElem?_map
def ao:=@Option.map_eq_some_iff
def ap:=@if_neg
def aq:=@PySem.F.plainAttrs_list
def ar:=@if_pos
def au:=@Nat.le_refl
def av:=@List.size_toArray
def aw:=@PySem.F.type_list_append
def ax:=@PySem.F.slot_list_append
def ay:=@List.mem_singleton
def az:=@List.mem_cons
def aA:=@PySem.Heap.lt_size
def aB:=@Int.toNat_natCast
def aC:=@Bool.false_ne_true
def aD:=@PySem.wpAny_pure
def aE:=@PySem.Heap.get?_push_size
def aF:=@List.mem_cons_of_mem
def aG:=@Int.emod_lt_of_pos
def aH:=@List.mem_append
def aI:=@List.getElem?_append_right
def aJ:=@Int.emod_nonneg
def aK:=@Option.getD_some
def aM:=@Nat.lt_of_lt_of_le
def aN:=@List.take_add_one
def aO:=@List.getElem?_append_left
def aP:=@Nat.ne_of_lt
def aQ:=@List.length_append
def aR:=@List.take_length
def aS:=@List.length_take
def aT:=@Option.some.inj
def aU:=@List.Perm.refl
def aV:=@PySem.wpAny_mono
def aW:=@decide_eq_false
def aX:=@Ne.symm
def aY:=@List.mem_append_right
def aZ:=@List.getElem?_eq_none
def a7:=@List.getElem?_set_self
def a8:=@PyProof.Rows.callWith_type1
def a9:=@beq_eq_false_iff_ne
def ba:=@Nat.le_trans
def bc:=@PySem.Heap.get?_update_other
def bd:=@List.length_replicate
def be:=@List.mem_map
def bg:=@List.map_append
def bh:=@PySem.wpAny_field
def bj:=@PySem.Obj.data_mapFields
def bp:=@decide_eq_true
def br:=@List.getElem?_of_mem
def bt:=@congrArg
def bu:=@PySem.Heap.get?_update_self
def bw:=@PySem.wpAny_Call_Name_kw
def bz:=@List.length_eq_zero_iff
def bA:=@beq_iff_eq
def bB:=@List.length_cons
def bD:=@List.getLastD_eq_getLast?
def bE:=@PySem.wpAny_seqItems
def bF:=@PySem.mem_of_lookup
def bH:=@PySem.Heap.size_push
def bI:=@Nat.le_of_lt
def bJ:=@List.mem_append_left
def bK:=@List.getElem?_set_ne
def bL:=@Int.le_refl
def bM:=@List.all_eq_true
def bN:=@Int.natAbs_natCast
def bO:=@Array.getElem?_eq_some_iff
def bP:=@List.append_assoc
def bQ:=@List.Perm.append_left
def bR:=@List.map_cons
def bS:=@List.length_set
def bT:=@of_decide_eq_true
def bU:=@Nat.zero_le
def bV:=@List.not_mem_nil
def bW:=@Option.bind_eq_some_iff
def bX:=@List.mem_cons_self
def bY:=@List.append_nil
def bZ:=@List.take_zero
def b5:=@Option.map_some
def b7:=@Int.ediv_nonneg
def b8:=@PySem.wpAny_setField_rec
def b9:=@PySem.wpAny_passesOwn
def cc:=@Nat.le_succ
def cf:=@PySem.Obj.isFreed_of_fields
def cg:=@Int.toNat_of_nonneg
def ci:=@PySem.F.type_list_extend
def cj:=@PySem.F.slot_list_extend
def ck:=@PySem.F.slot_tuple_iterator_next
def cm:=@List.length_singleton
def cn:=@List.mem_filter
def cu:=@PySem.W.mg_of
def cx:=@PySem.W.mg_none_of
def cy:=@List.mem_replicate
def cz:=@Int.natCast_nonneg
def cA:=@Bool.false_eq_true
def cB:=@or_false
def cC:=@PySem.Paired.length
def cD:=@Option.some.injEq
def cE:=@Nat.ne_of_gt
def cF:=@List.Perm.append_right
def cG:=@Bool.and_false
def cH:=@List.lookup_cons
def cI:=@PySem.SeqAt.EqAt.of_refs
def cJ:=@PySem.wpAny_callSpecial?_slot
def cK:=@Int.natAbs_dvd_natAbs
def cM:=@Array.getElem?_toList
def cO:=@Bool.and_eq_true
def cP:=@List.take_of_length_le
def cQ:=@List.replicate_succ
def cR:=@Nat.lt_irrefl
def cS:=@PySem.wpAny_truthy_bool
def cT:=@PySem.SeqAt.RcAt.tuples
def cU:=@List.exists_cons_of_ne_nil
def cV:=@List.perm_append_comm
def cW:=@List.length_nil
def cX:=@List.find?_cons
def cY:=@Array.length_toList
def cZ:=@Int.zero_add
def c7:=@Int.le_of_lt
def c8:=@Nat.mod_lt
def c9:=@Nat.lt_of_le_of_lt
def da:=@List.pairwise_cons
def db:=@Int.fdiv_eq_ediv_of_nonneg
def dc:=@PySem.wpAny_execs_nil
def de:=@List.set_eq_of_length_le
def dg:=@List.getElem?_eq_none_iff
def dh:=@Classical.byContradiction
def di:=@decide_eq_true_eq
def dj:=@Option.isSome_map
def dm:=@PySem.codeAny_mono
def dn:=@List.getElem?_replicate
def dq:=@PySem.wpAny_setField
def dr:=@Nat.le_add_right
def du:=@Int.natCast_emod
def dA:=@List.length_drop
def dB:=@PySem.W.callWith_K
def dC:=@PySem.wpAny_newObj_type
def dD:=@List.nodup_cons
def dE:=@Bool.eq_iff_iff
def dF:=@PySem.wpAny_holding
def dG:=@PySem.SeqAt.RcAt.lists_lengths
def dH:=@PySem.F.type_list_pop
def dI:=@PySem.F.slot_list_pop
def dJ:=@PySem.wpAny_call_entry
def dL:=@PySem.W.methodCall_KW
def dM:=@if_false
def dN:=@List.mem_range
def dO:=@List.map_set
def dP:=@List.flatten_cons
def dQ:=@List.length_pos_iff
def dR:=@PySem.wpAny_specialOf
def dS:=@PySem.wpAny_ite_split
def dU:=@PySem.SeqAt.EqAt.same
def dW:=@PySem.F.slot_zip_next
def dX:=@Bool.and_true
def dY:=@Nat.eq_zero_or_pos
def dZ:=@List.mem_filterMap
def d5:=@List.length_reverse
def d7:=@PySem.wpAny_updateSeq_pair
def d8:=@if_true
def d9:=@Nat.succ_mul
def ee:=@Nat.min_self
def eu:=@Nat.lt_trichotomy
def eB:=@Int.sub_self
def eC:=@Int.add_emod
def eD:=@Function.comp_def
def eE:=@Option.getD_none
def eI:=@Nat.lt_succ_self
def eJ:=@PySem.wpAny_onRaise
def eK:=@PySem.tupleKind_room_in1
def eM:=@PySem.call_meets
def eP:=@Nat.min_le_left
def eQ:=@List.map_map
def eT:=@List.ext_getElem?
def eU:=@Option.map_map
def eV:=@List.getElem?_reverse
def eX:=@PySem.F.slot_dict_getitem
def eY:=@List.ne_nil_of_length_pos
def eZ:=@List.getLast?_eq_getElem?
def e6:=@Array.getElem?_eq_getElem
def fe:=@PySem.wpAny_isInstance
def ff:=@PySem.wpAny_execs_cons
def fg:=@PySem.SeqAt.RcAt.lists
def fh:=@Option.isSome_iff_exists
def fi:=@Bool.not_true
def fj:=@PySem.Around.in1_units
def fk:=@PySem.wpAny_letGo
def fo:=@PySem.sizeLine_eq
def fq:=@PySem.seqIndex_of
def ft:=@PySem.W.cellsFrom_some
def fu:=@PyProof.noPylong_small
def fv:=@Nat.sub_self
def fz:=@PySem.F.args_tuple_iterator_next_1
def fA:=@List.forIn_cons
def fB:=@List.flatMap_append
def fC:=@List.filterMap_cons
def fD:=@List.take_append_drop
def fE:=@List.getElem?_zipWith
def fF:=@PySem.F.entry_tuple_iterator_next
def fG:=@PySem.wpAny_call
def fH:=@Int.emod_emod_of_dvd
def fI:=@Decidable.of_not_not
def fJ:=@PySem.Calls.Name_function_global
def fK:=@PySem.intBits_le_64
def fM:=@PySem.W.pyHash_slot
def fN:=@PySem.W.looks_subIn
def fO:=@PySem.W.callWith_K0
def fP:=@Nat.add_le_add_left
def fQ:=@List.toList_toArray
def fR:=@List.map_congr_left
def fS:=@List.length_zipWith
def fT:=@List.getElem?_range
def fU:=@PySem.wpAny_standAt
def fV:=@PySem.wpAny_comprehension_free
def fW:=@PySem.wpAny_attempt
def fX:=@List.take_succ
def fY:=@PySem.W.any_some
def fZ:=@Option.toList_some
def f9:=@Int.lt_of_lt_of_le
def gb:=@Array.forIn_toList
def gc:=@Array.append_assoc
abbrev A0:=PySem.W.Frag
abbrev A3:=List (Int × Int)
abbrev A4:=List (PySem.Addr × PySem.Obj)
abbrev A5:=PySem.Value->PySem.Shared->Prop
abbrev A6:=PySem.Str->Option PySem.Value
abbrev A7:=PySem.Addr->Prop
abbrev A8:=List Int
abbrev A9:=List PySem.Value
abbrev Aa:=List PySem.Str
abbrev Ab:=Option Int
abbrev Ac:=Option PySem.Addr
abbrev Ae:=List PySem.Addr
abbrev Af:=Array PySem.Value
abbrev Ag:=Array (Option PySem.Value)
abbrev Ah:=PySem.Program
abbrev Ai:=Unit->PySem.Shared->Prop
abbrev Aj:=Int × Int->Int × Int->Prop
abbrev Ak:=List Bool
abbrev Al:=List Nat
abbrev Am:=Option Nat × Option Nat × Nat
abbrev An:=PySem.Value->PySem.Value->PySem.Sem PySem.Value
abbrev Ao:=PySem.Value
abbrev Ap:=PySem.Shared
abbrev Aq:=PySem.Around
namespace L2
open PySem PySem.Spec PyProof.Rows
variable {A:Aq} {s:Ap} {K:A0} {m5:A4} {w:World} {P:Ah} {x:Str} {E Q:A5} {u:Ao} {us:A9} {k t' i:Nat} {b C:Addr} {M:Model} {mg:A6} {base:Heap} {pos:Pos} {op:CmpOp} {f:An} {tg:Expr} {fd:FuncData}
abbrev Key:=Sum Int Str
noncomputable def WA:Key->Value->Bool
 | .inl k,v=>Value.isInt k v
 | .inr x,v=>Value.isStrOf x v
noncomputable def ziK (w:World):Key->Int
 | .inl k=>hashInt k
 | .inr x=>hashStr w x
theorem qD:∀ {k:Key} {v:Ao},WA k v=true->(∃ i t,k=Sum.inl i/\v=Value.int i t)\/(∃ x t,k=Sum.inr x/\v=Value.str x t)
 | .inl i,v,h=>by
  obtain ⟨t,e⟩:=Value.isInt_shape (k:=i) (v:=v) h;exact .inl ⟨i,t,rfl,e⟩
 | .inr x,v,h=>by
  obtain ⟨t,e⟩:=Value.isStrOf_shape (x:=x) (v:=v) h;exact .inr ⟨x,t,rfl,e⟩
def zdE (i:Int) (t:Tok):WA (.inl i) (.int i t)=true:=by simp [WA,Value.isInt]
def zdD (x:Str) (t:Tok):WA (.inr x) (.str x t)=true:=by simp [WA,Value.isStrOf]
def zhq (a b:Int):decide ((Sum.inl a:Key)=Sum.inl b)=(a == b):=by
 by_cases e:a=b
 ·subst e;simp
 ·have h:¬ (Sum.inl a:Key)=Sum.inl b:=λ q=>e (Sum.inl.inj q);rw [aW h];exact (a9.mpr e).symm
def zhn (a b:Str):decide ((Sum.inr a:Key)=Sum.inr b)=decide (a=b):=by
 by_cases e:a=b
 ·subst e;simp
 ·have h:¬ (Sum.inr a:Key)=Sum.inr b:=λ q=>e (Sum.inr.inj q);rw [aW h,aW e]
def zhp (a:Int) (b:Str):decide ((Sum.inl a:Key)=Sum.inr b)=false:=aW (λ q=>nomatch q)
def zho (a:Str) (b:Int):decide ((Sum.inr a:Key)=Sum.inl b)=false:=aW (λ q=>nomatch q)
noncomputable def qT (prog:Ah) (w:World):PySem.KeyKind prog w Key where
 is:=WA
 hash:=ziK w
 inj:=λ v a b ha hb=>by
  rcases qD ha with ⟨i,t,rfl,rfl⟩|⟨x,t,rfl,rfl⟩
  ·rcases qD hb with ⟨j,u,rfl,e⟩|⟨y,u,rfl,e⟩
   ·injection e with e1 _;rw [e1]
   ·exact nomatch e
  ·rcases qD hb with ⟨j,u,rfl,e⟩|⟨y,u,rfl,e⟩
   ·exact nomatch e
   ·injection e with e1 _;rw [e1]
 byValue:=λ k v h=>by
  rcases qD h with ⟨i,t,rfl,rfl⟩|⟨x,t,rfl,rfl⟩ <;> rfl
 pyHash:=λ hv h=>by
  rcases qD hv with ⟨i,t,rfl,rfl⟩|⟨x,t,rfl,rfl⟩
  ·exact wpAny_pyHash_int h
  ·exact wpAny_pyHash_str h
 eqBool:=λ hu hv h=>by
  rcases qD hu with ⟨i,t,rfl,rfl⟩|⟨x,t,rfl,rfl⟩
  ·rcases qD hv with ⟨j,u,rfl,rfl⟩|⟨y,u,rfl,rfl⟩
   ·rw [zhq] at h;exact wpAny_eqBool_int h
   ·rw [zhp] at h;exact SeqAt.EqAt.int_str i t y u _ _ _ _ h
  ·rcases qD hv with ⟨j,u,rfl,rfl⟩|⟨y,u,rfl,rfl⟩
   ·rw [zho] at h;exact SeqAt.EqAt.str_int x t j u _ _ _ _ h
   ·rw [zhn] at h;exact wpAny_eqBool_str h
 «strs»:=λ k x t v h=>by
  rcases qD h with ⟨i,u,rfl,e⟩|⟨y,u,rfl,e⟩
  ·exact nomatch e
  ·injection e with e1 _
   subst e1;cases v <;> rfl
def zaF (prog:Ah) (w:World) (i:Int) (t:Tok):(qT prog w).is (.inl i) (.int i t)=true:=zdE i t
def zaE (prog:Ah) (w:World) (x:Str) (t:Tok):(qT prog w).is (.inr x) (.str x t)=true:=zdD x t
inductive V where
 | non|bl (b:Bool)|int (i:Int)|str (x:Str)|byt (b:Array UInt8)|flt (b:UInt64)|ref (a:Addr)|ty (n:String)
 deriving DecidableEq
abbrev Au:=List (List Key × V)
abbrev At:=List (Str × V)
abbrev As:=Option V
abbrev Ar:=List V
def RelV:V->Value->Prop
 | .non,u=>u=Value.none
 | .bl b,u=>u=Value.bool b
 | .int i,u=>∃ t,u=Value.int i t
 | .str x,u=>∃ t,u=Value.str x t
 | .byt b,u=>∃ t,u=Value.bytes b t
 | .flt b,u=>∃ t,u=Value.float b t
 | .ref a,u=>u=Value.ref a
 | .ty n,u=>u=Value.type n
abbrev Vals:List V->List Value->Prop:=Paired RelV
def Vals.length {xs:Ar} (r:Vals xs us):xs.length=us.length:=cC r
theorem Vals.get:∀ {xs:Ar} {us:A9} {i:Nat} {x:V},Vals xs us->xs[i]?=some x->∃ u,us[i]?=some u/\RelV x u
 | _,_,_,_,.nil,e=>by simp at e
 | _,_,0,_,.cons r _,e=>by simp at e;subst e;exact ⟨_,rfl,r⟩
 | _,_,i + 1,x,.cons _ t,e=>by
  obtain ⟨u,h1,h2⟩:=Vals.get (i:=i) (x:=x) t (by simpa using e);exact ⟨u,by simpa using h1,h2⟩
theorem Vals.set {x:V} {u:Ao} (r:RelV x u):∀ {xs:Ar} {us:A9} (i:Nat),Vals xs us->Vals (xs.set i x) (us.set i u)
 | _,_,_,.nil=>.nil
 | _,_,0,.cons _ t=>.cons r t
 | _,_,i + 1,.cons q t=>.cons q (Vals.set r i t)
theorem Vals.append:∀ {xs ys:Ar} {us ws:A9},Vals xs us->Vals ys ws->Vals (xs ++ ys) (us ++ ws)
 | _,_,_,_,.nil,s=>s
 | _,_,_,_,.cons r t,s=>.cons r (Vals.append t s)
theorem Vals.take:∀ {xs:Ar} {us:A9} (n:Nat),Vals xs us->Vals (xs.take n) (us.take n)
 | _,_,0,_=>.nil
 | _,_,_ + 1,.nil=>.nil
 | _,_,n + 1,.cons r t=>.cons r (Vals.take n t)
theorem Vals.drop:∀ {xs:Ar} {us:A9} (n:Nat),Vals xs us->Vals (xs.drop n) (us.drop n)
 | _,_,0,r=>r
 | _,_,_ + 1,.nil=>.nil
 | _,_,n + 1,.cons _ t=>Vals.drop n t
def Vals.none_of:∀ {xs:Ar} {us:A9} {i:Nat},Vals xs us->xs[i]?=none->us[i]?=none:=λ {xs us i} r e=>by
 have h1:=r.length;have h2:xs.length<=i:=dg.mp e;exact dg.mpr (by lia)
def RelO:Option V->Option Value->Prop
 | some v,some u=>RelV v u
 | none,none=>True
 | _,_=>False
def KV {κ:Type}:List (κ × V)->List (κ × Value)->Prop:=Paired λ (p:κ × V) (q:κ × Value)=>p.1=q.1/\RelV p.2 q.2
noncomputable def kV:Key->V
 | .inl i=>.int i
 | .inr x=>.str x
inductive HO where
 | lst (xs:Ar)
 | tup (xs:Ar)
 | dK (mK:List (Key × V))|dT (mK:Au)
 | set (S:Int->Bool) (n:Nat)
 | ins (C dx:Addr) (fs:At)
 | own (x:Addr)
 | xd (fs:At)
 | met (f x:Addr)
 | rng (lo hi:Int)
 | frz (o:Obj) (u:HO)
 | tbl (ps:Af)
 | ext (φ:Heap->Prop)
variable {o:HO}
abbrev Hp:=Addr->Option HO
variable {H:Hp}
noncomputable def upd (H:Hp) (a:Addr) (o:HO):Hp:=λ b=>if b=a then some o else H b
def upd_same {a:Addr}:upd H a o a=some o:=by unfold upd;rw [ar rfl]
def mW:=@upd_same
def upd_ne {a b:Addr} (h:b≠a):upd H a o b=H b:=by unfold upd;rw [ap h]
def mX:=@upd_ne
def vK {a:Addr} {o u:HO}:upd (upd H a o) a u=upd H a u:=by
 funext b;unfold upd;split <;> rfl
def ZY {a b:Addr} {o u:HO} (h:H a=some o) (h':H b=some u) (d:o≠u):a≠b:=by
 intro e;subst e;rw [h] at h';exact d (aT h')
def ne_of_none {a b:Addr} (h:H a=some o) (h':H b=none):a≠b:=by
 intro e;subst e;rw [h] at h';cases h'
def mY:=@ne_of_none
section
variable (P:Ah) (w:World)
def ObjOk (H:Hp) (h:Heap) (a:Addr):HO->Prop
 | .lst xs=>xs.length<=sizeLine/\∃ (mM:A9) (n:Nat),Vals xs mM/\h.get? a=some { cls:=.type "list",data:=.seq mM.toArray n }
 | .tup xs=>xs.length<=sizeLine/\∃ mM:List Value,Vals xs mM/\IsTup h a mM.toArray
 | .dK mK=>mK.length<=sizeLine/\(a == sysModules)=false/\∃ vs,KV mK vs/\h.DictOf (qT P w) a vs
 | .dT mK=>mK.length<=sizeLine/\(a == sysModules)=false/\∃ xs:List (List Key × Addr × Value),
   Paired (λ (p:List Key × V) (q:List Key × Addr × Value)=>p.1=q.1/\H q.2.1=some (.tup (p.1.map kV))/\RelV p.2 q.2.2) mK xs /\
   ∃ o es ep,h.get? a=some o/\o.ExactDict/\o.data=.dict es ep/\es.toList=xs.map (entryOfKey (tupleKind (qT P w)))/\(xs.map (·.1)).Nodup
 | .set S n=>h.SetOf (intKind P w) a S n
 | .ins C dx fs=>H dx=some (.own a)/\fs.length<=1000/\dx≠a/\h.get? a=some (instObj C dx) /\
   ∃ mA,h.Ns1 dx mA/\(∀ f,RelO (fs.lookup f) (mA f))/\PySem.Within mA (fs.map (·.1))
 | .own _=>∃ o,h.get? a=some o
 | .xd fs=>∃ mA,h.Ns1 a mA/\∀ f,RelO (fs.lookup f) (mA f)
 | .rng lo hi=>∃ t u v,h.get? a=some { cls:=.type "range",data:=.fields #[.int lo t,.int hi u,.int 1 v] }
 | .frz o u=>h.get? a=some o/\ObjOk H h a u
 | .tbl ps=>h.get? a=some { cls:=.none,data:=.fields ps }
 | .met f x=>h.get? a=some (methodObj (.ref f) (.ref x))
 | .ext φ=>φ h/\(∃ o,h.get? a=some o)/\∀ h1 h2:Heap,φ h1->(∀ o,h1.get? a=some o->h2.get? a=some o)->φ h2
def HOk (H:Hp) (h:Heap):Prop:=∀ a o,H a=some o->ObjOk P w H h a o
end
section
variable {P:Ah} {w:World} {H H':Hp} {h h':Heap} {a:Addr} {o:HO}
def ObjOk.lt (x:ObjOk P w H h a o):a < h.objs.size:=by
 cases o with
 | lst xs=>obtain ⟨_,_,_,_,e⟩:=x;exact aA e
 | tup xs=>obtain ⟨_,_,_,p⟩:=x;exact p.lt
 | dK mK=>obtain ⟨_,_,_,_,o,_,_,e,_⟩:=x;exact aA e
 | dT mK=>obtain ⟨_,_,_,_,o,_,_,e,_⟩:=x;exact aA e
 | set S n=>obtain ⟨o,_,_,_,e,_⟩:=x;exact aA e
 | ins C dx fs=>obtain ⟨_,_,_,e,_⟩:=x;exact aA e
 | own y=>obtain ⟨_,e⟩:=x;exact aA e
 | xd fs=>obtain ⟨_,⟨_,_,_,e,_⟩,_⟩:=x;exact aA e
 | rng lo hi=>obtain ⟨_,_,_,e⟩:=x;exact aA e
 | frz ob u=>obtain ⟨e,_⟩:=x;exact aA e
 | tbl ps=>exact aA (show h.get? a=some _ from x)
 | met f y=>exact aA (show h.get? a=some _ from x)
 | ext φ=>obtain ⟨_,⟨_,e⟩,_⟩:=x;exact aA e
theorem Paired.mapP {α β:Type} {F G:α->β->Prop}:∀ {l₁:List α} {l₂:List β},Paired F l₁ l₂->(∀ a b,F a b->G a b)->Paired G l₁ l₂
 | _,_,.nil,_=>.nil
 | _,_,.cons r t,f=>.cons (f _ _ r) (Paired.mapP t f)
theorem ObjOk.stay (x:ObjOk P w H h a o) (k:∀ b u,(b=a\/H b=some (.own a))->h.get? b=some u->h'.get? b=some u)
  (ho:∀ b,H b=some (.own a)->H' b=some (.own a)) (ht:∀ b xs,H b=some (.tup xs)->H' b=some (.tup xs)):ObjOk P w H' h' a o:=by
 induction o with
 | lst xs=>obtain ⟨z,mM,n,r,e⟩:=x;exact ⟨z,mM,n,r,k _ _ (.inl rfl) e⟩
 | tup xs=>obtain ⟨z,mM,r,ob,e,c⟩:=x;exact ⟨z,mM,r,ob,k _ _ (.inl rfl) e,c⟩
 | dK mK=>obtain ⟨z,y,vs,r,ob,es,ep,e,c⟩:=x;exact ⟨z,y,vs,r,ob,es,ep,k _ _ (.inl rfl) e,c⟩
 | dT mK =>
  obtain ⟨z,y,xs,r,ob,es,ep,e,c⟩:=x;exact ⟨z,y,xs,Paired.mapP r λ p q z=>⟨z.1,ht _ _ z.2.1,z.2.2⟩,ob,es,ep,k _ _ (.inl rfl) e,c⟩
 | set S n=>obtain ⟨ob,es,ep,t,e,c⟩:=x;exact ⟨ob,es,ep,t,k _ _ (.inl rfl) e,c⟩
 | ins C dx fs =>
  obtain ⟨d,z,ne,e,mA,⟨od,es,ep,e2,c⟩,r⟩:=x;exact ⟨ho _ d,z,ne,k _ _ (.inl rfl) e,mA,⟨od,es,ep,k _ _ (.inr d) e2,c⟩,r⟩
 | own y=>obtain ⟨ob,e⟩:=x;exact ⟨ob,k _ _ (.inl rfl) e⟩
 | xd fs=>obtain ⟨mA,⟨od,es,ep,e,c⟩,r⟩:=x;exact ⟨mA,⟨od,es,ep,k _ _ (.inl rfl) e,c⟩,r⟩
 | rng lo hi=>obtain ⟨t,u,v,e⟩:=x;exact ⟨t,u,v,k _ _ (.inl rfl) e⟩
 | frz ob u ih=>obtain ⟨e,q⟩:=x;exact ⟨k _ _ (.inl rfl) e,ih q⟩
 | tbl ps =>
  have e:h.get? a=some { cls:=.none,data:=.fields ps }:=x;show h'.get? a=some { cls:=.none,data:=.fields ps }
  exact k a _ (.inl rfl) e
 | met f y =>
  have e:h.get? a=some (methodObj (.ref f) (.ref y)):=x;show h'.get? a=some (methodObj (.ref f) (.ref y))
  exact k a _ (.inl rfl) e
 | ext φ=>obtain ⟨p,⟨o,e⟩,st⟩:=x;exact ⟨st _ _ p λ o q=>k _ _ (.inl rfl) q,⟨o,k _ _ (.inl rfl) e⟩,st⟩
def HOk.lt (x:HOk P w H h) (e:H a=some o):a < h.objs.size:=(x a o e).lt
def HOk.fresh (x:HOk P w H h) (e:h.objs.size<=a):H a=none:=by
 cases q:H a with
 | none=>rfl
 | some u=>exact absurd (aM (x.lt q) e) (cR _)
def HOk.kept (x:HOk P w H h) (k:∀ b u,h.get? b=some u->h'.get? b=some u):HOk P w H h':=λ a o e =>
 (x a o e).stay (λ b u _ q=>k b u q) (λ _ q=>q) λ _ _ q=>q
def HOk.laid (x:HOk P w H h) (k:∀ b u,h.get? b=some u->h'.get? b=some u) (hp:h.objs.size<=a) (new:ObjOk P w (upd H a o) h' a o):HOk P w (upd H a o) h':=λ b u e=>by
 have hn:=x.fresh hp;by_cases hb:b=a
 ·subst hb;rw [mW] at e;cases e;exact new
 ·rw [mX hb] at e;exact (x b u e).stay (λ c v _ q=>k c v q) (λ c q=>by rw [mX (mY q hn)];exact q) λ c xs q=>by rw [mX (mY q hn)];exact q
end
def Rd (H:Hp) (a:Addr) (u:HO):Prop:=H a=some u\/∃ o,H a=some (.frz o u)
def Rd.of {a:Addr} {u:HO} (h:H a=some u):Rd H a u:=.inl h
def Rd.ok {h:Heap} {a:Addr} {u:HO} (r:Rd H a u) (x:HOk P w H h):ObjOk P w H h a u:=by
 rcases r with r|⟨o,r⟩
 ·exact x a u r
 ·obtain ⟨_,q⟩:=x a _ r;exact q
def Mut:Option HO->Prop
 | some (.lst _)=>True
 | some (.dK _)=>True
 | some (.dT _)=>True
 | some (.set _ _)=>True
 | some (.ins _ _ _)=>True
 | some (.ext _)=>True
 | _=>False
section
variable {P:Ah} {w:World} {H:Hp} {h h':Heap} {x e:Addr} {o':HO}
def HOk.write (ok:HOk P w H h) (mu:Mut (H x)) (he:e=x\/H e=some (.own x)) (k:∀ b u,b≠e->h.get? b=some u->h'.get? b=some u) (heo:∃ u,h'.get? e=some u)
  (new:ObjOk P w (upd H x o') h' x o'):HOk P w (upd H x o') h':=λ b u q=>by
 have nown:∀ c y,H c=some (.own y)->c≠x:=λ c y r z=>by subst z;rw [r] at mu;exact mu
 have ntup:∀ c xs,H c=some (.tup xs)->c≠x:=λ c xs r z=>by subst z;rw [r] at mu;exact mu
 by_cases hb:b=x
 ·subst hb;rw [mW] at q;cases q;exact new
 ·rw [mX hb] at q;by_cases hbe:b=e
  ·have q':H b=some (.own x):=by
    rcases he with z|z
    ·exact absurd (hbe.trans z) hb
    ·rw [hbe];exact z
   rw [q] at q';cases q';obtain ⟨v,hv⟩:=heo;exact ⟨v,by rw [hbe];exact hv⟩
  ·refine (ok b u q).stay (λ c v hc r=>k c v ?_ r) (λ c r=>by rw [mX (nown c b r)];exact r) λ c xs r=>by rw [mX (ntup c xs r)];exact r
   rcases hc with rfl|hc
   ·exact hbe
   ·rintro rfl;rcases he with z|z
    ·exact nown c b hc z
    ·rw [hc] at z;cases z;exact hb rfl
end
structure Un (fs ex:Ae) (H H':Hp) (h h':Heap):Prop where
 keep:∀ b o,h.get? b=some o->H b=none->b ∉ fs->b ∉ ex->h'.get? b=some o
 slot:∀ b o,h.get? b=some o->H b=none->b∈fs->b ∉ ex->∃ sl,h'.get? b=some { o with slots:=sl }
 free:∀ b o,h.get? b=some o->H b=none->b ∉ ex->H' b=none
 there:∀ b o,h.get? b=some o->b ∉ ex->∃ o',h'.get? b=some o'
 tups:∀ b xs,H b=some (.tup xs)->H' b=some (.tup xs)
 frzs:∀ b o u,H b=some (.frz o u)->H' b=some (.frz o u)
 tbls:∀ b ps,H b=some (.tbl ps)->∃ more,H' b=some (.tbl (ps ++ more))
section
variable {fs fs' ex ex':Ae} {H H1 H2:Hp} {h h1 h2 h':Heap} {a x e:Addr} {o:HO}
def Un.any (u:Un fs ex H H1 h h1) {ob:Obj} (q:h.get? b=some ob) (n:H b=none) (hx:b ∉ ex):∃ sl,h1.get? b=some { ob with slots:=sl }:=by
 by_cases hb:b∈fs
 ·exact u.slot b ob q n hb hx
 ·exact ⟨ob.slots,u.keep b ob q n hb hx⟩
def Un.trans (a:Un fs ex H H1 h h1) (b:Un fs ex H1 H2 h1 h2):Un fs ex H H2 h h2 where
 keep:=λ c ob q n hc hx=>b.keep c ob (a.keep c ob q n hc hx) (a.free c ob q n hx) hc hx
 slot:=λ c ob q n hc hx=>by
  obtain ⟨sl,e1⟩:=a.slot c ob q n hc hx;obtain ⟨sl',e2⟩:=b.slot c _ e1 (a.free c ob q n hx) hc hx;exact ⟨sl',e2⟩
 free:=λ c ob q n hx=>by
  obtain ⟨o',e1⟩:=a.there c ob q hx;exact b.free c o' e1 (a.free c ob q n hx) hx
 there:=λ c ob q hx=>by
  obtain ⟨o',e1⟩:=a.there c ob q hx;exact b.there c o' e1 hx
 tups:=λ c xs q=>b.tups c xs (a.tups c xs q)
 frzs:=λ c ob xs q=>b.frzs c ob xs (a.frzs c ob xs q)
 tbls:=λ c ps q=>by
  obtain ⟨m1,e1⟩:=a.tbls c ps q;obtain ⟨m2,e2⟩:=b.tbls c _ e1;exact ⟨m1 ++ m2,by rw [e2,gc]⟩
def Un.kept (k:∀ b u,h.get? b=some u->h'.get? b=some u):Un fs ex H H h h' :=
 ⟨λ b ob q _ _ _=>k b ob q,λ b ob q _ _ _=>⟨ob.slots,k b ob q⟩,λ _ _ _ n _=>n,λ b ob q _=>⟨ob,k b ob q⟩,λ _ _ q=>q,λ _ _ _ q=>q,λ _ ps q=>⟨#[],by rw [q];simp⟩⟩
def Un.refl:Un fs ex H H h h:=Un.kept λ _ _ q=>q
def Un.laid (k:∀ b u,h.get? b=some u->h'.get? b=some u) (hp:h.objs.size<=a) (hn:H a=none):Un fs ex H (upd H a o) h h' where
 keep:=λ b u q _ _ _=>k b u q
 slot:=λ b u q _ _ _=>⟨u.slots,k b u q⟩
 free:=λ b u q n _=>by rw [mX (aP (aM (aA q) hp))];exact n
 there:=λ b u q _=>⟨u,k b u q⟩
 tups:=λ b xs q=>by rw [mX (mY q hn)];exact q
 frzs:=λ b u xs q=>by rw [mX (mY q hn)];exact q
 tbls:=λ b ps q=>⟨#[],by rw [mX (mY q hn),q];simp⟩
def Un.write (mu:Mut (H x)) (he:e=x\/H e=some (.own x)) (k:∀ b u,b≠e->h.get? b=some u->h'.get? b=some u) (heo:∃ u,h'.get? e=some u):Un fs ex H (upd H x o) h h':=by
 have hx:∀ b,H b=none->b≠x:=λ b n z=>by subst z;rw [n] at mu;exact mu
 have hb:∀ b,H b=none->b≠e:=λ b n z=>by
  subst z;rcases he with r|r
  ·exact hx b n r
  ·rw [n] at r;cases r
 have hm:∀ b u,H b=some u->¬ Mut (some u)->b≠x:=λ b u q nm z=>by subst z;rw [q] at mu;exact nm mu
 refine ⟨λ b u q n _ _=>k b u (hb b n) q,λ b u q n _ _=>⟨u.slots,k b u (hb b n) q⟩,λ b u q n _=>by rw [mX (hx b n)];exact n,λ b u q _=>?_,
  λ b xs q=>by rw [mX (hm b _ q λ z=>z)];exact q,λ b u xs q=>by rw [mX (hm b _ q λ z=>z)];exact q,λ b ps q=>⟨#[],by rw [mX (hm b _ q λ z=>z),q];simp⟩⟩
 by_cases hbe:b=e
 ·subst hbe;exact heo
 ·exact ⟨u,k b u hbe q⟩
def Un.mono (u:Un fs ex H H1 h h1) (hs:∀ b∈fs,b∈fs') (hx:∀ b∈ex,b∈ex'):Un fs' ex' H H1 h h1 :=
 ⟨λ b ob q n hb he=>u.keep b ob q n (λ z=>hb (hs b z)) λ z=>he (hx b z),λ _ _ q n _ he=>u.any q n λ z=>he (hx _ z),λ b ob q n he=>u.free b ob q n λ z=>he (hx b z),λ b ob q he=>u.there b ob q λ z=>he (hx b z),u.tups,u.frzs,u.tbls⟩
end
noncomputable def trk (h:Heap) (H:Hp):List Addr:=(List.range h.objs.size).filter λ a=>(H a).isSome
noncomputable def VD (h:Heap) (H:Hp):Heap:=PySem.W.hideAll h (trk h H)
def zdG (h:Heap) (H:Hp):(VD h H).objs.size=h.objs.size:=PySem.W.hideAll_size _ _
def ze5 {h:Heap} {o:Obj} (e:h.get? b=some o) (n:H b=none):(VD h H).get? b=some o :=
 PySem.W.hideAll_get _ e λ hm=>by
  have q:(H b).isSome=true:=(cn.mp hm).2;rw [n] at q;simp at q
def zf3 {h:Heap} {o:Obj} (e:(VD h H).get? b=some o):h.get? b=some o/\H b=none:=by
 have e':h.get? b=some o:=PySem.W.of_hideAll (trk h H) e;refine ⟨e',?_⟩;cases q:H b with
 | none=>rfl
 | some x =>
  have hm:b∈trk h H:=cn.mpr ⟨dN.mpr (aA e'),by simp [q]⟩;have z:(VD h H).get? b=none:=PySem.W.hideAll_none (trk h H) hm;rw [z] at e;cases e
noncomputable def zgn (g h:Heap) (L:Addr):List (Addr × Obj):=(List.range h.objs.size).filterMap λ a=>if a=L\/(g.get? a).isSome=true then none else (h.get? a).map λ o=>(a,o)
noncomputable def rest (g h:Heap) (L d:Addr):List (Addr × Obj):=(zgn g h L).filter λ p=>decide (p.1≠d)
structure Mod (K:A0) (mg:A6) (base:Heap):Prop where
 kin:K.In base
 glob:base.Ns mainGlobals mg
 blt:∃ mb,base.Ns builtinsNs mb/\∀ x:Str,x≠"__name__"->mb x=bootBuiltins x
 nolimit:base.NoLimit
structure Cx where
 prog:Program
 w:World
 K:PySem.W.Frag
 mg:Str->Option Value
 base:Heap
 A:Around
 N:List Str
 s₀:Shared
 H₀:Hp
 env:Env
 outer:List Env
 stack:List Env
 ex:List Addr
 fn:Str->Bool
 calm:Bool
 pn:List (Addr × Obj)
 xe:Value->Shared->Prop
variable {X:Cx}
noncomputable def frs (l:List Env):List Addr:=l.filterMap (·.frame)
noncomputable abbrev Cx.fs (X:Cx):List Addr:=frs X.outer
def Vis (sc:Scope) (x:Str):Prop:=sc.names.lookup x=some .local\/sc.names.lookup x=some .cell\/sc.names.lookup x=some .free
def Loc (sc:Scope) (x:Str):Prop:=sc.names.lookup x=some .local\/sc.names.lookup x=some .cell
def ziO (env:Env) (h:Heap) (m:A6) (x:Str) (u:Ao):Prop :=
 (env.kindOf x=some .local/\m x=some u)\/((env.kindOf x=some .cell\/env.kindOf x=some .free)/\∃ c,env.cells.lookup x=some c/\h.IsCell c (some u))
structure Cx.Ok (X:Cx):Prop where
 mod:Mod X.K X.mg X.base
 kind:X.env.scope.kind=.function
 glob:X.env.globals=mainGlobals
 blt:X.env.builtins=builtinsNs
 above:X.s₀.heap.objs.size<=X.env.locals
 inj:∀ x y c,X.env.cells.lookup x=some c->X.env.cells.lookup y=some c->x=y
 has:∀ x,(X.env.kindOf x=some .cell\/X.env.kindOf x=some .free)->∃ c,X.env.cells.lookup x=some c
 cab:∀ x c,X.fn x=true->X.env.cells.lookup x=some c->X.s₀.heap.objs.size<=c
 hd:X.calm=true->X.A.handled=none
 frames:X.A.frames=some X.stack
 stk:X.stack=X.outer\/(X.stack=X.env :: X.outer/\X.env.frame=some X.env.locals)
 exf:∀ b∈X.ex,b≠X.env.locals/\∀ x c,X.env.cells.lookup x=some c->c≠b
 bs:∀ b o,X.base.get? b=some o->X.s₀.heap.get? b=some o/\X.H₀ b=none
 bsz:X.base.objs.size<=X.s₀.heap.objs.size
 noex:∀ b o,X.base.get? b=some o->b ∉ X.ex
 exfs:∀ b∈X.ex,b ∉ X.fs
 funs:X.s₀.heap.FunFrames X.base X.outer
 frf:∀ b∈X.fs,X.H₀ b=none
structure Inv (X:Cx) (m5:A4) (σ:List As) (H:Hp) (s:Ap):Prop where
 ok:X.Ok
 os:s.os=X.s₀.os
 bare:AllBare s.gens
 base:Un X.fs X.ex X.H₀ H X.s₀.heap s.heap
 loc:∃ m,s.heap.Ns X.env.locals m/\∀ (i:Nat) (x:Str) (v:V),X.N[i]?=some x->σ[i]?=some (some v)->Vis X.env.scope x->∃ u,RelV v u/\ziO X.env s.heap m x u
 cell:∀ x c,X.env.cells.lookup x=some c->∃ v,s.heap.IsCell c v
 free:H X.env.locals=none
 freeC:∀ x c,X.env.cells.lookup x=some c->H c=none
 pin:∀ p∈X.pn ++ m5,s.heap.get? p.1=some p.2/\H p.1=none/\p.1≠X.env.locals/\p.1 ∉ X.fs/\∀ v,p.2.data≠.cell v
 hok:HOk X.prog X.w H s.heap
 len:σ.length=X.N.length
section
variable {X:Cx} {m5:A4} {σ:List As} {H H':Hp} {s:Ap} {h':Heap}
def Cx.Ok.nofr (ok:X.Ok) {o:Obj} (e:X.base.get? b=some o):b ∉ X.fs:=λ hb=>by
 have:=(ok.funs.mem hb).1;rw [e] at this;cases this
def Inv.bs (I:Inv X m5 σ H s):∀ b o,X.base.get? b=some o->s.heap.get? b=some o/\H b=none:=λ b o e =>
 ⟨I.base.keep b o (I.ok.bs b o e).1 (I.ok.bs b o e).2 (I.ok.nofr e) (I.ok.noex b o e),I.base.free b o (I.ok.bs b o e).1 (I.ok.bs b o e).2 (I.ok.noex b o e)⟩
def Inv.bk (I:Inv X m5 σ H s):∀ b o,X.base.get? b=some o->s.heap.get? b=some o:=λ b o e=>(I.bs b o e).1
def Inv.mod (I:Inv X m5 σ H s):Mod X.K X.mg X.base:=I.ok.mod
def Inv.kIn (I:Inv X m5 σ H s):X.K.In s.heap:=I.ok.mod.kin.keeps I.bk
def Inv.nolimit (I:Inv X m5 σ H s):s.heap.NoLimit:=I.ok.mod.nolimit.keeps I.bk
def Inv.fr (I:Inv X m5 σ H s):∃ m,Fr X.base X.env.locals s.heap m :=
 let ⟨m,hn,_⟩:=I.loc
 ⟨m,hn,I.bk,ba I.ok.bsz I.ok.above⟩
def Inv.lt (I:Inv X m5 σ H s):X.env.locals < s.heap.objs.size:=by
 obtain ⟨_,hn,_⟩:=I.loc;exact hn.lt
def Inv.sz (I:Inv X m5 σ H s):X.s₀.heap.objs.size<=s.heap.objs.size:=ba I.ok.above (bI I.lt)
def Inv.nofs (I:Inv X m5 σ H s) {a:Addr} (h:s.heap.objs.size<=a):a ∉ X.fs:=λ hb=>by
 obtain ⟨_,o,ho,_⟩:=I.ok.funs.mem hb;exact absurd (aM (aA ho) (ba I.sz h)) (cR _)
def Inv.cne (I:Inv X m5 σ H s):∀ x c,X.env.cells.lookup x=some c->c≠X.env.locals:=λ x c e z=>by
 obtain ⟨v,o,ho,hd⟩:=I.cell x c e;obtain ⟨m,⟨o',es,ep,ho',hd',_⟩,_⟩:=I.loc;rw [z,ho'] at ho;cases ho;rw [hd'] at hd;cases hd
def Inv.funs (I:Inv X m5 σ H s):s.heap.FunFrames X.base X.outer:=by
 have all:∀ (l:List Env),(∀ b∈frs l,b∈X.fs)->X.s₀.heap.FunFrames X.base l->s.heap.FunFrames X.base l:=by
  intro l
  induction l with
  | nil=>intro _ _;trivial
  | cons env r ih =>
   intro hs hl;obtain ⟨hk,⟨L,o,hf,hn,ho,hd⟩,hr⟩:=hl;have hL:L∈X.fs:=hs L (by unfold frs;rw [fC,hf];exact bX);obtain ⟨sl,e⟩:=I.base.slot L o ho (I.ok.frf L hL) hL λ z=>I.ok.exfs L z hL;exact ⟨hk,⟨L,_,hf,hn,e,hd⟩,ih (λ b hb=>hs b (by unfold frs;rw [fC,hf];exact aF _ hb)) hr⟩
 exact all X.outer (λ _ hb=>hb) I.ok.funs
def Inv.stack (I:Inv X m5 σ H s):s.heap.FunFrames X.base X.stack:=by
 rcases I.ok.stk with e|⟨e,hf⟩
 ·rw [e];exact I.funs
 ·rw [e];obtain ⟨m,hn,_⟩:=I.loc;refine .cons (by rw [I.ok.kind];decide) hf hn ?_ I.funs;exact Heap.get?_none_of_le (ba I.ok.bsz I.ok.above)
def Inv.stkSub (I:Inv X m5 σ H s):∀ b∈frs X.stack,b∈X.env.locals :: X.fs:=λ b hb=>by
 rcases I.ok.stk with e|⟨e,hf⟩
 ·rw [e] at hb;exact aF _ hb
 ·rw [e] at hb;unfold frs at hb;rw [fC,hf] at hb;exact hb
def Inv.stkFree (I:Inv X m5 σ H s):∀ b∈frs X.stack,H b=none:=λ b hb=>by
 rcases az.mp (I.stkSub b hb) with e|hb
 ·rw [e];exact I.free
 ·obtain ⟨_,o,ho,_⟩:=I.ok.funs.mem hb;exact I.base.free b o ho (I.ok.frf b hb) λ z=>I.ok.exfs b z hb
def Inv.step {g':Array GenState} {d':Drawn} {ch:Ae} (I:Inv X m5 σ H s)
  (hch:∀ b∈ch,(b∈X.ex\/X.s₀.heap.objs.size<=b)/\b≠X.env.locals/\(∀ x c,X.env.cells.lookup x=some c->c≠b)/\∀ p∈X.pn ++ m5,p.1≠b)
  (keep:∀ b o,b≠X.env.locals->b ∉ X.fs->b ∉ ch->s.heap.get? b=some o->H b=none->h'.get? b=some o)
  (slot:∀ b o,b≠X.env.locals->b∈X.fs->b ∉ ch->s.heap.get? b=some o->H b=none->∃ sl,h'.get? b=some { o with slots:=sl }) (free:∀ b o,b ∉ ch->s.heap.get? b=some o->H b=none->H' b=none)
  (there:∀ b o,b ∉ ch->s.heap.get? b=some o->∃ o',h'.get? b=some o')
  (tups:∀ b xs,H b=some (.tup xs)->H' b=some (.tup xs)) (frzs:∀ b o u,H b=some (.frz o u)->H' b=some (.frz o u)) (tbls:∀ b ps,H b=some (.tbl ps)->∃ more,H' b=some (.tbl (ps ++ more)))
  (ns:∀ m,s.heap.Ns X.env.locals m->h'.Ns X.env.locals m) (hok:HOk X.prog X.w H' h') (hg:AllBare g') :
  Inv X m5 σ H' { s with heap:=h',gens:=g',drawn:=d',toks:=t' }:=by
 have neL:∀ b o,X.s₀.heap.get? b=some o->b≠X.env.locals:=λ b o e=>aP (aM (aA e) I.ok.above);have neC:∀ b o,X.s₀.heap.get? b=some o->b ∉ X.ex->b ∉ ch:=λ b o e hx hb=>by
  rcases (hch b hb).1 with z|z
  ·exact hx z
  ·exact absurd (aM (aA e) z) (cR _)
 have cellK:∀ x c,X.env.cells.lookup x=some c->∀ v,s.heap.IsCell c v->h'.IsCell c v:=λ x c e v ⟨o,ho,hd⟩=>by
  have nch:c ∉ ch:=λ z=>(hch c z).2.2.1 x c e rfl;by_cases hc:c∈X.fs
  ·obtain ⟨sl,q⟩:=slot c o (I.cne x c e) hc nch ho (I.freeC x c e);exact ⟨_,q,hd⟩
  ·exact ⟨o,keep c o (I.cne x c e) hc nch ho (I.freeC x c e),hd⟩
 refine ⟨I.ok,I.os,hg,⟨λ b o e n hb hx=>?_,λ b o e n hb hx=>?_,λ b o e n hx=>?_,λ b o e hx=>?_,λ b xs e=>tups b xs (I.base.tups b xs e),λ b o xs e=>frzs b o xs (I.base.frzs b o xs e),λ b ps e=>?_⟩,?_,λ x c e=>?_,?_,λ x c e=>?_,λ p hp=>?_,hok,I.len⟩
 ·exact keep b o (neL b o e) hb (neC b o e hx) (I.base.keep b o e n hb hx) (I.base.free b o e n hx)
 ·obtain ⟨sl,e1⟩:=I.base.slot b o e n hb hx;obtain ⟨sl',e2⟩:=slot b _ (neL b o e) hb (neC b o e hx) e1 (I.base.free b o e n hx);exact ⟨sl',e2⟩
 ·obtain ⟨o',e1⟩:=I.base.there b o e hx;exact free b o' (neC b o e hx) e1 (I.base.free b o e n hx)
 ·obtain ⟨o',e1⟩:=I.base.there b o e hx;exact there b o' (neC b o e hx) e1
 ·obtain ⟨m1,e1⟩:=I.base.tbls b ps e;obtain ⟨m2,e2⟩:=tbls b _ e1;exact ⟨m1 ++ m2,by rw [e2,gc]⟩
 ·obtain ⟨m,hn,hl⟩:=I.loc;refine ⟨m,ns m hn,λ i x v e1 e2 e3=>?_⟩;obtain ⟨u,r,l⟩:=hl i x v e1 e2 e3;refine ⟨u,r,?_⟩;rcases l with l|⟨k,c,e,z⟩
  ·exact .inl l
  ·exact .inr ⟨k,c,e,cellK x c e _ z⟩
 ·obtain ⟨v,z⟩:=I.cell x c e;exact ⟨v,cellK x c e v z⟩
 ·obtain ⟨m,⟨o,_,_,ho,_⟩,_⟩:=I.loc;exact free _ o (λ z=>(hch _ z).2.1 rfl) ho I.free
 ·obtain ⟨v,o,ho,hd⟩:=I.cell x c e;exact free c o (λ z=>(hch c z).2.2.1 x c e rfl) ho (I.freeC x c e)
 ·obtain ⟨e,n,ne,nf,d⟩:=I.pin p hp;have nch:p.1 ∉ ch:=λ z=>(hch p.1 z).2.2.2 p hp rfl;exact ⟨keep p.1 p.2 ne nf nch e n,free p.1 p.2 nch e n,ne,nf,d⟩
def Inv.un (I:Inv X m5 σ H s) (u:Un X.fs [] H H' s.heap h') (hok:HOk X.prog X.w H' h'):Inv X m5 σ H' { s with heap:=h',toks:=t' }:=by
 obtain ⟨m,⟨o,es,ep,ho,r⟩,_⟩:=id I.loc;obtain ⟨sl,hL⟩:=u.any ho I.free (by simp);exact I.step (g':=s.gens) (d':=s.drawn) (ch:=[]) (λ _ z=>nomatch z) (λ b o _ hb _ e n=>u.keep b o e n hb (by simp)) (λ b o _ hb _ e n=>u.slot b o e n hb (by simp)) (λ b o _ e n=>u.free b o e n (by simp)) (λ b o _ e=>u.there b o e (by simp)) u.tups u.frzs u.tbls (λ m' hm=>by
  obtain ⟨o',es',ep',ho',r'⟩:=hm;rw [ho] at ho';cases ho';exact ⟨_,es',ep',hL,r'⟩) hok I.bare
def Inv.call {g':Array GenState} {d':Drawn} {ch:Ae} (I:Inv X m5 σ H s) (u:Un (frs X.stack) ch H H' s.heap h') (hok:HOk X.prog X.w H' h') (hg:AllBare g')
  (hch:∀ b∈ch,(b∈X.ex\/X.s₀.heap.objs.size<=b)/\b≠X.env.locals/\(∀ x c,X.env.cells.lookup x=some c->c≠b)/\∀ p∈X.pn ++ m5,p.1≠b) :
  Inv X m5 σ H' { s with heap:=h',gens:=g',drawn:=d',toks:=t' }:=by
 obtain ⟨m,⟨o,es,ep,ho,r⟩,_⟩:=id I.loc;obtain ⟨sl,hL⟩:=u.any ho I.free λ z=>(hch _ z).2.1 rfl;exact I.step (ch:=ch) hch (λ b o hL hb hc e n=>u.keep b o e n (λ z=>(az.mp (I.stkSub b z)).elim hL hb) hc) (λ b o _ _ hc e n=>u.any e n hc) (λ b o hc e n=>u.free b o e n hc) (λ b o hc e=>u.there b o e hc) u.tups u.frzs u.tbls (λ m' hm=>by
  obtain ⟨o',es',ep',ho',r'⟩:=hm;rw [ho] at ho';cases ho';exact ⟨_,es',ep',hL,r'⟩) hok hg
def Inv.turned {it:Addr} (I:Inv X m5 σ H s) (k:∀ b o,b≠it->s.heap.get? b=some o->h'.get? b=some o) (hn:H it=none) (hL:it≠X.env.locals)
  (h1:it∈X.ex\/X.s₀.heap.objs.size<=it) (h2:∀ x c,X.env.cells.lookup x=some c->c≠it) (h3:∀ p∈X.pn ++ m5,p.1≠it):Inv X m5 σ H { s with heap:=h',toks:=t' }:=by
 have nit:∀ b u,H b=some u->b≠it:=λ b u e z=>by rw [z,hn] at e;cases e
 refine I.step (g':=s.gens) (d':=s.drawn) (ch:=[it]) (λ b hb=>?_) (λ b o _ _ hc e _=>k b o (λ z=>hc (by simp [z])) e) (λ b o _ _ hc e _=>⟨o.slots,k b o (λ z=>hc (by simp [z])) e⟩) (λ _ _ _ _ n=>n)
  (λ b o hc e=>⟨o,k b o (λ z=>hc (by simp [z])) e⟩) (λ _ _ e=>e) (λ _ _ _ e=>e) (λ b ps e=>⟨#[],by rw [e];simp⟩) (λ m hm=>?_) (λ b u e=>?_) I.bare
 ·have e:b=it:=by simpa using hb
  subst e;exact ⟨h1,hL,h2,h3⟩
 ·obtain ⟨o,es,ep,ho,r⟩:=hm;exact ⟨o,es,ep,k _ o (aX hL) ho,r⟩
 ·refine (I.hok b u e).stay (λ c v hc q=>k c v ?_ q) (λ _ q=>q) λ _ _ q=>q;rcases hc with z|z
  ·rw [z];exact nit b u e
  ·exact nit c _ z
def Inv.tok (I:Inv X m5 σ H s) (t:Nat):Inv X m5 σ H { s with toks:=t }:=I.un (h':=s.heap) (t':=t) Un.refl I.hok
def Inv.kept (I:Inv X m5 σ H s) (k:∀ b u,s.heap.get? b=some u->h'.get? b=some u):Inv X m5 σ H { s with heap:=h',toks:=t' }:=I.un (Un.kept k) (I.hok.kept k)
def Inv.laid {a:Addr} (I:Inv X m5 σ H s) (k:∀ b u,s.heap.get? b=some u->h'.get? b=some u) (hp:s.heap.objs.size<=a) (new:ObjOk X.prog X.w (upd H a o) h' a o) :
  Inv X m5 σ (upd H a o) { s with heap:=h',toks:=t' }:=I.un (Un.laid k hp (I.hok.fresh hp)) (I.hok.laid k hp new)
def Inv.write {x e:Addr} (I:Inv X m5 σ H s) (mu:Mut (H x)) (he:e=x\/H e=some (.own x)) (k:∀ b u,b≠e->s.heap.get? b=some u->h'.get? b=some u) (heo:∃ u,h'.get? e=some u)
  (new:ObjOk X.prog X.w (upd H x o) h' x o):Inv X m5 σ (upd H x o) { s with heap:=h',toks:=t' }:=I.un (Un.write mu he k heo) (I.hok.write mu he k heo new)
def Inv.pins_of {pins':A4} (I:Inv X m5 σ H s) (h:∀ p∈pins',s.heap.get? p.1=some p.2/\H p.1=none/\p.1≠X.env.locals/\p.1 ∉ X.fs/\∀ v,p.2.data≠.cell v):Inv X pins' σ H s :=
 ⟨I.ok,I.os,I.bare,I.base,I.loc,I.cell,I.free,I.freeC,λ p hp=>(aH.mp hp).elim (λ z=>I.pin p (bJ _ z)) (h p),I.hok,I.len⟩
def zaB {N:Aa} (hN:N.Nodup) {i j:Nat} (a:N[i]?=some x) (b:N[j]?=some x):i=j:=by
 obtain ⟨h1,e1⟩:=aa.mp a;obtain ⟨h2,e2⟩:=aa.mp b;exact (List.getElem_inj hN).mp (e1.trans e2.symm)
def We {v:V} {Q:Ai} (I:Inv X m5 σ H s) (hN:X.N.Nodup) (hi:X.N[i]?=some x) (hx:Loc X.env.scope x) (r:RelV v u)
  (h:∀ s',Inv X m5 (σ.set i (some v)) H s'->(∃ a,Heap.SameBut a s.heap s'.heap/\(a=X.env.locals\/X.env.cells.lookup x=some a))->Q () s') (hf:X.fn x=true\/X.env.scope.names.lookup x=some .local:=by walk_at "p"):wpAny M A (storeName X.env x u) Q E s:=by
 obtain ⟨m,hn,hl⟩:=id I.loc;have hcls:(X.env.scope.kind == .class || (X.env.scope.kind == .module && X.env.locals != X.env.globals))=false:=by rw [I.ok.kind];rfl
 have hiσ:i < σ.length:=by rw [I.len];exact (aa.mp hi).1
 have cne:=I.cne;have tracked:∀ {a:Addr} {h':Heap},(∃ o,s.heap.get? a=some o/\H a=none)->Heap.SameBut a s.heap h'->HOk X.prog X.w H h':=λ {a h'} ha hs b ob e=>by
  obtain ⟨_,_,hfree⟩:=ha;refine (I.hok b ob e).stay (λ c w' hc q=>(hs.2 c ?_).trans q) (λ _ q=>q) λ _ _ q=>q;rintro rfl;rcases hc with rfl|hc
  ·rw [hfree] at e;cases e
  ·rw [hfree] at hc;cases hc
 rcases hx with hk|hk
 ·refine wpAny_storeName_local hk hn (λ h' hn' hs=>?_) hcls;obtain ⟨oL,_,_,hoL,_⟩:=id hn;refine h _ ⟨I.ok,I.os,I.bare,⟨λ b o e n hb hx=>?_,λ b o e n hb hx=>?_,I.base.free,λ b o e hx=>?_,I.base.tups,I.base.frzs,I.base.tbls⟩,⟨_,hn',λ j y v' e1 e2 e3=>?_⟩,λ y c e=>?_,I.free,I.freeC,λ p hp=>?_,tracked ⟨oL,hoL,I.free⟩ hs,by simpa using I.len⟩ ⟨_,hs,.inl rfl⟩
  ·exact (hs.2 b (aP (aM (aA e) I.ok.above))).trans (I.base.keep b o e n hb hx)
  ·obtain ⟨sl,e1⟩:=I.base.slot b o e n hb hx;exact ⟨sl,(hs.2 b (aP (aM (aA e) I.ok.above))).trans e1⟩
  ·obtain ⟨o',e1⟩:=I.base.there b o e hx;exact ⟨o',(hs.2 b (aP (aM (aA e) I.ok.above))).trans e1⟩
  ·by_cases hj:j=i
   ·subst hj;rw [hi] at e1;cases e1;rw [a7 hiσ] at e2;cases e2;exact ⟨u,r,.inl ⟨hk,by simp⟩⟩
   ·rw [bK (aX hj)] at e2;obtain ⟨u',r',q⟩:=hl j y v' e1 e2 e3;refine ⟨u',r',?_⟩;rcases q with ⟨k,e⟩|⟨k,c,e,z⟩
    ·refine .inl ⟨k,?_⟩;have:y≠x:=λ e=>hj (zaB hN e1 (e ▸ hi));simp [this,e]
    ·exact .inr ⟨k,c,e,z.sameBut hs (cne y c e)⟩
  ·obtain ⟨w',z⟩:=I.cell y c e;exact ⟨w',z.sameBut hs (cne y c e)⟩
  ·obtain ⟨e,n,ne,nf,d⟩:=I.pin p hp;exact ⟨(hs.2 p.1 ne).trans e,n,ne,nf,d⟩
 ·have hfn:X.fn x=true:=by
   rcases hf with z|z
   ·exact z
   ·rw [z] at hk;cases hk
  obtain ⟨c,hc⟩:=I.ok.has x (.inl hk);obtain ⟨w',z⟩:=I.cell x c hc;refine wpAny_storeName_cell I.ok.kind hk hc z (λ h' hc' hs=>?_);obtain ⟨oc,hoc,hocd⟩:=id z;refine h { s with heap:=h' } ⟨I.ok,I.os,I.bare,⟨λ b o e n hb hx=>?_,λ b o e n hb hx=>?_,I.base.free,λ b o e hx=>?_,I.base.tups,I.base.frzs,I.base.tbls⟩,⟨m,hn.sameBut hs (aX (cne x c hc)),λ j y v' e1 e2 e3=>?_⟩,λ y c' e=>?_,I.free,I.freeC,λ p hp=>?_,tracked ⟨oc,hoc,I.freeC x c hc⟩ hs,by simpa using I.len⟩ ⟨c,hs,.inr hc⟩
  ·exact (hs.2 b (aP (aM (aA e) (I.ok.cab x c hfn hc)))).trans (I.base.keep b o e n hb hx)
  ·obtain ⟨sl,e1⟩:=I.base.slot b o e n hb hx;exact ⟨sl,(hs.2 b (aP (aM (aA e) (I.ok.cab x c hfn hc)))).trans e1⟩
  ·obtain ⟨o',e1⟩:=I.base.there b o e hx;exact ⟨o',(hs.2 b (aP (aM (aA e) (I.ok.cab x c hfn hc)))).trans e1⟩
  ·by_cases hj:j=i
   ·subst hj;rw [hi] at e1;cases e1;rw [a7 hiσ] at e2;cases e2;exact ⟨u,r,.inr ⟨.inl hk,c,hc,hc'⟩⟩
   ·rw [bK (aX hj)] at e2;obtain ⟨u',r',q⟩:=hl j y v' e1 e2 e3;refine ⟨u',r',?_⟩;rcases q with q|⟨k,c',e,z'⟩
    ·exact .inl q
    ·refine .inr ⟨k,c',e,z'.sameBut hs ?_⟩;rintro rfl;exact hj (zaB hN e1 (I.ok.inj _ _ _ e hc ▸ hi))
  ·by_cases hcc:c'=c
   ·subst hcc;exact ⟨_,hc'⟩
   ·obtain ⟨w2,z2⟩:=I.cell y c' e;exact ⟨w2,z2.sameBut hs hcc⟩
  ·obtain ⟨e,n,ne,nf,d⟩:=I.pin p hp;refine ⟨(hs.2 p.1 ?_).trans e,n,ne,nf,d⟩;intro q;rw [q,hoc] at e;have q':oc=p.2:=aT e;exact d w' (by rw [<- q'];exact hocd)
def JA {v:V} {Q:Ai} (I:Inv X m5 σ H s) (hN:X.N.Nodup) (hi:X.N[i]?=some x) (hx:Loc X.env.scope x) (r:RelV v u)
  (h:∀ s',Inv X m5 (σ.set i (some v)) H s'->Q () s') (hf:X.fn x=true\/X.env.scope.names.lookup x=some .local:=by walk_at "p"):wpAny M A (storeName X.env x u) Q E s :=
 We I hN hi hx r (λ s' I' _=>h s' I') hf
def Inv.call' {s':Ap} {ch:Ae} (I:Inv X m5 σ H s) (ho:s'.os=s.os) (u:Un (frs X.stack) ch H H' s.heap s'.heap) (hok:HOk X.prog X.w H' s'.heap) (hg:AllBare s'.gens)
  (hch:∀ b∈ch,(b∈X.ex\/X.s₀.heap.objs.size<=b)/\b≠X.env.locals/\(∀ x c,X.env.cells.lookup x=some c->c≠b)/\∀ p∈X.pn ++ m5,p.1≠b):Inv X m5 σ H' s':=by
 obtain ⟨h',g',d',t',o'⟩:=s';have e:o'=s.os:=ho;subst e;exact I.call (g':=g') (t':=t') (d':=d') u hok hg hch
end
abbrev XK:=Value->Option Addr->Hp->Prop
abbrev St:=List As
variable {σ:St}
abbrev VK:=V->Hp->Prop
abbrev TE:=St->Hp->VK->Prop
abbrev TT:=St->Hp->(Bool->Hp->Prop)->Prop
abbrev TA:=St->Hp->(List V->Hp->Prop)->Prop
structure Ends where
 nx:St->Hp->Prop
 rt:VK
 bk:St->Hp->Prop:=λ _ _=>False
 ct:St->Hp->Prop:=λ _ _=>False
abbrev TS:=Ends->St->Hp->Prop
def EP (X:Cx) (m5:A4) (σ:St) (Q:VK) (u:Ao) (s':Ap):Prop:=∃ v H',Inv X m5 σ H' s'/\RelV v u/\Q v H'
def TP (X:Cx) (m5:A4) (σ:St) (Q:Bool->Hp->Prop) (b:Bool) (s':Ap):Prop:=∃ H',Inv X m5 σ H' s'/\Q b H'
def AP (X:Cx) (m5:A4) (σ:St) (Q:List V->Hp->Prop) (us:A9) (s':Ap):Prop:=∃ vs H',Inv X m5 σ H' s'/\Vals vs us/\Q vs H'
def SP (X:Cx) (m5:A4) (D:Ends) (f:Flow) (s':Ap):Prop :=
 match f with
 | .next=>∃ σ' H',Inv X m5 σ' H' s'/\D.nx σ' H'
 | .brk=>∃ σ' H',Inv X m5 σ' H' s'/\D.bk σ' H'
 | .cont=>∃ σ' H',Inv X m5 σ' H' s'/\D.ct σ' H'
 | .ret u=>∃ v σ' H',Inv X m5 σ' H' s'/\RelV v u/\D.rt v H'
def PE (X:Cx) (e:Expr) (t:TE):Prop :=
 ∀ (m5:A4) (s:Ap) (σ:St) (H:Hp) (Q:VK),Inv X m5 σ H s->t σ H Q->wpAny (model X.prog X.w) X.A (eval e X.env) (EP X m5 σ Q) X.xe s
def PT (X:Cx) (e:Expr) (t:TT):Prop :=
 ∀ (m5:A4) (s:Ap) (σ:St) (H:Hp) (Q:Bool->Hp->Prop),Inv X m5 σ H s->t σ H Q->wpAny (model X.prog X.w) X.A (isTrue e X.env (eval e X.env)) (TP X m5 σ Q) X.xe s
def PW (X:Cx) (e:Expr) (t:TT):Prop :=
 ∀ (whole:Sem Value) (m5:A4) (s:Ap) (σ:St) (H:Hp) (Q:Bool->Hp->Prop),Inv X m5 σ H s->t σ H Q->wpAny (model X.prog X.w) X.A (isTrue e X.env whole) (TP X m5 σ Q) X.xe s
def PW.pt {e:Expr} {t:TT} (h:PW X e t):PT X e t:=h _
def PA (X:Cx) (es:List Expr) (t:TA):Prop :=
 ∀ (pos:Pos) (m5:A4) (s:Ap) (σ:St) (H:Hp) (Q:List V->Hp->Prop),Inv X m5 σ H s->t σ H Q->wpAny (model X.prog X.w) X.A (spliced (backTo pos (starEach es X.env))) (AP X m5 σ Q) X.xe s
def PS (X:Cx) (st:Stmt) (t:TS):Prop :=
 ∀ (m5:A4) (s:Ap) (σ:St) (H:Hp) (D:Ends),Inv X m5 σ H s->t D σ H->wpAny (model X.prog X.w) X.A (exec st X.env) (SP X m5 D) X.xe s
def PSs (X:Cx) (st:List Stmt) (t:TS):Prop :=
 ∀ (m5:A4) (s:Ap) (σ:St) (H:Hp) (D:Ends),Inv X m5 σ H s->t D σ H->wpAny (model X.prog X.w) X.A (execs st X.env) (SP X m5 D) X.xe s
def thn {α:Type} {t:Sem α} {Q Q':α->Shared->Prop} (h:wpAny M A t Q E s) (hQ:∀ a s,Q a s->Q' a s):wpAny M A t Q' E s:=aV h hQ λ _ _ x=>x
def qL {Q:VK} {t:Sem Value} {Q':A5} (h:wpAny M A t (EP X m5 σ Q) E s) (k:∀ u s1 x H1,Inv X m5 σ H1 s1->RelV x u->Q x H1->Q' u s1):wpAny M A t Q' E s:=thn h λ u s1 e=>by
 obtain ⟨x,H1,I1,r,q⟩:=e;exact k u s1 x H1 I1 r q
def w6 {Q:List V->Hp->Prop} {t:Sem A9} {Q':List Value->Shared->Prop} (h:wpAny M A t (AP X m5 σ Q) E s) (k:∀ us s1 vs H1,Inv X m5 σ H1 s1->Vals vs us->Q vs H1->Q' us s1):wpAny M A t Q' E s:=thn h λ u s1 e=>by
 obtain ⟨x,H1,I1,r,q⟩:=e;exact k u s1 x H1 I1 r q
section
variable {X:Cx}
def bq:V->(Bool->Prop)->Prop
 | .bl k,P=>P k
 | _,_=>False
def za8 {x:V} {P:Bool->Prop} (h:bq x P):∃ k,x=.bl k/\P k:=by
 cases x <;> first|exact ⟨_,rfl,h⟩|exact False.elim h
def iq:V->(Int->Prop)->Prop
 | .int i,P=>P i
 | _,_=>False
def Z8 {x:V} {P:Int->Prop} (h:iq x P):∃ i,x=.int i/\P i:=by
 cases x <;> first|exact ⟨_,rfl,h⟩|exact False.elim h
def QL {x y:V} {P:Int->Int->Prop} (h:iq x λ i=>iq y λ j=>P i j):∃ i j,x=.int i/\y=.int j/\P i j:=by
 obtain ⟨i,e,h⟩:=Z8 h;obtain ⟨j,e2,h⟩:=Z8 h;exact ⟨i,j,e,e2,h⟩
def nq:V->Prop->Prop
 | .non,P=>P
 | _,_=>False
def zcs {x:V} {P:Prop} (h:nq x P):x=.non/\P:=by
 cases x <;> first|exact ⟨rfl,h⟩|exact False.elim h
def lq:List V->(V->Prop)->Prop
 | [v],P=>P v
 | _,_=>False
theorem zeS:∀ {xs:Ar} {P:V->Prop},lq xs P->∃ v,xs=[v]/\P v
 | [_],_,h=>⟨_,rfl,h⟩
 | [],_,h=>h.elim
 | _ :: _ :: _,_,h=>h.elim
def vq:Option As->(V->Prop)->Prop
 | some (some v),P=>P v
 | _,_=>False
theorem zgs:∀ {o:Option As} {P:V->Prop},vq o P->∃ v,o=some (some v)/\P v
 | some (some v),_,h=>⟨v,rfl,h⟩
 | some none,_,h=>h.elim
 | none,_,h=>h.elim
def szl (xs:Ar) (P:Prop):Prop:=cond (Nat.ble xs.length 12) P False
def zbj {xs:Ar} {P:Prop} (h:szl xs P):xs.length<=sizeLine/\P:=by
 unfold szl at h;cases e:Nat.ble xs.length 12 with
 | true=>rw [e] at h;exact ⟨ba (Nat.le_of_ble_eq_true e) (by decide),h⟩
 | false=>rw [e] at h;exact h.elim
def tVar (i:Nat):TE:=λ σ H Q=>vq σ[i]? λ v=>Q v H
def tC (v:V):TE:=λ _ H Q=>Q v H
def zg6 (hN:X.N[i]?=some x) (hv:Vis X.env.scope x) (hd:(x == ("__debug__":Str))=false:=by decide) (hcd:(x == ("__classdict__":Str))=false:=by decide):PE X (.Name x pos) (tVar i):=by
 intro m5 s σ H Q I h;obtain ⟨v,e,h⟩:=zgs h;obtain ⟨m,hn,hl⟩:=I.loc;obtain ⟨u,r,l⟩:=hl i x v hN e hv;have fin:EP X m5 σ Q u s:=⟨v,H,I,r,h⟩;rcases l with ⟨hk,hm⟩|⟨hk,c,hc,hcell⟩
 ·exact wpAny_Name (wpAny_loadName_local I.ok.kind hk hn hm fin) hd
 ·rcases hk with hk|hk
  ·exact wpAny_Name (wpAny_loadName_cell I.ok.kind hk hc hcell fin) hd
  ·exact wpAny_Name (wpAny_loadName_free I.ok.kind hk hc hcell fin hcd) hd
def zd {i j pos}:PE X (.Constant (.int i) j pos) (tC (.int i)):=λ _ _ _ H _ I h=>wpAny_Constant_int ⟨.int i,H,I.tok _,⟨_,rfl⟩,h⟩
def Wl {b j pos}:PE X (.Constant (.bool b) j pos) (tC (.bl b)):=λ _ _ _ H _ I h=>Constant_bool ⟨.bl b,H,I,rfl,h⟩
def zG {j pos}:PE X (.Constant .none j pos) (tC .non):=λ _ _ _ H _ I h=>Constant_none ⟨.non,H,I,rfl,h⟩
def jF {x j pos}:PE X (.Constant (.str x) j pos) (tC (.str x)):=λ _ _ _ H _ I h=>Calls.Constant_str ⟨.str x,H,I.tok _,⟨_,rfl⟩,h⟩
def Gl (X:Cx) (x:Str):Prop:=X.env.kindOf x=some .globalImplicit
def xR (I:Inv X m5 σ H s) (hg:Gl X x) (hm:X.mg x=some u) (h:Q u s)
  (hd:(x == ("__debug__":Str))=false:=by decide):wpAny (model X.prog X.w) X.A (eval (.Name x pos) X.env) Q E s :=
 fJ I.ok.kind hg (Calls.loadGlobal_global (by rw [I.ok.glob];exact I.mod.glob.keeps I.bk) hm h) hd
def wQ (I:Inv X m5 σ H s) (hg:Gl X x) (hm:X.mg x=none) (hv:bootBuiltins x=some u) (h:Q u s)
  (hn:x≠"__name__":=by decide) (hd:(x == ("__debug__":Str))=false:=by decide):wpAny (model X.prog X.w) X.A (eval (.Name x pos) X.env) Q E s:=by
 obtain ⟨mb,h1,h2⟩:=I.mod.blt;exact fJ I.ok.kind hg (Calls.loadGlobal_builtin (by rw [I.ok.glob];exact I.mod.glob.keeps I.bk) hm (by rw [I.ok.blt];exact h1.keeps I.bk) ((h2 x hn).trans hv) h) hd
variable {a b:Expr} {ta tb:TE} {pos:Pos}
def PC (X:Cx) (op:CmpOp) (a b:Expr) (t:TE):Prop :=
 ∀ (m5:A4) (s:Ap) (σ:St) (H:Hp) (Q:VK),Inv X m5 σ H s->t σ H Q ->
  wpAny (model X.prog X.w) X.A (eval a X.env) (λ v s₁=>wpAny (model X.prog X.w) X.A (eval b X.env) (λ u s₂=>wpAny (model X.prog X.w) X.A (compareOp op v u) (EP X m5 σ Q) X.xe s₂) X.xe s₁) X.xe s
def nobehind (b:Expr) (h:op≠.In) (h2:op≠.NotIn):behindInMarks op b=false:=by
 have e1:(op == CmpOp.In)=false:=by cases op <;> first|rfl|exact absurd rfl h
 have e2:(op == CmpOp.NotIn)=false:=by cases op <;> first|rfl|exact absurd rfl h2
 cases b <;> simp [behindInMarks,e1,e2]
def RelV.none_iff {x:V} {v:Ao} (r:RelV x v):(v == Value.none)=decide (x=.non):=by
 cases x with
 | non=>cases r;rfl
 | bl _=>cases r;rfl
 | int _=>obtain ⟨t,rfl⟩:=r;rfl
 | str _=>obtain ⟨t,rfl⟩:=r;rfl
 | byt _=>obtain ⟨t,rfl⟩:=r;rfl
 | flt _=>obtain ⟨t,rfl⟩:=r;rfl
 | ref _=>cases r;rfl
 | ty _=>cases r;rfl
def tB (t:TE):TT:=λ σ H Q=>t σ H λ x H1=>bq x λ c=>Q c H1
def zez {t:TE} (h:PC X op a b t) (h1:behindInMarks op b=false:=by walk_at "q"):PT X (.Compare a [op] [b] pos) (tB t):=by
 intro m5 s σ H Q I hw;refine wpAny_isTrue_Compare1 (thn (h m5 s σ H _ I hw) λ v s1 h1=>thn h1 λ u s2 h2=>thn h2 λ c s3 ⟨x,H1,I1,r1,q1⟩=>?_) h1;obtain ⟨d,rfl,q⟩:=za8 q1;cases r1;exact cS ⟨H1,I1,q⟩
variable {tA tB':TT} {rest:List Expr}
def tAnd (t u:TT):TT:=λ σ H Q=>t σ H λ c H1=>if c=true then u σ H1 Q else Q false H1
def tOr (t u:TT):TT:=λ σ H Q=>t σ H λ c H1=>if c=true then Q true H1 else u σ H1 Q
def tNot (t:TT):TT:=λ σ H Q=>t σ H λ c H1=>Q (!c) H1
def pw_and1 (ha:PT X a tA):PW X (.BoolOp .And [a] pos) tA:=by
 intro wh m5 s σ H Q I h;refine isTrue_and (thn (ha m5 s σ H Q I h) λ c s1 e=>?_);cases c with
 | true=>exact isTrue_and_nil e
 | false=>exact e
def pw_or1 (ha:PT X a tA):PW X (.BoolOp .Or [a] pos) tA:=by
 intro wh m5 s σ H Q I h;refine isTrue_or (thn (ha m5 s σ H Q I h) λ c s1 e=>?_);cases c with
 | false=>exact isTrue_or_nil e
 | true=>exact e
def pw_and (ha:PT X a tA) (hb:PW X (.BoolOp .And (b :: rest) pos) tB'):PW X (.BoolOp .And (a :: b :: rest) pos) (tAnd tA tB'):=by
 intro wh m5 s σ H Q I h;refine isTrue_and (thn (ha m5 s σ H _ I h) λ c s1 ⟨H1,I1,q1⟩=>?_);cases c with
 | true=>exact hb wh m5 s1 σ H1 Q I1 q1
 | false=>exact ⟨H1,I1,q1⟩
def pw_or (ha:PT X a tA) (hb:PW X (.BoolOp .Or (b :: rest) pos) tB'):PW X (.BoolOp .Or (a :: b :: rest) pos) (tOr tA tB'):=by
 intro wh m5 s σ H Q I h;refine isTrue_or (thn (ha m5 s σ H _ I h) λ c s1 ⟨H1,I1,q1⟩=>?_);cases c with
 | true=>exact ⟨H1,I1,q1⟩
 | false=>exact hb wh m5 s1 σ H1 Q I1 q1
def jC (ha:PT X a tA):PT X (.UnaryOp .Not a pos) (tNot tA):=by
 intro m5 s σ H Q I h;exact isTrue_not (ha m5 s σ H (λ c H1=>Q (!c) H1) I h)
def tIf (t:TT) (ta tb:TE):TE:=λ σ H Q=>t σ H λ c H1=>if c=true then ta σ H1 Q else tb σ H1 Q
def wj {c:Expr} (hc:PT X c tA) (ha:PE X a ta) (hb:PE X b tb):PE X (.IfExp c a b pos) (tIf tA ta tb):=by
 intro m5 s σ H Q I h;refine wpAny_IfExp (thn (hc m5 s σ H _ I h) λ d s1 ⟨H1,I1,q1⟩=>?_);cases d with
 | true=>exact ha m5 s1 σ H1 Q I1 q1
 | false=>exact hb m5 s1 σ H1 Q I1 q1
end
def SqL (K:A0) (H:Hp) (a:Addr) (xs:Ar):Prop :=
 Rd H a (.lst xs) \/
  ∃ (o:Obj) (mM:Af) (n:Nat),K.lookup a=some o/\o.cls=.type "list"/\o.dict=none/\o.data=.seq mM n/\mM.size<=sizeLine/\Vals xs mM.toList
def SqT (K:A0) (H:Hp) (a:Addr) (xs:Ar):Prop :=
 Rd H a (.tup xs) \/
  ∃ (o:Obj) (mM:Af) (n:Nat),K.lookup a=some o/\o.cls=.type "tuple"/\o.data=.seq mM n/\mM.size<=sizeLine/\Vals xs mM.toList
noncomputable def ziM:Value->Option V
 | .none=>some .non
 | .bool b=>some (.bl b)
 | .int i _=>some (.int i)
 | .str x _=>some (.str x)
 | .bytes b _=>some (.byt b)
 | .float b _=>some (.flt b)
 | .ref a=>some (.ref a)
 | .type n=>some (.ty n)
 | _=>none
def RelV.abs {x:V} (r:RelV x u):ziM u=some x:=by
 cases x with
 | non=>cases r;rfl
 | bl _=>cases r;rfl
 | int _=>obtain ⟨t,rfl⟩:=r;rfl
 | str _=>obtain ⟨t,rfl⟩:=r;rfl
 | byt _=>obtain ⟨t,rfl⟩:=r;rfl
 | flt _=>obtain ⟨t,rfl⟩:=r;rfl
 | ref _=>cases r;rfl
 | ty _=>cases r;rfl
def RelV.inj {x y:V} (r:RelV x u) (q:RelV y u):x=y:=aT (r.abs.symm.trans q.abs)
theorem Vals.inj:∀ {xs ys:Ar} {us:A9},Vals xs us->Vals ys us->xs=ys
 | _,_,_,.nil,.nil=>rfl
 | _,_,_,.cons r t,.cons r' t'=>by rw [r.inj r',Vals.inj t t']
section
variable {X:Cx} {m5:A4} {σ:St} {H:Hp} {s:Ap} {a:Addr} {xs ys:Ar}
def SqL.of (h:H a=some (.lst xs)):SqL K H a xs:=.inl (.inl h)
def SqT.of (h:H a=some (.tup xs)):SqT K H a xs:=.inl (.inl h)
def Inv.list (I:Inv X m5 σ H s) (h:SqL X.K H a xs):∃ mM:List Value,Vals xs mM/\PlainL s.heap a mM.toArray/\xs.length<=sizeLine:=by
 rcases h with h|⟨o,mM,n,hk,hc,hd,hs,hz,r⟩
 ·obtain ⟨z,mM,n,r,e⟩:=h.ok I.hok;exact ⟨mM,r,⟨_,n,e,rfl,rfl,rfl⟩,z⟩
 ·refine ⟨mM.toList,r,⟨o,n,I.kIn a o hk,hc,hd,by simpa using hs⟩,?_⟩;have e:=r.length;simp only [cY] at e
  lia
def Inv.tuple (I:Inv X m5 σ H s) (h:SqT X.K H a xs):∃ mM:List Value,Vals xs mM/\IsTup s.heap a mM.toArray/\xs.length<=sizeLine:=by
 rcases h with h|⟨o,mM,n,hk,hc,hs,hz,r⟩
 ·obtain ⟨z,mM,r,p⟩:=h.ok I.hok;exact ⟨mM,r,p,z⟩
 ·refine ⟨mM.toList,r,⟨o,I.kIn a o hk,hc,n,by simpa using hs⟩,?_⟩;have e:=r.length;simp only [cY] at e
  lia
def Inv.list_inj (I:Inv X m5 σ H s) (h:SqL X.K H a xs) (h':SqL X.K H a ys):xs=ys:=by
 obtain ⟨mM,r,⟨o,n,e,_,_,d⟩,_⟩:=I.list h;obtain ⟨its',r',⟨o',n',e',_,_,d'⟩,_⟩:=I.list h';rw [e] at e';cases e';rw [d] at d';injection d' with d1 _
 have:mM=its':=by simpa using bt Array.toList d1
 subst this;exact r.inj r'
def Inv.tuple_inj (I:Inv X m5 σ H s) (h:SqT X.K H a xs) (h':SqT X.K H a ys):xs=ys:=by
 obtain ⟨mM,r,⟨o,e,_,n,d⟩,_⟩:=I.tuple h;obtain ⟨its',r',⟨o',e',_,n',d'⟩,_⟩:=I.tuple h';rw [e] at e';cases e';rw [d] at d';injection d' with d1 _
 have:mM=its':=by simpa using bt Array.toList d1
 subst this;exact r.inj r'
end
noncomputable abbrev Cx.wish (X:Cx) (E:A5):Cx:={ X with xe:=E }
noncomputable abbrev Cx.nox (X:Cx):Cx:=X.wish λ _ _=>False
def Cx.Ok.wish (ok:X.Ok) (E:A5):(X.wish E).Ok :=
 ⟨ok.mod,ok.kind,ok.glob,ok.blt,ok.above,ok.inj,ok.has,ok.cab,ok.hd,ok.frames,ok.stk,ok.exf,ok.bs,ok.bsz,ok.noex,ok.exfs,ok.funs,ok.frf⟩
def Cx.Ok.unwish (ok:(X.wish E).Ok):X.Ok :=
 ⟨ok.mod,ok.kind,ok.glob,ok.blt,ok.above,ok.inj,ok.has,ok.cab,ok.hd,ok.frames,ok.stk,ok.exf,ok.bs,ok.bsz,ok.noex,ok.exfs,ok.funs,ok.frf⟩
section
variable {X:Cx} {m5:A4} {σ:St} {H:Hp} {s:Ap} {E:A5}
def Inv.wish (I:Inv X m5 σ H s) (E:A5):Inv (X.wish E) m5 σ H s:=⟨I.ok.wish E,I.os,I.bare,I.base,I.loc,I.cell,I.free,I.freeC,I.pin,I.hok,I.len⟩
def Inv.unwish (I:Inv (X.wish E) m5 σ H s):Inv X m5 σ H s:=⟨I.ok.unwish,I.os,I.bare,I.base,I.loc,I.cell,I.free,I.freeC,I.pin,I.hok,I.len⟩
def SP.unwish {D:Ends} {f:Flow} {s':Ap} (h:SP (X.wish E) m5 D f s'):SP X m5 D f s':=by
 cases f with
 | next=>obtain ⟨σ',H',I,q⟩:=h;exact ⟨σ',H',I.unwish,q⟩
 | brk=>obtain ⟨σ',H',I,q⟩:=h;exact ⟨σ',H',I.unwish,q⟩
 | cont=>obtain ⟨σ',H',I,q⟩:=h;exact ⟨σ',H',I.unwish,q⟩
 | ret u=>obtain ⟨v,σ',H',I,r,q⟩:=h;exact ⟨v,σ',H',I.unwish,r,q⟩
def PE.nox {e:Expr} {t:TE} (h:PE X.nox e t):PE X e t:=λ m5 s σ H Q I hw =>
 aV (h m5 s σ H Q (I.wish _) hw) (λ _ _ ⟨v,H',I',r,q⟩=>⟨v,H',I'.unwish,r,q⟩) λ _ _ z=>False.elim z
def PT.nox {e:Expr} {t:TT} (h:PT X.nox e t):PT X e t:=λ m5 s σ H Q I hw =>
 aV (h m5 s σ H Q (I.wish _) hw) (λ _ _ ⟨H',I',q⟩=>⟨H',I'.unwish,q⟩) λ _ _ z=>False.elim z
def PSs.nox {st:List Stmt} {t:TS} (h:PSs X.nox st t):PSs X st t:=λ m5 s σ H D I hw =>
 aV (h m5 s σ H D (I.wish _) hw) (λ _ _ q=>q.unwish) λ _ _ z=>False.elim z
end
section
variable {X:Cx} {st:Stmt} {rest:List Stmt} {t u:TS} {e:Expr} {te:TE} {pos:Pos}
def tNext:TS:=λ D σ H=>D.nx σ H
def tSeq (t u:TS):TS:=λ D σ H=>t { D with nx:=u D } σ H
def zn:PSs X [] tNext:=λ _ _ σ H _ I h=>dc ⟨σ,H,I,h⟩
def zg (h1:PS X st t) (h2:PSs X rest u):PSs X (st :: rest) (tSeq t u):=by
 intro m5 s σ H D I h;refine ff (thn (h1 m5 s σ H { D with nx:=u D } I h) λ f s1 q=>?_);cases f with
 | next =>
  obtain ⟨σ',H',I',q⟩:=q;exact h2 m5 s1 σ' H' D I' q
 | ret v=>exact q
 | brk=>exact q
 | cont=>exact q
def zc (h1:PS X st t):PSs X [st] t:=by
 intro m5 s σ H D I h;refine ff (thn (h1 m5 s σ H D I h) λ f s1 q=>?_);cases f with
 | next=>exact dc q
 | ret v=>exact q
 | brk=>exact q
 | cont=>exact q
def Inv.quiet (I:Inv X m5 σ H s):interactive X.env=false:=by simp [interactive,I.ok.kind]
def tDrop (te:TE):TS:=λ D σ H=>te σ H λ _ H1=>D.nx σ H1
def zw (he:PE X e te) (hs:swapsWith e none pos.line X.env=pure false:=by rfl):PS X (.Expr e pos) (tDrop te):=by
 intro m5 s σ H D I h;exact wpAny_Expr_any (qL (he m5 s σ H _ I h) λ v s1 x H1 I1 r1 q1=>⟨σ,H1,I1,q1⟩) I.quiet hs
def tRet (te:TE):TS:=λ D σ H=>te σ H D.rt
def zl (he:PE X e te):PS X (.Return (some e) pos) (tRet te):=by
 intro m5 s σ H D I h;exact wpAny_Return_some (qL (he m5 s σ H _ I h) λ v s1 x H1 I1 r1 q1=>⟨x,σ,H1,I1,r1,q1⟩)
def tIfS (c:TT) (t u:TS):TS:=λ D σ H=>c σ H λ b H1=>if b=true then t D σ H1 else u D σ H1
def zD {c:Expr} {a b:List Stmt} {tc:TT} (hc:PT X c tc) (ha:PSs X a t) (hb:PSs X b u):PS X (.If c a b pos) (tIfS tc t u):=by
 intro m5 s σ H D I h;refine wpAny_If (thn (hc m5 s σ H _ I h) λ d s1 ⟨H1,I1,q1⟩=>?_);cases d with
 | true=>exact ha m5 s1 σ H1 D I1 q1
 | false=>exact hb m5 s1 σ H1 D I1 q1
end
abbrev TG:=V->St->Hp->(St->Hp->Prop)->Prop
abbrev TGs:=List V->St->Hp->(St->Hp->Prop)->Prop
def PG (X:Cx) (target:Expr) (t:TG):Prop :=
 ∀ (m5:A4) (s:Ap) (σ:St) (H:Hp) (v:V) (u:Ao) (Q:St->Hp->Prop),Inv X m5 σ H s->RelV v u->t v σ H Q ->
  wpAny (model X.prog X.w) X.A (assign target X.env u) (λ _ s'=>∃ σ' H',Inv X m5 σ' H' s'/\Q σ' H') X.xe s
def PGs (X:Cx) (ts:List Expr) (t:TGs):Prop :=
 ∀ (m5:A4) (s:Ap) (σ:St) (H:Hp) (vs:Ar) (us:A9) (Q:St->Hp->Prop),Inv X m5 σ H s->Vals vs us->t vs σ H Q ->
  wpAny (model X.prog X.w) X.A (assignInOrder ((assignEach ts X.env).map (·.2)) us) (λ _ s'=>∃ σ' H',Inv X m5 σ' H' s'/\Q σ' H') X.xe s
abbrev zfu:=V->V->V->Hp->(Hp->Prop)->Prop
def zhP (X:Cx) (t:zfu):Prop :=
 ∀ (m5:A4) (s:Ap) (σ:St) (H:Hp) (o i v:V) (ov iv u:Ao) (Q:Hp->Prop),Inv X m5 σ H s->RelV o ov->RelV i iv->RelV v u->t o i v H Q ->
  wpAny (model X.prog X.w) X.A (setItem ov iv u) (λ _ s'=>∃ H',Inv X m5 σ H' s'/\Q H') X.xe s
abbrev TIp:=V->V->Hp->VK->Prop
def PIp (X:Cx) (op:Operator) (t:TIp):Prop :=
 ∀ (m5:A4) (s:Ap) (σ:St) (H:Hp) (x y:V) (v u:Ao) (Q:VK),Inv X m5 σ H s->RelV x v->RelV y u->t x y H Q ->
  wpAny (model X.prog X.w) X.A (inplaceOp op v u) (EP X m5 σ Q) X.xe s
section
variable {X:Cx} {pos:Pos}
def gName (i:Nat):TG:=λ v σ H Q=>Q (σ.set i (some v)) H
def vQ (hN:X.N.Nodup) (hi:X.N[i]?=some x) (hx:Loc X.env.scope x) (hf:X.fn x=true\/X.env.scope.names.lookup x=some .local:=by walk_at "p"):PG X (.Name x pos) (gName i):=by
 intro m5 s σ H v u Q I r h;exact wpAny_assign_Name (JA I hN hi hx r (λ s' I'=>⟨_,H,I',h⟩) hf)
def gNil:TGs:=λ vs σ H Q=>vs=[]/\Q σ H
def gCons (t:TG) (u:TGs):TGs:=λ vs σ H Q=>∃ v r,vs=v :: r/\t v σ H λ σ' H'=>u r σ' H' Q
def jE:PGs X [] gNil:=by
 intro m5 s σ H vs us Q I r h;obtain ⟨e,h⟩:=h;subst e;cases r;exact assignInOrder_nil ⟨σ,H,I,h⟩
theorem z8 {e:Expr} {es:List Expr} {t:TG} {u:TGs} (h1:PG X e t) (h2:PGs X es u)
  (hs:(assignEach (e :: es) X.env).map (·.2)=assign e X.env :: (assignEach es X.env).map (·.2):=by rfl):PGs X (e :: es) (gCons t u):=by
 intro m5 s σ H vs us Q I r h;obtain ⟨v,vr,e1,h⟩:=h;subst e1;cases r with
 | cons r rr =>
  rw [hs];refine assignInOrder_cons (thn (h1 m5 s σ H _ _ _ I r h) λ _ s1 ⟨σ1,H1,I1,q1⟩=>?_);exact h2 m5 s1 σ1 H1 _ _ Q I1 rr q1
def gTup (K:A0) (n:Nat) (t:TGs):TG:=λ v σ H Q=>∃ a xs,v=.ref a/\SqT K H a xs/\xs.length=n/\t xs σ H Q
def xA {es:List Expr} {t:TGs} {n:Nat} (hc:X.calm=true) (h:PGs X es t)
  (hn:(assignEach es X.env).length=n:=by rfl) (hst:(assignEach es X.env).findIdx? (·.1)=none:=by rfl):PG X (.Tuple es k pos) (gTup X.K n t):=by
 intro m5 s σ H v u Q I r hw;obtain ⟨a,xs,e1,hq,hl,hw⟩:=hw;subst e1;cases r;obtain ⟨mM,rv,ht,hz⟩:=I.tuple hq;refine assign_Tuple_tuple (I.ok.hd hc) ht (by simp [hn,<- hl,rv.length]) hst λ h' hx=>?_;have I1:Inv X m5 σ H { s with heap:=h' }:=I.kept (t':=s.toks) λ b o e=>hx b o (aP (aA e)) e;exact h m5 _ σ H xs _ Q I1 (by simpa using rv) hw
def gSub (to ti:TE) (t:zfu):TG:=λ v σ H Q=>to σ H λ o H1=>ti σ H1 λ i H2=>t o i v H2 λ H3=>Q σ H3
def J3 {o i:Expr} {to ti:TE} {t:zfu} (ho:PE X o to) (hi:PE X i ti) (hs:zhP X t)
  (ha:∀ v,assign (.Subscript o i pos) X.env v=(do
   let ov <- holding [v] (eval o X.env)
   let iv <- holding [v,ov] (eval i X.env)
   standAt pos
   holding [v,ov,iv] (setItem ov iv v)
   release [v,ov,iv] []):=by intro _;rfl):PG X (.Subscript o i pos) (gSub to ti t):=by
 intro m5 s σ H v u Q I r h;rw [ha];refine af (dF (qL (ho m5 s σ H _ I h) λ ov s1 x H1 I1 r1 q1=>?_));refine af (dF (qL (hi m5 s1 σ H1 _ I1 q1) λ iv s2 y H2 I2 r2 q2=>?_));refine af (fU (af (dF (thn (hs m5 s2 σ H2 x y v ov iv u _ I2 r1 r2 r q2) λ _ s3 ⟨H3,I3,q3⟩=>?_))));exact wpAny_release ⟨σ,H3,I3,q3⟩
def tAsg (te:TE) (g:TG):TS:=λ D σ H=>te σ H λ x H1=>g x σ H1 D.nx
def JY {tg e:Expr} {te:TE} {g:TG} (he:PE X e te) (hg:PG X tg g) (hs:swapsWithSole [tg] e pos.line X.env=pure false:=by rfl) (hw:swappedStores [tg] e X.env=pure none:=by rfl)
  (h1:(assignEach [tg] X.env).map (·.2)=[assign tg X.env]:=by rfl):PS X (.Assign [tg] e pos) (tAsg te g):=by
 intro m5 s σ H D I h;refine wpAny_Assign_stores (qL (he m5 s σ H _ I h) λ v s1 x H1 I1 r1 q1=>?_) hs hw;rw [h1];exact thn (hg m5 s1 σ H1 x v _ I1 r1 q1) λ _ s2 q=>q
def JW {e:Expr} {te:TE} {pos':Pos} (hN:X.N.Nodup) (hi:X.N[i]?=some x) (hx:Loc X.env.scope x) (he:PE X e te) (hs:swapsWith e (some (.Name x pos')) pos.line X.env=pure false:=by rfl) (hf:X.fn x=true\/X.env.scope.names.lookup x=some .local:=by walk_at "p") :
  PS X (.Assign [.Name x pos'] e pos) (tAsg te (gName i)):=by
 intro m5 s σ H D I h;refine wpAny_Assign_Name (qL (he m5 s σ H _ I h) λ v s1 y H1 I1 r1 q1=>?_) hs;exact JA I1 hN hi hx r1 (λ s2 I2=>⟨_,H1,I2,q1⟩) hf
def tAug (i:Nat) (te:TE) (ti:TIp):TS:=λ D σ H=>vq σ[i]? λ x=>te σ H λ y H1=>ti x y H1 λ z H2=>D.nx (σ.set i (some z)) H2
def zg4 {e:Expr} {te:TE} {op:Operator} {ti:TIp} {pos':Pos} (hN:X.N.Nodup) (hi:X.N[i]?=some x) (hx:Loc X.env.scope x) (he:PE X e te) (ho:PIp X op ti) (hf:X.fn x=true\/X.env.scope.names.lookup x=some .local:=by walk_at "p") :
  PS X (.AugAssign (.Name x pos') op e pos) (tAug i te ti):=by
 intro m5 s σ H D I h;obtain ⟨v,e1,h⟩:=zgs h;obtain ⟨m,hn,hl⟩:=I.loc;have vis:Vis X.env.scope x:=by rcases hx with k|k;exact .inl k;exact .inr (.inl k)
 obtain ⟨u,r,l⟩:=hl i x v hi e1 vis;refine wpAny_AugAssign_Name ?_;have go:wpAny (model X.prog X.w) X.A (eval e X.env) (λ w s₂=>wpAny (model X.prog X.w) X.A (inplaceOp op u w) (λ r s₃=>wpAny (model X.prog X.w) X.A (storeName X.env x r) (λ _=>SP X m5 D .next) X.xe s₃) X.xe s₂) X.xe s:=by
  refine qL (he m5 s σ H _ I h) λ w s1 y H1 I1 r1 q1=>?_;refine qL (ho m5 s1 σ H1 v y u w _ I1 r r1 q1) λ z s2 zv H2 I2 r2 q2=>?_;exact JA I2 hN hi hx r2 (λ s3 I3=>⟨_,H2,I3,q2⟩) hf
 rcases l with ⟨hk,hm⟩|⟨hk,c,hc,hcell⟩
 ·exact wpAny_loadName_local I.ok.kind hk hn hm go
 ·rcases hk with hk|hk
  ·exact wpAny_loadName_cell I.ok.kind hk hc hcell go
  ·rcases hx with k|k
   ·have:X.env.scope.names.lookup x=some .free:=hk;rw [k] at this;cases this
   ·have:X.env.scope.names.lookup x=some .free:=hk;rw [k] at this;cases this
def zgx (to ti te:TE) (tget:V->V->Hp->VK->Prop) (tip:TIp) (tset:zfu):TS:=λ D σ H=>to σ H λ o H1=>ti σ H1 λ i H2=>tget o i H2 λ x H3=>te σ H3 λ y H4=>tip x y H4 λ z H5=>tset o i z H5 λ H6=>D.nx σ H6
def ziu (X:Cx) (t:V->V->Hp->VK->Prop):Prop :=
 ∀ (m5:A4) (s:Ap) (σ:St) (H:Hp) (o i:V) (ov iv:Ao) (Q:VK),Inv X m5 σ H s->RelV o ov->RelV i iv->t o i H Q ->
  wpAny (model X.prog X.w) X.A (getItem ov iv) (EP X m5 σ Q) X.xe s
def zfU {o i e:Expr} {to ti te:TE} {tget:V->V->Hp->VK->Prop} {tip:TIp} {tset:zfu} {op:Operator} {tpos:Pos} (ho:PE X o to) (hi:PE X i ti) (hg:ziu X tget) (he:PE X e te) (hp:PIp X op tip) (hs:zhP X tset)
  (ha:∀ ov iv new,augStore i ov iv new=(do holding [new,ov,iv] (setItem ov iv new);release [new,ov,iv] [];pure .next):=by intros;rfl):PS X (.AugAssign (.Subscript o i tpos) op e pos) (zgx to ti te tget tip tset):=by
 intro m5 s σ H D I h;refine wpAny_AugAssign_SubscriptAny (qL (ho m5 s σ H _ I h) λ ov s1 x1 H1 I1 r1 q1=>?_) ha;refine qL (hi m5 s1 σ H1 _ I1 q1) λ iv s2 x2 H2 I2 r2 q2=>?_;refine qL (hg m5 s2 σ H2 x1 x2 ov iv _ I2 r1 r2 q2) λ old s3 x3 H3 I3 r3 q3=>?_;refine qL (he m5 s3 σ H3 _ I3 q3) λ v s4 x4 H4 I4 r4 q4=>?_;refine qL (hp m5 s4 σ H4 x3 x4 old v _ I4 r3 r4 q4) λ new s5 x5 H5 I5 r5 q5=>?_;exact thn (hs m5 s5 σ H5 x1 x2 x5 ov iv new _ I5 r1 r2 r5 q5) λ _ s6 ⟨H6,I6,q6⟩=>⟨σ,H6,I6,q6⟩
def ipI (f:Int->Int->Int):TIp:=λ x y H Q=>iq x λ i=>iq y λ j=>Q (.int (f i j)) H
def zhw:PIp X .Add (ipI λ i j=>i + j):=by
 intro m5 s σ H x y v u Q I r1 r2 h;obtain ⟨i,j,e1,e2,q⟩:=QL h;subst e1;subst e2;obtain ⟨t,rfl⟩:=r1;obtain ⟨t',rfl⟩:=r2;exact iadd_int ⟨.int _,H,I.tok _,⟨_,rfl⟩,q⟩
def zhv:PIp X .Sub (ipI λ i j=>i - j):=by
 intro m5 s σ H x y v u Q I r1 r2 h;obtain ⟨i,j,e1,e2,q⟩:=QL h;subst e1;subst e2;obtain ⟨t,rfl⟩:=r1;obtain ⟨t',rfl⟩:=r2;exact isub_int ⟨.int _,H,I.tok _,⟨_,rfl⟩,q⟩
end
section
variable {X:Cx} {pos:Pos}
def zgQ (c:TT) (tb:TS):TS:=λ D σ H=>∃ W:Nat->St->Hp->Prop,(∃ m,W m σ H)/\∀ m σ H,W m σ H ->
 c σ H λ b H1=>if b=true then ∃ N:St->Hp->Prop,(∀ σ' H',N σ' H'->∃ m',m' < m/\W m' σ' H')/\tb { D with nx:=N,ct:=N,bk:=D.nx } σ H1 else D.nx σ H1
def zar {c:Expr} {body:List Stmt} {tc:TT} {tb:TS} (hp:PassesOwn (model X.prog X.w) X.A X.env X.xe) (hc:PT X c tc) (hb:PSs X body tb):PS X (.While c body [] pos) (zgQ tc tb):=by
 intro m5 s σ H D I h;obtain ⟨W,⟨m0,w0⟩,turn⟩:=h;refine wpAny_While (codeAny_whileLoop (λ n s'=>∃ σ' H',Inv X m5 σ' H' s'/\W n σ' H') ?_ m0 ⟨σ,H,I,w0⟩);rintro n s1 ⟨σ1,H1,I1,w1⟩;refine b9 hp (thn (hc m5 s1 σ1 H1 _ I1 (turn n σ1 H1 w1)) λ b s2 ⟨H2,I2,q2⟩=>?_);cases b with
 | true =>
  obtain ⟨N,hN,q2⟩:=q2;rw [ar rfl];refine b9 hp (thn (hb m5 s2 σ1 H2 _ I2 q2) λ f s3 q3=>?_);cases f with
  | next =>
   obtain ⟨σ3,H3,I3,n3⟩:=q3;obtain ⟨m',hm,w3⟩:=hN σ3 H3 n3;exact ⟨m',hm,σ3,H3,I3,w3⟩
  | cont =>
   obtain ⟨σ3,H3,I3,n3⟩:=q3;obtain ⟨m',hm,w3⟩:=hN σ3 H3 n3;exact ⟨m',hm,σ3,H3,I3,w3⟩
  | brk=>exact q3
  | ret v=>exact q3
 | false =>
  rw [ap aC];exact dc ⟨σ1,H2,I2,q2⟩
end
structure It where
 go:Nat->Hp->Prop
 yld:Nat->Hp->V->Hp->Prop
 stop:Nat->Hp->Prop
def QQ (X:Cx) (m5:A4) (H:Hp) (b:Addr):Prop :=
 H b=none/\b≠X.env.locals/\b ∉ X.fs/\(b∈X.ex\/X.s₀.heap.objs.size<=b)/\(∀ x c,X.env.cells.lookup x=some c->c≠b)/\∀ p∈X.pn ++ m5,p.1≠b
def Inv.fpOk {H H':Hp} (I:Inv X m5 σ H s) (hb:s.heap.objs.size<=b) (hn:H' b=none):QQ X m5 H' b:=by
 refine ⟨hn,cE (aM I.lt hb),I.nofs hb,.inr (ba I.sz hb),λ x c e z=>?_,λ p hp z=>?_⟩
 ·obtain ⟨v,q⟩:=I.cell x c e;exact absurd (aM q.lt (by rw [z];exact hb)) (cR _)
 ·exact absurd (aM (aA (I.pin p hp).1) (by rw [z];exact hb)) (cR _)
structure Turn (P:Ah) (w:World) (K:A0) (tg:Expr) (J:It) (fp:Ae) (it:Addr) (tn:Nat->Heap->Prop):Prop where
 mem:it∈fp
 obj:∀ i h,tn i h->∀ b∈fp,∃ o,h.get? b=some o/\∀ v,o.data≠.cell v
 keep:∀ i h h',tn i h->(∀ b∈fp,∀ o,h.get? b=some o->h'.get? b=some o)->tn i h'
 item:∀ (X:Cx),X.prog=P->X.w=w->X.K=K->X.calm=true->∀ (i:Nat) (m5:A4) (s:Ap) (σ:St) (H:Hp) (E:A5),Inv X m5 σ H s->(∀ b∈fp,QQ X m5 H b)->tn i s.heap->J.go i H ->
  wpAny (model P w) X.A (pyNext (.ref it)) (λ r s1=>∃ u,r=some u /\
   wpAny (model P w) X.A (letOwnedTupleGo tg (.ref it) u) (λ _ s2=>∃ x H',Inv X m5 σ H' s2/\RelV x u/\J.yld i H x H'/\tn (i + 1) s2.heap/\∀ b∈fp,H' b=none) E s1) E s
 done:∀ (X:Cx),X.prog=P->X.w=w->X.K=K->X.calm=true->∀ (i:Nat) (m5:A4) (s:Ap) (σ:St) (H:Hp) (E:A5),Inv X m5 σ H s->(∀ b∈fp,QQ X m5 H b)->tn i s.heap->J.stop i H ->
  wpAny (model P w) X.A (pyNext (.ref it)) (λ r s1=>r=none/\Inv X m5 σ H s1) E s
 self:∀ (A:Aq) (i:Nat) (s:Ap) (Q:A5) (E:A5),tn i s.heap->Q (.ref it) s->wpAny (model P w) A (pyIter (.ref it)) Q E s
abbrev TI:=St->Hp->(It->Hp->Prop)->Prop
def PIE (X:Cx) (m5:A4) (σ:St) (tg:Expr) (R:It->Hp->Prop) (itv:Ao) (s2:Ap):Prop :=
 ∃ (it:Addr) (fp:Ae) (tn:Nat->Heap->Prop) (J:It) (H':Hp),itv=.ref it/\Inv X m5 σ H' s2/\Turn X.prog X.w X.K tg J fp it tn/\tn 0 s2.heap/\(∀ b∈fp,QQ X m5 H' b)/\R J H'
def PI (X:Cx) (tg iter:Expr) (wi:TI):Prop :=
 ∀ (m5:A4) (s:Ap) (σ:St) (H:Hp) (R:It->Hp->Prop),Inv X m5 σ H s->wi σ H R ->
  wpAny (model X.prog X.w) X.A (eval iter X.env) (λ v s1=>wpAny (model X.prog X.w) X.A (pyIter v) (PIE X m5 σ tg R) X.xe s1) X.xe s
theorem zcC {it:Addr} {o:Obj} {n:String} {vs:Af} {Q:Ai} (ho:s.heap.get? it=some o) (hc:o.cls=.type n) (hd:o.data=.fields vs)
  (hn:["enumerate","zip","dict_itemiterator","dict_reverseitemiterator","odict_iterator","itertools.zip_longest","itertools.pairwise"].contains n=false) (hQ:Q () s):wpAny M A (letOwnedTupleGo tg (.ref it) u) Q E s:=by
 unfold letOwnedTupleGo;cases tg <;> first
  | exact aD hQ
  | (cases u <;> first
    | exact aD hQ
    | (refine af (wpAny_load ho ?_)
       rw [hc,hd];show wpAny M A (if (["enumerate","zip","dict_itemiterator","dict_reverseitemiterator","odict_iterator","itertools.zip_longest","itertools.pairwise"].contains n && vs[0]? == some (rawInt _))=true then _ else _) Q E s
       rw [ap (by intro h;rw [hn,Bool.false_and] at h;cases h)];exact aD hQ))
noncomputable def Itl (K:A0) (a:Addr):It :=
 ⟨λ i H=>∃ xs x,SqL K H a xs/\xs[i]?=some x,λ i H x H'=>H'=H/\∀ xs,SqL K H a xs->xs[i]?=some x,λ i H=>∃ xs,SqL K H a xs/\xs.length<=i⟩
noncomputable def Itt (K:A0) (a:Addr):It :=
 ⟨λ i H=>∃ xs x,SqT K H a xs/\xs[i]?=some x,λ i H x H'=>H'=H/\∀ xs,SqT K H a xs->xs[i]?=some x,λ i H=>∃ xs,SqT K H a xs/\xs.length<=i⟩
noncomputable def Itr (lo:Int) (n:Nat):It:=⟨λ i _=>i < n,λ i H x H'=>H'=H/\x=.int (lo + i),λ i _=>n<=i⟩
def zc3 (a it:Addr):Turn P w K tg (Itl K a) [it] it (λ i h=>h.IsListIter it a i) where
 mem:=by simp
 obj:=λ i h st b hb=>by
  have e:b=it:=by simpa using hb
  subst e;obtain ⟨o,e,c,d⟩:=st;exact ⟨o,e,λ v z=>by rw [d] at z;cases z⟩
 keep:=λ i h h' st k=>st.at λ o e=>k it (by simp) o e
 item:=by
  intro X hP hw hK hc i m5 s σ H E I hf st hg;subst hP hw hK;obtain ⟨xs,x,hq,hx⟩:=hg;obtain ⟨mM,rv,p,hz⟩:=I.list hq;obtain ⟨u,hu,ru⟩:=rv.get hx;obtain ⟨f0,f1,f2,f3,f4,f5⟩:=hf it (by simp);refine wpAny_pyNext_list_item st p.isList (x:=u) (by simpa using hu) λ h' st' sb=>?_;have I1:Inv X m5 σ H { s with heap:=h' }:=I.turned (t':=s.toks) (λ b o hb e=>(sb.2 b hb).trans e) f0 f1 f3 f4 f5;obtain ⟨o,e,c,d⟩:=id st';exact ⟨u,rfl,zcC (s:={ s with heap:=h' }) e c d (by decide) ⟨x,H,I1,ru,⟨rfl,λ ys hy=>by rw [I.list_inj hy hq];exact hx⟩,st',λ b hb=>(hf b hb).1⟩⟩
 done:=by
  intro X hP hw hK hc i m5 s σ H E I hf st hg;subst hP hw hK;obtain ⟨xs,hq,hx⟩:=hg;obtain ⟨mM,rv,p,hz⟩:=I.list hq;obtain ⟨f0,f1,f2,f3,f4,f5⟩:=hf it (by simp);have hl:=rv.length;exact wpAny_pyNext_list_end (I.ok.hd hc) st p.isList (by simp;lia) λ h' eb=>⟨rfl,I.turned (t':=s.toks) (λ b o hb e=>eb b o hb e) f0 f1 f3 f4 f5⟩
 self:=λ _ _ _ _ _ st h=>wpAny_pyIter_listiter st h
def zbh (a it:Addr):Turn P w K tg (Itt K a) [it] it (λ i h=>h.IsTupleIter it a i) where
 mem:=by simp
 obj:=λ i h st b hb=>by
  have e:b=it:=by simpa using hb
  subst e;obtain ⟨o,e,c,d⟩:=st;exact ⟨o,e,λ v z=>by rw [d] at z;cases z⟩
 keep:=λ i h h' st k=>st.at λ o e=>k it (by simp) o e
 item:=by
  intro X hP hw hK hc i m5 s σ H E I hf st hg;subst hP hw hK;obtain ⟨xs,x,hq,hx⟩:=hg;obtain ⟨mM,rv,p,hz⟩:=I.tuple hq;obtain ⟨u,hu,ru⟩:=rv.get hx;obtain ⟨f0,f1,f2,f3,f4,f5⟩:=hf it (by simp);refine wpAny_pyNext_tuple_item st (show s.heap.IsTuple a mM.toArray from p) (x:=u) (by simpa using hu) λ h' st' sb=>?_;have I1:Inv X m5 σ H { s with heap:=h' }:=I.turned (t':=s.toks) (λ b o hb e=>(sb.2 b hb).trans e) f0 f1 f3 f4 f5;obtain ⟨o,e,c,d⟩:=id st';exact ⟨u,rfl,zcC (s:={ s with heap:=h' }) e c d (by decide) ⟨x,H,I1,ru,⟨rfl,λ ys hy=>by rw [I.tuple_inj hy hq];exact hx⟩,st',λ b hb=>(hf b hb).1⟩⟩
 done:=by
  intro X hP hw hK hc i m5 s σ H E I hf st hg;subst hP hw hK;obtain ⟨xs,hq,hx⟩:=hg;obtain ⟨mM,rv,p,hz⟩:=I.tuple hq;obtain ⟨f0,f1,f2,f3,f4,f5⟩:=hf it (by simp);have hl:=rv.length;exact wpAny_pyNext_tuple_end (I.ok.hd hc) st (show s.heap.IsTuple a mM.toArray from p) (by simp;lia) λ h' eb=>⟨rfl,I.turned (t':=s.toks) (λ b o hb e=>eb b o hb e) f0 f1 f3 f4 f5⟩
 self:=λ _ _ _ _ _ st h=>wpAny_pyIter_tupleiter st h
def zbi (it:Addr) (lo:Int) (n:Nat):Turn P w K tg (Itr lo n) [it] it (λ i h=>IsRangeIter h it (lo + (i:Nat) * 1) ((n:Int) - (i:Nat)) 1) where
 mem:=by simp
 obj:=λ i h st b hb=>by
  have e:b=it:=by simpa using hb
  subst e;exact ⟨_,st,λ v z=>by
   have z':Data.fields _=Data.cell v:=z;cases z'⟩
 keep:=λ i h h' st k=>k it (by simp) _ st
 item:=by
  intro X hP hw hK hc i m5 s σ H E I hf st hg;subst hP hw hK;obtain ⟨f0,f1,f2,f3,f4,f5⟩:=hf it (by simp);have W:=Walks.range (prog:=X.prog) (w:=X.w) (I.ok.hd hc) it lo 1 n;refine W.item i s _ _ hg st λ v h' tk hv st' kk=>?_;obtain ⟨t,rfl⟩:=hv;have I1:Inv X m5 σ H { s with heap:=h',toks:=tk }:=I.turned (λ b o hb e=>kk b o (by simpa using hb) e) f0 f1 f3 f4 f5;refine ⟨_,rfl,zcC (s:={ s with heap:=h',toks:=tk }) (n:="range_iterator") st' rfl rfl (by decide) ⟨.int (lo + i),H,I1,⟨t,?_⟩,⟨rfl,rfl⟩,st',λ b hb=>(hf b hb).1⟩⟩;rw [Int.mul_one]
 done:=by
  intro X hP hw hK hc i m5 s σ H E I hf st hg;subst hP hw hK;obtain ⟨f0,f1,f2,f3,f4,f5⟩:=hf it (by simp);exact wpAny_pyNext_range_end (I.ok.hd hc) st (by have:n<=i:=hg;lia) λ h' eb=>⟨rfl,I.turned (t':=s.toks) (λ b o hb e=>eb b o hb e) f0 f1 f3 f4 f5⟩
 self:=λ _ _ _ _ _ st h=>wpAny_pyIter_rangeiter st h
section
variable {X:Cx} {tg:Expr}
def zev {R:It->Hp->Prop} {lo hi:Int} {t u v:Tok} {tk:Nat} (I:Inv X m5 σ H s) (h1:-(2 ^ 62)<=lo) (h2:lo < 2 ^ 62) (h3:-(2 ^ 62)<=hi) (h4:hi < 2 ^ 62)
  (q:R (Itr lo (hi - lo).toNat) H):wpAny (model X.prog X.w) X.A (pyIter (.ref s.heap.objs.size)) (PIE X m5 σ tg R) E { s with heap:=s.heap.push { cls:=.type "range",data:=.fields #[.int lo t,.int hi u,.int 1 v] },toks:=tk }:=by
 refine wpAny_pyIter_range (IsRange.new ..) (small_one h1 h2 h3 h4) ?_;have I1:Inv X m5 σ H { s with heap:=s.heap.push { cls:=.type "range",data:=.fields #[.int lo t,.int hi u,.int 1 v] },toks:=tk }:=I.kept λ b o e=>aj _ e;refine ⟨(s.heap.push { cls:=.type "range",data:=.fields #[.int lo t,.int hi u,.int 1 v] }).objs.size,[(s.heap.push { cls:=.type "range",data:=.fields #[.int lo t,.int hi u,.int 1 v] }).objs.size],_,_,H,rfl,
  I1.kept (t':=tk) λ b o e=>aj _ e,zbi _ lo (hi - lo).toNat,?_,λ b hb=>?_,q⟩
 ·have e1:lo + ((0:Nat):Int) * 1=lo:=by simp
  have e2:(((hi - lo).toNat:Nat):Int) - ((0:Nat):Int)=Builtin.Range.rangeSize lo hi 1:=by rw [rangeSize_one];split <;> lia
  show IsRangeIter _ _ (lo + ((0:Nat):Int) * 1) ((((hi - lo).toNat:Nat):Int) - ((0:Nat):Int)) 1
  rw [e1,e2];exact aE _ rfl
 ·have e:b=(s.heap.push { cls:=.type "range",data:=.fields #[.int lo t,.int hi u,.int 1 v] }).objs.size:=by simpa using hb
  subst e;exact I1.fpOk (au _) (I1.hok.fresh (au _))
def iRng1 (ta:TA):TI:=λ σ H R=>ta σ H λ vs H1=>lq vs λ v=>iq v λ j=>-(2 ^ 62)<=j/\j < 2 ^ 62/\R (Itr 0 j.toNat) H1
def zds {a:Expr} {ta:TA} {p pos:Pos} (hg:Gl X "range") (hm:X.mg "range"=none) (ha:PA X [a] ta) (hs:starEach [a] X.env=[(false,eval a X.env)]:=by rfl):PI X tg (.Call (.Name "range" p) [a] [] pos) (iRng1 ta):=by
 intro m5 s σ H R I h;refine Call_ (wQ I hg hm boot_range (a8 (w6 (ha pos m5 s σ H _ I h) λ us s1 vs H1 I1 r1 q1=>?_) hs rfl));obtain ⟨v,e,q0⟩:=zeS q1;clear q1;obtain ⟨j,e2,q1,q2,q⟩:=Z8 q0;subst e2;subst e;cases r1 with
 | cons r rr =>
  cases rr;obtain ⟨t,rfl⟩:=r;exact call_range_1 (zev I1 (by lia) (by lia) q1 q2 (by simpa using q))
def tFor (wi:TI) (g:TG) (tb:TS):TS:=λ D σ H=>wi σ H λ J H1=>∃ W:Nat->Nat->St->Hp->Prop,(∃ m,W 0 m σ H1)/\∀ i m σ H,W i m σ H ->
 (J.stop i H/\D.nx σ H)\/(J.go i H/\∃ N:St->Hp->Prop,(∀ σ' H',N σ' H'->∃ m',m' < m/\W (i + 1) m' σ' H')/\∀ x H',J.yld i H x H'->g x σ H' λ σ2 H2=>tb { D with nx:=N,ct:=N,bk:=D.nx } σ2 H2)
noncomputable def J1 (fp:Ae) (h:Heap):List (Addr × Obj):=fp.filterMap λ b=>(h.get? b).map λ o=>(b,o)
def wP {fp:Ae} {h:Heap} {o:Obj} (hb:b∈fp) (e:h.get? b=some o):(b,o)∈J1 fp h:=dZ.mpr ⟨b,hb,by rw [e];rfl⟩
def zdx {fp:Ae} {h:Heap} {p:Addr × Obj} (hp:p∈J1 fp h):p.1∈fp/\h.get? p.1=some p.2:=by
 obtain ⟨b,hb,e⟩:=dZ.mp hp;cases q:h.get? b with
 | none=>rw [q] at e;cases e
 | some o =>
  rw [q] at e;have e':(b,o)=p:=aT e;subst e';exact ⟨hb,q⟩
def Inv.pinned {fp:Ae} (I:Inv X m5 σ H s) (hf:∀ b∈fp,QQ X m5 H b) (ho:∀ b∈fp,∃ o,s.heap.get? b=some o/\∀ v,o.data≠.cell v):Inv X (m5 ++ J1 fp s.heap) σ H s :=
 I.pins_of λ p hp=>(aH.mp hp).elim (λ z=>I.pin p (aY _ z)) λ z=>by
  obtain ⟨hb,e⟩:=zdx z;obtain ⟨f0,f1,f2,_⟩:=hf p.1 hb;obtain ⟨o,e',d⟩:=ho p.1 hb;rw [e] at e';cases e';exact ⟨e,f0,f1,f2,d⟩
def Inv.unpinned {m5 pl:A4} (I:Inv X (m5 ++ pl) σ H s):Inv X m5 σ H s:=I.pins_of λ p hp=>I.pin p (aY _ (bJ _ hp))
theorem ql {iter:Expr} {body:List Stmt} {wi:TI} {g:TG} {tb:TS} (hp:PassesOwn (model X.prog X.w) X.A X.env X.xe) (hc:X.calm=true) (hi:PI X tg iter wi) (hg:PG X tg g) (hb:PSs X body tb)
  (hs:∀ x,foldedSetIterable iter X.env x=pure x:=by intro _;rfl):PS X (.For tg iter body [] pos) (tFor wi g tb):=by
 intro m5 s σ H D I h;refine wpAny_For (thn (hi m5 s σ H _ I h) λ v s1 h1=>thn h1 λ itv s2 h2=>?_) hs;obtain ⟨it,fp,tn,J,H2,e,I2,T,st2,f2,W,⟨m0,w0⟩,turn⟩:=h2;subst e;have stat:∀ {H':Hp},(∀ b∈fp,H' b=none)->∀ b∈fp,QQ X m5 H' b:=λ hn b hb=>⟨hn b hb,(f2 b hb).2⟩;refine codeAny_forLoop_any (λ n s'=>∃ i σ' H',Inv X m5 σ' H' s'/\tn i s'.heap/\(∀ b∈fp,H' b=none)/\W i n σ' H') ?_ m0 ⟨0,σ,H2,I2,st2,λ b hb=>(f2 b hb).1,w0⟩;rintro n s3 ⟨i,σ3,H3,I3,st3,fr3,w3⟩;rcases turn i n σ3 H3 w3 with ⟨stop,qn⟩|⟨go,N,hN,step⟩
 ·refine b9 hp (thn (T.done X rfl rfl rfl hc i m5 s3 σ3 H3 X.xe I3 (stat fr3) st3 stop) λ r s4 ⟨hr,I4⟩=>?_);subst hr;exact dc ⟨σ3,H3,I4,qn⟩
 ·refine b9 hp (thn (T.item X rfl rfl rfl hc i m5 s3 σ3 H3 X.xe I3 (stat fr3) st3 go) λ r s4 ⟨u,hr,h4⟩=>?_);subst hr;refine b9 hp (thn h4 λ _ s5 ⟨x,H5,I5,r5,y5,st5,fr5⟩=>?_);have I5':=I5.pinned (stat fr5) (T.obj _ _ st5);refine b9 hp (thn (hg _ s5 σ3 H5 x u _ I5' r5 (step x H5 y5)) λ _ s6 ⟨σ6,H6,I6,q6⟩=>?_);refine b9 hp (thn (hb _ s6 σ6 H6 _ I6 q6) λ f s7 q7=>?_);have again:∀ {σ7:St} {H7:Hp},Inv X (m5 ++ J1 fp s5.heap) σ7 H7 s7->N σ7 H7->∃ m,m < n/\∃ i σ' H',Inv X m5 σ' H' s7/\tn i s7.heap/\(∀ b∈fp,H' b=none)/\W i m σ' H':=λ {σ7 H7} I7 n7=>by
   obtain ⟨m',hm,w7⟩:=hN σ7 H7 n7;refine ⟨m',hm,i + 1,σ7,H7,I7.unpinned,T.keep _ _ _ st5 λ b hb o e=>(I7.pin (b,o) (aY _ (aY _ (wP hb e)))).1,λ b hb=>?_,w7⟩;obtain ⟨o,e,d⟩:=T.obj _ _ st5 b hb;exact (I7.pin (b,o) (aY _ (aY _ (wP hb e)))).2.1
  cases f with
  | next=>obtain ⟨σ7,H7,I7,n7⟩:=q7;exact again I7 n7
  | cont=>obtain ⟨σ7,H7,I7,n7⟩:=q7;exact again I7 n7
  | brk=>obtain ⟨σ7,H7,I7,q7⟩:=q7;exact ⟨σ7,H7,I7.unpinned,q7⟩
  | ret v=>obtain ⟨x7,σ7,H7,I7,r7,q7⟩:=q7;exact ⟨x7,σ7,H7,I7.unpinned,r7,q7⟩
end
abbrev R2:=V->V->Hp->VK->Prop
def OpR (X:Cx) (f:An) (r:R2):Prop :=
 ∀ (m5:A4) (s:Ap) (σ:St) (H:Hp) (x y:V) (v u:Ao) (Q:VK),Inv X m5 σ H s->RelV x v->RelV y u->r x y H Q ->
  wpAny (model X.prog X.w) X.A (f v u) (EP X m5 σ Q) X.xe s
def UnR (X:Cx) (f:Value->Sem Value) (r:V->Hp->VK->Prop):Prop :=
 ∀ (m5:A4) (s:Ap) (σ:St) (H:Hp) (x:V) (v:Ao) (Q:VK),Inv X m5 σ H s->RelV x v->r x H Q ->
  wpAny (model X.prog X.w) X.A (f v) (EP X m5 σ Q) X.xe s
def CallR (X:Cx) (f:Ao) (r:List V->Hp->VK->Prop):Prop :=
 ∀ (m5:A4) (s:Ap) (σ:St) (H:Hp) (xs:Ar) (us:A9) (Q:VK),Inv X m5 σ H s->Vals xs us->r xs H Q ->
  wpAny (model X.prog X.w) X.A (call f us) (EP X m5 σ Q) X.xe s
def ziN (X:Cx) (r:V->Hp->(Bool->Hp->Prop)->Prop):Prop :=
 ∀ (m5:A4) (s:Ap) (σ:St) (H:Hp) (x:V) (v:Ao) (Q:Bool->Hp->Prop),Inv X m5 σ H s->RelV x v->r x H Q ->
  wpAny (model X.prog X.w) X.A (truthy v) (TP X m5 σ Q) X.xe s
def tOp (r:R2) (ta tb:TE):TE:=λ σ H Q=>ta σ H λ x H1=>tb σ H1 λ y H2=>r x y H2 Q
def tUn (r:V->Hp->VK->Prop) (ta:TE):TE:=λ σ H Q=>ta σ H λ x H1=>r x H1 Q
def rI (C:Int->Int->Prop) (g:Int->Int->V):R2:=λ x y H Q=>iq x λ i=>iq y λ j=>C i j/\Q (g i j) H
def rI0 (g:Int->Int->V):R2:=λ x y H Q=>iq x λ i=>iq y λ j=>Q (g i j) H
def rU (g:Int->V):V->Hp->VK->Prop:=λ x H Q=>iq x λ i=>Q (g i) H
section
variable {X:Cx} {a b c:Expr} {ta tb tc:TE} {pos:Pos}
def zhK (ha:PE X a ta) (hb:PE X b tb) {R:V->V->Hp->Prop} (I:Inv X m5 σ H s)
  (h:ta σ H λ x H1=>tb σ H1 λ y H2=>R x y H2)
  (hf:∀ v u s2 x y H2,Inv X m5 σ H2 s2->RelV x v->RelV y u->R x y H2->wpAny (model X.prog X.w) X.A (f v u) Q X.xe s2) :
  wpAny (model X.prog X.w) X.A (eval a X.env) (λ v s₁=>wpAny (model X.prog X.w) X.A (eval b X.env) (λ u s₂=>wpAny (model X.prog X.w) X.A (f v u) Q X.xe s₂) X.xe s₁) X.xe s:=by
 refine qL (ha m5 s σ H _ I h) λ v s1 x H1 I1 r1 q1=>?_;refine qL (hb m5 s1 σ H1 _ I1 q1) λ u s2 y H2 I2 r2 q2=>?_;exact hf v u s2 x y H2 I2 r1 r2 q2
def zt {op:Operator} {r:R2} (ho:OpR X (binaryOp op) r) (ha:PE X a ta) (hb:PE X b tb):PE X (.BinOp a op b pos) (tOp r ta tb):=by
 intro m5 s σ H Q I h;exact wpAny_BinOp (zhK ha hb I h λ v u s2 x y H2 I2 rx ry q=>ho m5 s2 σ H2 x y v u Q I2 rx ry q)
def Zc {op:UnaryOp} {r:V->Hp->VK->Prop} (ho:UnR X (unaryOp op) r) (ha:PE X a ta):PE X (.UnaryOp op a pos) (tUn r ta):=by
 intro m5 s σ H Q I h;exact UnaryOp_ (qL (ha m5 s σ H _ I h) λ v s1 x H1 I1 r1 q1=>ho m5 s1 σ H1 x v Q I1 r1 q1)
def opI {C:Int->Int->Prop} {g:Int->Int->Int}
  (rule:∀ (i j:Int) (t u:Tok) (s:Ap) (Q:A5) (E:A5),C i j->Q (.int (g i j) s.toks) { s with toks:=s.toks + 1 }->wpAny (model X.prog X.w) X.A (f (.int i t) (.int j u)) Q E s) :
  OpR X f (rI C λ i j=>.int (g i j)):=by
 intro m5 s σ H x y v u Q I rx ry h;obtain ⟨i,j,rfl,rfl,hc,q⟩:=QL h;obtain ⟨t,rfl⟩:=rx;obtain ⟨t',rfl⟩:=ry;exact rule i j t t' s _ _ hc ⟨.int (g i j),H,I.tok _,⟨_,rfl⟩,q⟩
def zh9 {g:Int->Int->Int}
  (rule:∀ (i j:Int) (t u:Tok) (s:Ap) (Q:A5) (E:A5),Q (.int (g i j) s.toks) { s with toks:=s.toks + 1 }->wpAny (model X.prog X.w) X.A (f (.int i t) (.int j u)) Q E s) :
  OpR X f (rI0 λ i j=>.int (g i j)):=by
 intro m5 s σ H x y v u Q I rx ry h;obtain ⟨i,j,rfl,rfl,q⟩:=QL h;obtain ⟨t,rfl⟩:=rx;obtain ⟨t',rfl⟩:=ry;exact rule i j t t' s _ _ ⟨.int (g i j),H,I.tok _,⟨_,rfl⟩,q⟩
def zhd {g:Int->Int->Bool}
  (rule:∀ (i j:Int) (t u:Tok) (s:Ap) (Q:A5) (E:A5),Q (.bool (g i j)) s->wpAny (model X.prog X.w) X.A (f (.int i t) (.int j u)) Q E s) :
  OpR X f (rI0 λ i j=>.bl (g i j)):=by
 intro m5 s σ H x y v u Q I rx ry h;obtain ⟨i,j,rfl,rfl,q⟩:=QL h;obtain ⟨t,rfl⟩:=rx;obtain ⟨t',rfl⟩:=ry;exact rule i j t t' s _ _ ⟨.bl (g i j),H,I,rfl,q⟩
def ziP (i j:Int):Prop:=0 < j/\j < 1073741824
def ziy (i j:Int):Prop:=0<=j/\j<=1000000/\i.natAbs < 2 ^ 64
def CMul (i j:Int):Prop:=(-(2 ^ 64) < i/\i < 2 ^ 64)\/(-(2 ^ 64) < j/\j < 2 ^ 64)
def CMul.ok {i j:Int} (h:CMul i j):IntMulOk i j:=by
 rcases h with ⟨h1,h2⟩|⟨h1,h2⟩
 ·exact .of_left (intBits_le_64 h1 h2)
 ·exact .of_right (intBits_le_64 h1 h2)
def op_add:OpR X (binaryOp .Add) (rI0 λ i j=>.int (i + j)):=zh9 λ _ _ _ _ _ _ _ q=>add_int q
def xC:OpR X (binaryOp .Sub) (rI0 λ i j=>.int (i - j)):=zh9 λ _ _ _ _ _ _ _ q=>sub_int q
def zf0:OpR X (binaryOp .FloorDiv) (rI ziP λ i j=>.int (i / j)):=opI λ i j _ _ _ _ _ hc q=>by
 have h1:(0:Int) < j:=hc.1;have h2:j < 1073741824:=hc.2;exact floordiv_int (by lia) (by rw [db i (by lia)];exact q) (.inl (fu (by lia)))
def qq:OpR X (binaryOp .Mod) (rI (λ _ j=>0 < j) λ i j=>.int (i % j)):=opI λ i j _ _ _ _ _ hc q=>by
 have h1:(0:Int) < j:=hc;exact mod_int' (by lia) (by rw [Int.fmod_eq_emod_of_nonneg i (by lia)];exact q)
def zhc:OpR X (binaryOp .Pow) (rI ziy λ i j=>.int (i ^ j.toNat)):=opI λ _ _ _ _ _ _ _ hc q=>pow_int_small hc.1 hc.2.1 hc.2.2 q
def unI {f:Value->Sem Value} {g:Int->Int}
  (rule:∀ (i:Int) (t:Tok) (s:Ap) (Q:A5) (E:A5),Q (.int (g i) s.toks) { s with toks:=s.toks + 1 }->wpAny (model X.prog X.w) X.A (f (.int i t)) Q E s) :
  UnR X f (rU λ i=>.int (g i)):=by
 intro m5 s σ H x v Q I rx h;obtain ⟨i,rfl,q⟩:=Z8 h;obtain ⟨t,rfl⟩:=rx;exact rule i t s _ _ ⟨.int (g i),H,I.tok _,⟨_,rfl⟩,q⟩
def xY:UnR X (unaryOp .USub) (rU λ i=>.int (-i)):=unI λ _ _ _ _ _ q=>neg_int q
end
noncomputable def zhZ:V->V->Bool
 | .non,.non=>true | .non,.int _=>true | .int _,.non=>true | .non,.bl _=>true | .bl _,.non=>true | .non,.str _=>true | .str _,.non=>true
 | .int _,.int _=>true | .bl _,.bl _=>true | .str _,.str _=>true | .byt _,.byt _=>true
 | .int _,.str _=>true | .str _,.int _=>true | .bl _,.str _=>true | .str _,.bl _=>true
 | _,_=>false
def rEq:R2:=λ x y H Q=>zhZ x y=true/\Q (.bl (decide (x=y))) H
def rNe:R2:=λ x y H Q=>zhZ x y=true/\Q (.bl (!decide (x=y))) H
def zcM {i j:Int}:decide (V.int i=V.int j)=(i == j):=by
 rw [dE];simp
def zfh {i j:Bool}:decide (V.bl i=V.bl j)=(i == j):=by
 rw [dE];simp
def zcL {i j:Str}:decide (V.str i=V.str j)=(i == j):=by
 rw [dE];simp
def zcN {i j:Array UInt8}:decide (V.byt i=V.byt j)=(i.toList == j.toList):=by
 rw [dE];cases i;cases j;simp
section
variable {X:Cx} {a b c:Expr} {ta tb tc:TE} {pos:Pos}
def qc {Q:VK} {k k':Bool} (I:Inv X m5 σ H s) (q:Q (.bl k) H) (e:k=k'):EP X m5 σ Q (.bool k') s:=by
 subst e;exact ⟨.bl k,H,I,rfl,q⟩
def op_eq:OpR X (compareOp .Eq) rEq:=by
 intro m5 s σ H x y v u Q I rx ry h;obtain ⟨hs,q⟩:=h;cases x with
 | non =>
  cases rx;cases y with
  | non=>cases ry;exact PySem.EqNone.eq_none_none (qc I q (by simp))
  | bl j=>cases ry;exact PySem.EqNone.eq_none_bool (qc I q (by simp))
  | int j=>obtain ⟨t',rfl⟩:=ry;exact PySem.EqNone.eq_none_int (qc I q (by simp))
  | str j=>obtain ⟨t',rfl⟩:=ry;exact PySem.EqNone.eq_none_str (qc I q (by simp))
  | _=>exact absurd (show false=true from hs) aC
 | bl i =>
  cases rx;cases y with
  | non=>cases ry;exact PySem.EqNone.eq_bool_none (qc I q (by simp))
  | bl j=>cases ry;exact eq_bool (qc I q zfh)
  | str j=>obtain ⟨t',rfl⟩:=ry;exact PySem.EqMixed.eq_bool_str (qc I q (by simp))
  | _=>exact absurd (show false=true from hs) aC
 | int i =>
  obtain ⟨t,rfl⟩:=rx;cases y with
  | non=>cases ry;exact PySem.EqNone.eq_int_none (qc I q (by simp))
  | int j=>obtain ⟨t',rfl⟩:=ry;exact eq_int (qc I q zcM)
  | str j=>obtain ⟨t',rfl⟩:=ry;exact PySem.EqMixed.eq_int_str (qc I q (by simp))
  | _=>exact absurd (show false=true from hs) aC
 | str i =>
  obtain ⟨t,rfl⟩:=rx;cases y with
  | non=>cases ry;exact PySem.EqNone.eq_str_none (qc I q (by simp))
  | bl j=>cases ry;exact PySem.EqMixed.eq_str_bool (qc I q (by simp))
  | int j=>obtain ⟨t',rfl⟩:=ry;exact PySem.EqMixed.eq_str_int (qc I q (by simp))
  | str j=>obtain ⟨t',rfl⟩:=ry;exact eq_str (qc I q zcL)
  | _=>exact absurd (show false=true from hs) aC
 | byt i =>
  obtain ⟨t,rfl⟩:=rx;cases y with
  | byt j=>obtain ⟨t',rfl⟩:=ry;exact PySem.W.eq_bytes (qc I q zcN)
  | _=>exact absurd (show false=true from hs) aC
 | _=>cases y <;> exact absurd (show false=true from hs) aC
def op_ne:OpR X (compareOp .NotEq) rNe:=by
 intro m5 s σ H x y v u Q I rx ry h;obtain ⟨hs,q⟩:=h;cases x with
 | non =>
  cases rx;cases y with
  | non=>cases ry;exact PySem.EqNone.ne_none_none (qc I q (by simp))
  | bl j=>cases ry;exact PySem.EqNone.ne_none_bool (qc I q (by simp))
  | int j=>obtain ⟨t',rfl⟩:=ry;exact PySem.EqNone.ne_none_int (qc I q (by simp))
  | str j=>obtain ⟨t',rfl⟩:=ry;exact PySem.EqNone.ne_none_str (qc I q (by simp))
  | _=>exact absurd (show false=true from hs) aC
 | bl i =>
  cases rx;cases y with
  | non=>cases ry;exact PySem.EqNone.ne_bool_none (qc I q (by simp))
  | bl j=>cases ry;exact ne_bool (qc I q (bt not zfh))
  | str j=>obtain ⟨t',rfl⟩:=ry;exact PySem.EqMixed.ne_bool_str (qc I q (by simp))
  | _=>exact absurd (show false=true from hs) aC
 | int i =>
  obtain ⟨t,rfl⟩:=rx;cases y with
  | non=>cases ry;exact PySem.EqNone.ne_int_none (qc I q (by simp))
  | int j=>obtain ⟨t',rfl⟩:=ry;exact ne_int (qc I q (bt not zcM))
  | str j=>obtain ⟨t',rfl⟩:=ry;exact PySem.EqMixed.ne_int_str (qc I q (by simp))
  | _=>exact absurd (show false=true from hs) aC
 | str i =>
  obtain ⟨t,rfl⟩:=rx;cases y with
  | non=>cases ry;exact PySem.EqNone.ne_str_none (qc I q (by simp))
  | bl j=>cases ry;exact PySem.EqMixed.ne_str_bool (qc I q (by simp))
  | int j=>obtain ⟨t',rfl⟩:=ry;exact PySem.EqMixed.ne_str_int (qc I q (by simp))
  | str j=>obtain ⟨t',rfl⟩:=ry;exact ne_str (qc I q (bt not zcL))
  | _=>exact absurd (show false=true from hs) aC
 | byt i =>
  obtain ⟨t,rfl⟩:=rx;cases y with
  | byt j=>obtain ⟨t',rfl⟩:=ry;exact PySem.W.ne_bytes (qc I q (bt not zcN))
  | _=>exact absurd (show false=true from hs) aC
 | _=>cases y <;> exact absurd (show false=true from hs) aC
def op_lt:OpR X (compareOp .Lt) (rI0 λ i j=>.bl (decide (i < j))):=zhd λ _ _ _ _ _ _ _ q=>lt_int q
def op_le:OpR X (compareOp .LtE) (rI0 λ i j=>.bl (decide (i<=j))):=zhd λ _ _ _ _ _ _ _ q=>le_int q
def op_gt:OpR X (compareOp .Gt) (rI0 λ i j=>.bl (decide (j < i))):=zhd λ _ _ _ _ _ _ _ q=>gt_int q
def op_isN:OpR X (compareOp .Is) (λ x y H Q=>nq y (Q (.bl (decide (x=.non))) H)):=by
 intro m5 s σ H x y v u Q I rx ry h;obtain ⟨rfl,q⟩:=zcs h;cases ry;refine is_none_gen (qc I q ?_);cases x <;> first
  | (cases rx;rfl)
  | (obtain ⟨t,rfl⟩:=rx;rfl)
def op_notN:OpR X (compareOp .IsNot) (λ x y H Q=>nq y (Q (.bl (!decide (x=.non))) H)):=by
 intro m5 s σ H x y v u Q I rx ry h;obtain ⟨rfl,q⟩:=zcs h;cases ry;refine isnot_none_gen (qc I q ?_);cases x <;> first
  | (cases rx;rfl)
  | (obtain ⟨t,rfl⟩:=rx;rfl)
def OpR.or {r r':R2} (h:OpR X f r) (h':OpR X f r'):OpR X f (λ x y H Q=>r x y H Q\/r' x y H Q):=by
 intro m5 s σ H x y v u Q I rx ry q;rcases q with q|q
 ·exact h m5 s σ H x y v u Q I rx ry q
 ·exact h' m5 s σ H x y v u Q I rx ry q
def zr (b:Expr) (h:op≠.In:=by decide) (h2:op≠.NotIn:=by decide):behindInMarks op b=false:=by
 have e1:(op == CmpOp.In)=false:=by cases op <;> first|rfl|exact absurd rfl h
 have e2:(op == CmpOp.NotIn)=false:=by cases op <;> first|rfl|exact absurd rfl h2
 cases b <;> simp [behindInMarks,e1,e2]
def Vp {r:R2} (ho:OpR X (compareOp op) r) (ha:PE X a ta) (hb:PE X b tb) (hm:behindInMarks op b=false):PE X (.Compare a [op] [b] pos) (tOp r ta tb):=by
 intro m5 s σ H Q I h;exact wpAny_Compare1 (zhK ha hb I h λ v u s2 x y H2 I2 rx ry q=>ho m5 s2 σ H2 x y v u Q I2 rx ry q) hm
def tTest (t:TE):TT:=λ σ H Q=>t σ H λ x H'=>bq x λ k=>Q k H'
def zm {r:R2} (ho:OpR X (compareOp op) r) (ha:PE X a ta) (hb:PE X b tb) (hm:behindInMarks op b=false):PT X (.Compare a [op] [b] pos) (tTest (tOp r ta tb)):=by
 intro m5 s σ H Q I h;refine wpAny_isTrue_Compare1 (qL (ha m5 s σ H _ I h) λ v s1 x H1 I1 r1 q1=>qL (hb m5 s1 σ H1 _ I1 q1) λ u s2 y H2 I2 r2 q2 =>
  thn (ho m5 s2 σ H2 x y v u _ I2 r1 r2 q2) λ c s3 ⟨z,H3,I3,r3,q3⟩=>?_) hm
 obtain ⟨k,e,q3⟩:=za8 q3;subst e;cases r3;exact cS ⟨H3,I3,q3⟩
def tChain (r r':R2) (ta tb tc:TE):TE:=λ σ H Q=>ta σ H λ x H1=>tb σ H1 λ y H2=>r x y H2 λ z H3=>bq z λ k =>
 (if k=true then tc σ H3 λ w' H4=>r' y w' H4 Q else Q (.bl false) H3)
theorem jU {op op':CmpOp} {r r':R2} (ho:OpR X (compareOp op) r) (ho':OpR X (compareOp op') r') (ha:PE X a ta) (hb:PE X b tb) (hc:PE X c tc)
  (hm:lastMarks [op,op'] [b,c]=false:=by with_unfolding_all rfl):PT X (.Compare a [op,op'] [b,c] pos) (tTest (tChain r r' ta tb tc)):=by
 intro m5 s σ H Q I h;refine isTrue_chain (qL (ha m5 s σ H _ I h) λ v s1 x H1 I1 r1 q1=>test_link (qL (hb m5 s1 σ H1 _ I1 q1) λ u s2 y H2 I2 r2 q2 =>
  thn (ho m5 s2 σ H2 x y v u _ I2 r1 r2 q2) λ d s3 ⟨z,H3,I3,r3,q3⟩=>?_)) hm
 obtain ⟨k,e,q3⟩:=za8 q3;subst e;cases r3;refine cS ?_;cases k with
 | false =>
  obtain ⟨k',e',q'⟩:=za8 q3;cases e';exact ite_ff ⟨H3,I3,q'⟩
 | true =>
  refine ite_tt (test_last (thn (hc m5 s3 σ H3 _ I3 q3) λ w' s4 ⟨z',H4,I4,r4,q4⟩=>thn (ho' m5 s4 σ H4 y z' u w' _ I4 r2 r4 q4) λ d' s5 ⟨z2,H5,I5,r5,q5⟩=>?_));obtain ⟨k2,e2,q5⟩:=za8 q5;subst e2;cases r5;exact cS ⟨H5,I5,q5⟩
def zd2 (K:A0) (x:V) (H:Hp) (k:Bool):Prop :=
 match x with
 | .non=>k=false
 | .bl b=>k=b
 | .int i=>k=(i != 0)
 | .str y=>y.length<=sizeLine/\k=((y.length:Int) != 0)
 | .byt y=>y.size<=sizeLine/\k=((y.size:Int) != 0)
 | .ref p=>(∃ xs,SqL K H p xs/\k=!xs.isEmpty)\/(∃ xs,SqT K H p xs/\k=!xs.isEmpty)\/∃ mK,H p=some (.dK mK)/\k=!mK.isEmpty
 | _=>False
def zbY {κ:Type} {mK:List (κ × V)} {vs:List (κ × Value)} (r:KV mK vs):(!vs.isEmpty)=!mK.isEmpty:=by
 cases r <;> rfl
def Xr {xs:Ar} {mM:A9} (r:Vals xs mM):(!mM.toArray.isEmpty)=!xs.isEmpty:=by
 cases r <;> simp
def ZD:(sizeLine:Nat) < 2 ^ 63:=by rw [fo];decide
def zgO:ziN X (λ x H Q=>∃ k,zd2 X.K x H k/\Q k H):=by
 intro m5 s σ H x v Q I rx h;obtain ⟨k,e,q⟩:=h;have hl:=ZD;have hs:sizeLine=16777216:=fo;cases x with
 | non =>
  cases rx;have e':k=false:=e;subst e';exact truthy_none ⟨H,I,q⟩
 | bl b =>
  cases rx;have e':k=b:=e;subst e';exact cS ⟨H,I,q⟩
 | int i =>
  obtain ⟨t,rfl⟩:=rx;have e':k=(i != 0):=e;subst e';exact PySem.P.truthy_int ⟨H,I,q⟩
 | str y =>
  obtain ⟨t,rfl⟩:=rx;obtain ⟨hy,e'⟩:y.length<=sizeLine/\k=((y.length:Int) != 0):=e;subst e';exact PySem.P.truthy_str (by lia) ⟨H,I.tok _,q⟩
 | byt y =>
  obtain ⟨t,rfl⟩:=rx;obtain ⟨hy,e'⟩:y.size<=sizeLine/\k=((y.size:Int) != 0):=e;subst e';exact PySem.W.truthy_bytes (by lia) ⟨H,I.tok _,q⟩
 | ref p =>
  cases rx;have e':(∃ xs,SqL X.K H p xs/\k=!xs.isEmpty)\/(∃ xs,SqT X.K H p xs/\k=!xs.isEmpty)\/∃ mK,H p=some (.dK mK)/\k=!mK.isEmpty:=e;rcases e' with ⟨xs,hx,e'⟩|⟨xs,hx,e'⟩|⟨mK,hx,e'⟩
  ·subst e';obtain ⟨mM,r,pl,hz⟩:=I.list hx;have hlen:=r.length;exact wpAny_truthy_list pl.isList (by simp only [av];lia) ⟨H,I.tok _,by rw [Xr r];exact q⟩
  ·subst e';obtain ⟨mM,r,pl,hz⟩:=I.tuple hx;have hlen:=r.length;exact truthy_tuple pl (by simp only [av];lia) ⟨H,I.tok _,by rw [Xr r];exact q⟩
  ·subst e';obtain ⟨hz,hS,vs,r,m⟩:mK.length<=sizeLine/\(p == sysModules)=false/\∃ vs,KV mK vs/\s.heap.DictOf (qT X.prog X.w) p vs:=I.hok p _ hx;have hlen:mK.length=vs.length:=cC r;exact wpAny_truthy_dict hS m (by lia) ⟨H,I.tok _,by rw [zbY r];exact q⟩
 | _=>exact (show False from e).elim
def trq (K:A0) (x:V) (H:Hp) (Q:Bool->Hp->Prop):Prop :=
 match x with
 | .bl b=>Q b H
 | x=>∃ k,zd2 K x H k/\Q k H
def zgP {x:V} {Q:Bool->Hp->Prop} (h:trq K x H Q):∃ k,zd2 K x H k/\Q k H:=by
 cases x <;> first|exact ⟨_,rfl,h⟩|exact h
def tTru (K:A0) (ta:TE):TT:=λ σ H Q=>ta σ H λ x H'=>trq K x H' Q
def jc (ha:PE X a ta) (he:∀ whole,isTrue a X.env whole=(do let v <- whole;standAt a.pos;holding [v] (truthy v))) :
  PT X a (tTru X.K ta):=by
 intro m5 s σ H Q I h;exact isTrue_plain (qL (ha m5 s σ H _ I h) λ v s1 x H1 I1 r1 q1=>zgO m5 s1 σ H1 x v Q I1 r1 (zgP q1)) (he _)
def op_add_str:OpR X (binaryOp .Add) (λ x y H Q=>∃ i j,x=.str i/\y=.str j/\i.length + j.length<=sizeLine/\Q (.str (i ++ j)) H):=by
 intro m5 s σ H x y v u Q I rx ry h;obtain ⟨i,j,rfl,rfl,hz,q⟩:=h;obtain ⟨t,rfl⟩:=rx;obtain ⟨t',rfl⟩:=ry;exact add_str (λ t' tk=>⟨.str (i ++ j),H,I.tok _,⟨_,rfl⟩,q⟩) hz
def Jy {x:V} (r:Vals [x] us):∃ u,us=[u]/\RelV x u:=by
 cases r with
 | cons r1 r2=>cases r2;exact ⟨_,rfl,r1⟩
def zgu {x y:V} (r:Vals [x,y] us):∃ u w',us=[u,w']/\RelV x u/\RelV y w':=by
 cases r with
 | cons r1 r2 =>
  cases r2 with
  | cons r3 r4=>cases r4;exact ⟨_,_,rfl,r1,r3⟩
def zdS (hc:X.calm=true):CallR X (.builtin "max") (λ xs H Q=>∃ i j,xs=[.int i,.int j]/\Q (.int (if j > i then j else i)) H):=by
 intro m5 s σ H xs us Q I r h;obtain ⟨i,j,rfl,q⟩:=h;obtain ⟨u,w',rfl,⟨t,rfl⟩,⟨t',rfl⟩⟩:=zgu r;refine max_two_ints (I.ok.hd hc) λ h' tk k=>⟨_,H,I.kept k,?_,q⟩;by_cases hj:j > i
 ·rw [ar hj,ar hj];exact ⟨_,rfl⟩
 ·rw [ap hj,ap hj];exact ⟨_,rfl⟩
def ziv (K:A0) (x:V) (H:Hp) (n:Nat):Prop :=
 match x with
 | .str y=>y.length<=sizeLine/\n=y.length
 | .byt y=>y.size<=sizeLine/\n=y.size
 | .ref p=>(∃ xs,SqL K H p xs/\n=xs.length)\/∃ xs,SqT K H p xs/\n=xs.length
 | _=>False
def zfk:CallR X (.builtin "len") (λ xs H Q=>∃ x n,xs=[x]/\ziv X.K x H n/\Q (.int n) H):=by
 intro m5 s σ H xs us Q I r h;obtain ⟨x,n,rfl,e,q⟩:=h;obtain ⟨u,rfl,rx⟩:=Jy r;have hl:=ZD;have hs:sizeLine=16777216:=fo;cases x with
 | str y =>
  obtain ⟨t,rfl⟩:=rx;obtain ⟨hy,e'⟩:y.length<=sizeLine/\n=y.length:=e;subst e';exact len_str (by lia) ⟨.int _,H,I.tok _,⟨_,rfl⟩,q⟩
 | byt y =>
  obtain ⟨t,rfl⟩:=rx;obtain ⟨hy,e'⟩:y.size<=sizeLine/\n=y.size:=e;subst e';exact PySem.W.len_bytes (by lia) ⟨.int _,H,I.tok _,⟨_,rfl⟩,q⟩
 | ref p =>
  cases rx;have e':(∃ xs,SqL X.K H p xs/\n=xs.length)\/∃ xs,SqT X.K H p xs/\n=xs.length:=e;rcases e' with ⟨xs,hx,e'⟩|⟨xs,hx,e'⟩
  ·subst e';obtain ⟨mM,r',pl,hz⟩:=I.list hx;have hlen:=r'.length;exact Calls.call_len_list pl.isList (by simp only [av];lia) ⟨.int xs.length,H,I.tok _,⟨_,by simp only [av];rw [hlen]⟩,q⟩
  ·subst e';obtain ⟨mM,r',pl,hz⟩:=I.tuple hx;have hlen:=r'.length;exact len_tuple pl (by simp only [av];lia) ⟨.int xs.length,H,I.tok _,⟨_,by simp only [av];rw [hlen]⟩,q⟩
 | _=>exact (show False from e).elim
end
structure ObjM (h:Heap) (x dx C:Addr) (mA:A6):Prop where
 obj:h.get? x=some (instObj C dx)
 ns:h.Ns1 dx mA
 ne:dx≠x
def zdA {h:Heap} {dx:Addr} {mA:A6} (n:h.Ns1 dx mA):∃ od,h.get? dx=some od/\∀ name,lookIn name od=some (mA name):=by
 obtain ⟨o,es,ep,ho,hd,hk,_,hm⟩:=n;refine ⟨o,ho,λ name=>?_⟩;have e:=hm name;unfold nsFind findBy at e;rw [<- Array.find?_toList] at e;unfold lookIn;rw [hd];dsimp only
 split
 ·rename_i y q;rw [q] at e;exact bt some e
 ·rename_i q;rw [q] at e;have a:es.toList.any (·.refKey)=false:=by
   rw [List.any_eq_false];intro y hy;obtain ⟨z,t,hkey⟩:=hk y (Array.mem_toList_iff.mp hy);simp [DictEntry.refKey,hkey]
  have a':¬ es.toList.any (·.refKey)=true:=by rw [a];exact aC
  rw [ap a'];exact bt some e
def ObjM.look {h:Heap} {x dx C:Addr} {mA:A6} (I:ObjM h x dx C mA):∃ od,PySem.W.InstAt h x (instObj C dx) C (some od)/\∀ name,lookIn name od=some (mA name) :=
 let ⟨od,ho,hl⟩:=zdA I.ns
 ⟨od,⟨I.obj,rfl,rfl,ho⟩,hl⟩
section
variable {prog:Ah} {w:World} {A:Aq} {E:A5} {s:Ap} {K:A0} {x dx C f:Addr} {mA:A6} {name:Str} {v:Ao}
def zge {expr:Bool} (X:K.In s.heap) (I:ObjM s.heap x dx C mA) (hg:plainGet K C name=true) (hh:hasDictIn K C=true)
  (ha:findIn K (.ref C) name=some none) (hv:mA name=some v) (hv':handedIn v=true) (h:Q v { s with toks:=s.toks + 1 }) :
  wpAny (model prog w) A (getAttr (.ref x) name expr) Q E s:=by
 obtain ⟨od,J,hl⟩:=I.look;exact PySem.W.get_value X J (plainGet_of hg).1 (PySem.W.findObj_own hh ha rfl (by rw [hl,hv])) hv' h
def ze7 {pl:Sem Bool} {Q:Value × List Value->Shared->Prop} (X:K.In s.heap) (I:ObjM s.heap x dx C mA) (hg:plainGet K C name=true)
  (hf:findIn K (.ref C) name=some (some (.ref f))) (ht:isFn K (.ref f)=true) (hv:mA name=none) (h:Q (.ref f,[.ref x]) s) :
  wpAny (model prog w) A (getMethod (.ref x) name pl) Q E s:=by
 obtain ⟨od,J,hl⟩:=I.look;exact PySem.W.method_fn X J (plainGet_of hg).1 (plainGet_of hg).2 hf (bA.mp ht) (by show (lookIn name od).map (·.isSome)=some false;rw [hl,hv];rfl) h
def zfG {ns:Aa} {Q:Ai} (X:K.In s.heap) (I:ObjM s.heap x dx C mA)
  (hs:findIn K (.ref C) "__setattr__"=some (some (.builtin "object.__setattr__"))) (hp:plainOver K C=true) (ht:takerIn K C name=some none) (hh:hasDictIn K C=true)
  (hw:PySem.Within mA ns) (hsz:ns.length<=sizeLine)
  (h:∀ h',ObjM h' x dx C (λ y=>if y=name then some v else mA y)->Heap.SameBut dx s.heap h'->Q () { s with heap:=h',toks:=s.toks + 2 }) :
  wpAny (model prog w) A (setAttr (.ref x) name v) Q E s:=by
 obtain ⟨od,J,hl⟩:=I.look;refine PySem.W.set_plain X J hs (PySem.W.osa_open (s:={ s with toks:=s.toks + 1 }) (r:=none) X J hp ht λ b=>?_);obtain ⟨cd,hc,hd'⟩:=fY hh;have hx:s.heap.get? x=some ⟨.ref C,some dx,.plain,#[]⟩:=I.obj;refine af (aD (af (af (wpAny_loadPart hx (af (PySem.W.Looks.here (s:={ s with toks:=s.toks + 1 }) (PySem.W.looks_clsIn X hc) ?_))))));rw [hd'];refine aD (a:=some dx) (af (aD (af ?_)));refine wpAny_nsSet1 (s:={ s with toks:=s.toks + 1 }) I.ns λ h' hn2 hs2=>?_;obtain ⟨oD,esD,epD,hoD,hdD,hcD⟩:=hn2.count (PySem.Within.cons name v hw);refine af (wpAny_lookBehind hoD (by rw [hdD];exact pastItsLine_dict (ba hcD (by rw [bB];lia))) ?_);exact aD (h _ ⟨(hs2.2 _ (aX I.ne)).trans I.obj,hn2,I.ne⟩ hs2)
def zaH {R:Result->Shared->Prop} {vs:A9} {kw:List (Str × Value)} (X:K.In s.heap) (hm:makesIn K C=true)
  (hi:findIn K (.ref C) "__init__"=some (some (.ref f))) (hf:typeIn K (.ref f)=some (.type "function"))
  (h:codeAny (model prog w) (A.under (.builtin "type.__call__" ⟨.ref C :: vs,kw⟩)) (.call (.ref f) ⟨.ref (s.heap.objs.size + 1) :: vs,kw⟩) (PySem.W.InitBack (s.heap.objs.size + 1) R)
   { s with heap:=(s.heap.push emptyDict).push (instObj C s.heap.objs.size) }) :
  codeAny (model prog w) A (.call (.ref C) ⟨vs,kw⟩) R s:=by
 obtain ⟨hh,g,d,t,os⟩:=s;exact PySem.W.make_core (PySem.W.makes_of X hm) (looks_findIn X hi) (λ self=>PySem.W.bind_fn X self hf) (.inl rfl) h
end
noncomputable def zQ (f:Str) (v:V):List (Str × V)->List (Str × V)
 | []=>[(f,v)]
 | (g,x) :: r=>if g=f then (g,v) :: r else (g,x) :: zQ f v r
theorem zz (f g:Str) (v:V):∀ fs:List (Str × V),(zQ f v fs).lookup g=if g=f then some v else fs.lookup g
 | []=>by
  show List.lookup g [(f,v)]=_
  by_cases h:g=f
  ·have hb:(g == f)=true:=bA.mpr h;simp only [List.lookup,hb,ar h]
  ·have hb:(g == f)=false:=a9.mpr h;simp only [List.lookup,hb,ap h]
 | (k,x) :: r=>by
  have ih:=zz f g v r;rw [show zQ f v ((k,x) :: r)=(if k=f then (k,v) :: r else (k,x) :: zQ f v r) from rfl];by_cases hk:k=f
  ·rw [ar hk];by_cases h:g=k
   ·have hb:(g == k)=true:=bA.mpr h;simp only [List.lookup,hb,ar (h.trans hk)]
   ·have hb:(g == k)=false:=a9.mpr h;simp only [List.lookup,hb,ap (λ e:g=f=>h (e.trans hk.symm))]
  ·rw [ap hk];by_cases h:g=k
   ·have hb:(g == k)=true:=bA.mpr h;simp only [List.lookup,hb,ap (λ e:g=f=>hk (h.symm.trans e))]
   ·have hb:(g == k)=false:=a9.mpr h;simp only [List.lookup,hb];exact ih
theorem QJ (f:Str) (v:V):∀ fs:List (Str × V),f∈(zQ f v fs).map (·.1)/\∀ g,g∈fs.map (·.1)->g∈(zQ f v fs).map (·.1)
 | []=>⟨by simp [zQ],λ g h=>by simp at h⟩
 | (k,x) :: r=>by
  obtain ⟨i1,i2⟩:=QJ f v r;rw [show zQ f v ((k,x) :: r)=(if k=f then (k,v) :: r else (k,x) :: zQ f v r) from rfl];by_cases hk:k=f
  ·rw [ar hk];subst hk;exact ⟨by simp,λ g h=>by simpa using h⟩
  ·rw [ap hk];refine ⟨?_,λ g h=>?_⟩
   ·rw [bR];exact aF _ i1
   ·rw [bR] at h ⊢;rcases az.mp h with e|e
    ·exact az.mpr (.inl e)
    ·exact aF _ (i2 g e)
theorem xQ (f:Str) (v:V):∀ fs:List (Str × V),(zQ f v fs).length<=fs.length + 1
 | []=>by simp [zQ]
 | (k,x) :: r=>by
  have ih:=xQ f v r;rw [show zQ f v ((k,x) :: r)=(if k=f then (k,v) :: r else (k,x) :: zQ f v r) from rfl];by_cases hk:k=f
  ·rw [ar hk,bB,bB];lia
  ·rw [ap hk,bB,bB];lia
def RelO.some_of {v:V} {o:Option Value} (r:RelO (some v) o):∃ u,o=some u/\RelV v u:=by
 cases o with
 | none=>exact (show False from r).elim
 | some u=>exact ⟨u,rfl,r⟩
def RelO.none_of {o:Option Value} (r:RelO none o):o=none:=by
 cases o with
 | none=>rfl
 | some u=>exact (show False from r).elim
def zdJ {v:V} (r:RelV v u):handedIn u=true:=by
 cases v with
 | non=>cases (show u=Value.none from r);rfl
 | bl b=>cases (show u=Value.bool b from r);rfl
 | int i=>obtain ⟨t,e⟩:=(show ∃ t,u=Value.int i t from r);cases e;rfl
 | str x=>obtain ⟨t,e⟩:=(show ∃ t,u=Value.str x t from r);cases e;rfl
 | byt b=>obtain ⟨t,e⟩:=(show ∃ t,u=Value.bytes b t from r);cases e;rfl
 | flt b=>obtain ⟨t,e⟩:=(show ∃ t,u=Value.float b t from r);cases e;rfl
 | ref a=>cases (show u=Value.ref a from r);rfl
 | ty n=>cases (show u=Value.type n from r);rfl
section
variable {P:Ah} {w:World} {H H':Hp} {h h':Heap} {a C dx:Addr} {fs fs':At}
def Ju (hok:HOk P w H h) (e:H a=some (.ins C dx fs)):∃ mA,ObjM h a dx C mA/\(∀ f,RelO (fs.lookup f) (mA f))/\PySem.Within mA (fs.map (·.1))/\fs.length<=1000/\H dx=some (.own a):=by
 obtain ⟨d,z,ne,ob,mA,n,r,q⟩:=(show ObjOk P w H h a (.ins C dx fs) from hok a _ e);exact ⟨mA,⟨ob,n,ne⟩,r,q,z,d⟩
end
structure Cls (K:A0) (C:Addr):Prop where
 pg:plainGet K C Str.empty=true
 hd:hasDictIn K C=true
 po:plainOver K C=true
 sa:findIn K (.ref C) "__setattr__"=some (some (.builtin "object.__setattr__"))
def Cls.get (c:Cls K C) (f:Str):plainGet K C f=true:=c.pg
def NoAttr (K:A0) (C:Addr) (f:Str):Prop:=findIn K (.ref C) f=some none
def NoAttr.taker {f:Str} (n:NoAttr K C f):takerIn K C f=some none:=by
 unfold takerIn;rw [show findIn K (.ref C) f=some none from n]
 rfl
structure Meth (K:A0) (C:Addr) (m:Str) (f:Addr):Prop where
 at_:findIn K (.ref C) m=some (some (.ref f))
 fn:isFn K (.ref f)=true
 kp:keepIn K (.ref f)=true
section
variable {X:Cx} {m5:A4} {σ:St} {H:Hp} {s:Ap} {a C dx:Addr} {fs:At} {f:Str} {v:V} {A:Aq} {E:A5}
def Xt {b:Bool} (I:Inv X m5 σ H s) (e:H a=some (.ins C dx fs)) (c:Cls X.K C) (n:NoAttr X.K C f) (l:fs.lookup f=some v)
  (h:∀ u s',Inv X m5 σ H s'->RelV v u->Q u s'):wpAny (model X.prog X.w) A (getAttr (.ref a) f b) Q E s:=by
 obtain ⟨mA,O,r,_,_,_⟩:=Ju I.hok e;obtain ⟨u,hu,ru⟩:=RelO.some_of (v:=v) (o:=mA f) (by rw [<- l];exact r f);exact zge I.kIn O (c.get f) c.hd n hu (zdJ ru) (h u _ (I.tok _) ru)
def wR {m:Str} {g:Addr} {pl:Sem Bool} {Q:Value × List Value->Shared->Prop} (I:Inv X m5 σ H s) (e:H a=some (.ins C dx fs)) (c:Cls X.K C) (k:Meth X.K C m g) (l:fs.lookup m=none)
  (h:Q (.ref g,[.ref a]) s):wpAny (model X.prog X.w) A (getMethod (.ref a) m pl) Q E s:=by
 obtain ⟨mA,O,r,_,_,_⟩:=Ju I.hok e;have hn:mA m=none:=RelO.none_of (by rw [<- l];exact r m);exact ze7 I.kIn O (c.get m) k.at_ k.fn hn h
def JI {y:V} {Q:Ai} (I:Inv X m5 σ H s) (e:H a=some (.ins C dx fs)) (c:Cls X.K C) (n:NoAttr X.K C f) (hl:fs.length < 1000) (ry:RelV y u)
  (h:∀ s',Inv X m5 σ (upd H a (.ins C dx (zQ f y fs))) s'->Q () s'):wpAny (model X.prog X.w) A (setAttr (.ref a) f u) Q E s:=by
 obtain ⟨mA,O,r,wi,_,ho⟩:=Ju I.hok e;have hz:(fs.map (·.1)).length<=sizeLine:=by rw [ai,fo];lia
 refine zfG I.kIn O c.sa c.po n.taker c.hd wi hz λ h' O' sb=>h _ ?_;have hd:∃ o,h'.get? dx=some o:=let ⟨o,_,_,e',_⟩:=O'.ns;⟨o,e'⟩
 refine I.write (x:=a) (e:=dx) (by rw [e];exact True.intro) (.inr ho) (λ b q hb z=>(sb.2 b hb).trans z) hd ?_;refine ⟨by rw [mX O.ne];exact ho,?_,O.ne,O'.obj,_,O'.ns,λ g=>?_,λ g hg=>?_⟩
 ·have:=xQ f y fs;lia
 ·show RelO ((zQ f y fs).lookup g) (if g=f then some u else mA g)
  rw [zz];by_cases q:g=f
  ·rw [ar q,ar q];exact ry
  ·rw [ap q,ap q];exact r g
 ·by_cases q:g=f
  ·rw [q];exact (QJ f y fs).1
  ·refine (QJ f y fs).2 g (wi g λ z=>hg ?_);show (if g=f then some u else mA g)=none
   rw [ap q];exact z
def Inv.made (I:Inv X m5 σ H s):Inv X m5 σ (upd (upd H s.heap.objs.size (.own (s.heap.objs.size + 1))) (s.heap.objs.size + 1) (.ins C s.heap.objs.size []))
  { s with heap:=(s.heap.push emptyDict).push (instObj C s.heap.objs.size) }:=by
 have e1:(s.heap.push emptyDict).get? s.heap.objs.size=some emptyDict:=aE s.heap rfl;have e2:((s.heap.push emptyDict).push (instObj C s.heap.objs.size)).get? (s.heap.objs.size + 1)=some (instObj C s.heap.objs.size):=by
  have:=aE (s.heap.push emptyDict) (o:=instObj C s.heap.objs.size) rfl
  rwa [bH] at this
 have e3:(s.heap.push emptyDict).Ns s.heap.objs.size (λ _=>none):=⟨emptyDict,#[],_,e1,rfl,(λ e he=>absurd he (by simp)),λ _=>rfl⟩;have I1:=I.laid (a:=s.heap.objs.size) (o:=.own (s.heap.objs.size + 1)) (h':=s.heap.push emptyDict) (t':=s.toks) (λ b u q=>aj _ q) (au _) ⟨_,e1⟩;refine I1.laid (a:=s.heap.objs.size + 1) (o:=.ins C s.heap.objs.size []) (t':=s.toks) (λ b u q=>aj _ q) (Nat.le_of_eq (bH _ _)) ?_;have ne:s.heap.objs.size≠s.heap.objs.size + 1:=aP (eI _);refine ⟨by rw [mX ne,mW],bU _,ne,e2,λ _=>none,(Heap.Ns1.of_empty e3).at λ o q=>aj _ q,λ _=>True.intro,λ y hy=>absurd rfl hy⟩
def zgm {prog:Ah} {env:Env} {e:Expr} {f:Str} {s:Ap} (hb:attributeBase e f env (eval e env)=eval e env)
  (h:wpAny (model prog w) A (eval e env) (λ o s₁=>wpAny (model prog w) A (getAttr o f true) Q E s₁) E s):wpAny (model prog w) A (eval (.Attribute e f pos) env) Q E s :=
 Attribute_any_ h (by rw [arm_eval_Attribute,hb])
end
def tFld (K:A0) (ta:TE) (f:Str):TE:=λ σ H Q=>ta σ H λ x H1=>∃ a C dx fs v,x=.ref a/\H1 a=some (.ins C dx fs)/\Cls K C/\NoAttr K C f/\fs.lookup f=some v/\Q v H1
def sFld (K:A0) (ta tv:TE) (f:Str):TS:=λ D σ H=>tv σ H λ y H1=>ta σ H1 λ x H2=>∃ a C dx fs,x=.ref a/\H2 a=some (.ins C dx fs)/\Cls K C/\NoAttr K C f/\fs.length < 1000 /\
 D.nx σ (upd H2 a (.ins C dx (zQ f y fs)))
def ziw (X:Cx) (op:Operator) (rd:V->V->Hp->VK->Prop):Prop :=
 ∀ (m5:A4) (s:Ap) (σ:St) (H:Hp) (x y:V) (u v:Ao) (Q:VK),Inv X m5 σ H s->RelV x u->RelV y v->rd x y H Q->wpAny (model X.prog X.w) X.A (inplaceOp op u v) (EP X m5 σ Q) X.xe s
def zfI (K:A0) (ta tv:TE) (rd:V->V->Hp->VK->Prop) (f:Str):TS:=λ D σ H=>ta σ H λ x H1=>∃ a C dx fs v,x=.ref a/\H1 a=some (.ins C dx fs)/\Cls K C/\NoAttr K C f/\fs.lookup f=some v /\
 tv σ H1 λ y H2=>rd v y H2 λ z H3=>∃ dx' fs',H3 a=some (.ins C dx' fs')/\fs'.length < 1000/\D.nx σ (upd H3 a (.ins C dx' (zQ f z fs')))
section
variable {X:Cx} {o e value:Expr} {f:Str} {pos pos' tpos:Pos} {ta tv:TE}
def zj (he:PE X e ta) (hb:attributeBase e f X.env (eval e X.env)=eval e X.env):PE X (.Attribute e f pos) (tFld X.K ta f):=by
 intro m5 s σ H Q I h;refine zgm hb (qL (he m5 s σ H _ I h) λ u s1 x H1 I1 rx qq_=>?_);obtain ⟨a,C,dx,fs,v,ex,ea,c,n,l,q⟩:=qq_;subst ex;obtain rfl:u=Value.ref a:=rx;exact Xt I1 ea c n l λ u' s2 I2 ru=>⟨v,H1,I2,ru,q⟩
def qQ (ha:PE X o ta) (hv:PE X value tv) (hs:swapsWith value (some (.Attribute o f pos')) pos.line X.env=pure false):PS X (.Assign [.Attribute o f pos'] value pos) (sFld X.K ta tv f):=by
 intro m5 s σ H D I h;refine plainObj_wpAny_Assign_Attribute (qL (hv m5 s σ H _ I h) λ u s1 y H1 I1 ry q=>qL (ha m5 s1 σ H1 _ I1 q) λ ov s2 x H2 I2 rx qq_=>?_) hs;obtain ⟨a,C,dx,fs,ex,ea,c,n,l,q2⟩:=qq_;subst ex;obtain rfl:ov=Value.ref a:=rx;exact JI I2 ea c n l ry λ s3 I3=>⟨σ,_,I3,q2⟩
def zdq {op:Operator} {rd:V->V->Hp->VK->Prop} (ha:PE X o ta) (hv:PE X value tv) (hop:ziw X op rd):PS X (.AugAssign (.Attribute o f tpos) op value pos) (zfI X.K ta tv rd f):=by
 intro m5 s σ H D I h;refine wpAny_AugAssign_AttributeAny (qL (ha m5 s σ H _ I h) λ ov s1 x H1 I1 rx qq_=>?_);obtain ⟨a,C,dx,fs,v,ex,ea,c,n,l,q⟩:=qq_;subst ex;obtain rfl:ov=Value.ref a:=rx;refine Xt I1 ea c n l λ u s2 I2 ru=>qL (hv m5 s2 σ H1 _ I2 q) λ w3 s3 y H2 I3 ry q3=>thn (hop m5 s3 σ H2 v y u w3 _ I3 ru ry q3) λ w4 s4 ⟨z,H3,I4,rz,dx',fs',ea',l',q4⟩=>?_;exact JI I4 ea' c n l' rz λ s5 I5=>⟨σ,_,I5,q4⟩
def ziH:V->V->Hp->VK->Prop:=λ x y H Q=>∃ i j,x=.int i/\y=.int j/\Q (.int (i + j)) H
def zhx:ziw X .Add ziH:=by
 rintro m5 s σ H x y u v Q I rx ry ⟨i,j,rfl,rfl,q⟩;obtain ⟨t,rfl⟩:=(show ∃ t,u=Value.int i t from rx);obtain ⟨t',rfl⟩:=(show ∃ t',v=Value.int j t' from ry);exact PyProof.Rows.iadd_int ⟨.int (i + j),H,I.tok _,⟨_,rfl⟩,q⟩
end
section
variable {X:Cx} {m5:A4} {σ:St} {H:Hp} {s:Ap} {A:Aq} {E:A5} {Q:A5} {c:Ao} {b:Bool}
inductive TyOf (K:A0) (H:Hp):V->Value->Prop where
 | non:TyOf K H .non (.type "NoneType")
 | bl (x:Bool):TyOf K H (.bl x) (.type "bool")
 | int (i:Int):TyOf K H (.int i) (.type "int")
 | str (x:Str):TyOf K H (.str x) (.type "str")
 | flt (x:UInt64):TyOf K H (.flt x) (.type "float")
 | lst {a:Addr} {xs:Ar} (e:H a=some (.lst xs)):TyOf K H (.ref a) (.type "list")
 | frz {a:Addr} {o:Obj} {xs:Ar} (e:H a=some (.frz o (.lst xs))):TyOf K H (.ref a) (.type "list")
 | tup {a:Addr} {xs:Ar} (e:H a=some (.tup xs)):TyOf K H (.ref a) (.type "tuple")
 | dK {a:Addr} {mK:List (Key × V)} (e:H a=some (.dK mK)):TyOf K H (.ref a) (.type "dict")
 | dT {a:Addr} {mK:Au} (e:H a=some (.dT mK)):TyOf K H (.ref a) (.type "dict")
 | ins {a C dx:Addr} {fs:At} (e:H a=some (.ins C dx fs)) (cl:Cls K C) (ha:findIn K (.ref C) "__class__"=some (some (.builtin "object.__class__")))
   (hn:specialIn K (.builtin "object.__class__") "__get__"=some (some (.builtin "getset_descriptor.__get__"))) (htk:takesIn K (.builtin "object.__class__")=some true)
   (hm:mroIn K C (.type "object")=some true):TyOf K H (.ref a) (.ref C)
end
structure Room (k:Nat) (A:Aq):Prop where
 hd:A.handled=none
 dp:A.depth + 3 * k + 5 < recursionLimit
 un:A.units + 16 * k + 200 < cLine
def Room.mono {j k:Nat} (r:Room k A) (h:j<=k):Room j A:=⟨r.hd,by have:=r.dp;lia,by have:=r.un;lia⟩
def Room.deeper (r:Room (k + 1) A) (env:Env):Room k (A.deeper env) :=
 ⟨r.hd,by have:=r.dp;show A.depth + 1 + 3 * k + 5 < _;lia,by have:=r.un;show A.units + 3 + 16 * k + 200 < _;lia⟩
def Room.in1 (r:Room (k + 1) A):Room k A.in1 :=
 ⟨r.hd,by have:=r.dp;show A.depth + 3 * k + 5 < _;lia,by have:=r.un;show A.units + 1 + 16 * k + 200 < _;lia⟩
def zbR {kw:List (Str × Value)}:(A.under (.builtin "type.__call__" ⟨.ref C :: us,kw⟩)).depth=A.depth + 1:=by
 first|rfl|simp [Around.under,Code.weight,Code.isCreation,Code.isGuard,Code.isCaller,Code.frames,Code.isFrame,guardIds]
def zbQ {kw:List (Str × Value)}:(A.under (.builtin "type.__call__" ⟨.ref C :: us,kw⟩)).units=A.units + 1:=by
 first|rfl|simp [Around.under,Code.cUnits,Code.frames,Code.isFrame]
def Room.make (r:Room (k + 1) A) (C:Addr) (us:A9) (kw:List (Str × Value)):Room k (A.under (.builtin "type.__call__" ⟨.ref C :: us,kw⟩)) :=
 ⟨r.hd,by have:=r.dp;rw [zbR];lia,by have:=r.un;rw [zbQ];lia⟩
def Room.depth (r:Room k A):A.depth < recursionLimit:=by have:=r.dp;lia
def Room.units (r:Room k A):A.units + 64 < cLine:=by have:=r.un;lia
def tNil:TA:=λ _ H Q=>Q [] H
def tCons (ta:TE) (tr:TA):TA:=λ σ H Q=>ta σ H λ x H1=>tr σ H1 λ xs H2=>Q (x :: xs) H2
section
variable {X:Cx} {e:Expr} {es:List Expr} {te:TE} {t:TA} {pos:Pos}
def zb:PA X [] tNil:=λ _ _ _ _ H Q I h=>Calls.spliced_nil ⟨[],H,I,.nil,h⟩
def za (ha:PE X e te) (hr:PA X es t) (hs:starEach (e :: es) X.env=(false,eval e X.env) :: starEach es X.env:=by rfl):PA X (e :: es) (tCons te t):=by
 intro pos m5 s σ H Q I h;rw [hs];show wpAny _ _ (spliced ((false,eval e X.env) :: backTo pos (starEach es X.env))) _ _ s
 refine Calls.spliced_cons (qL (ha m5 s σ H _ I h) λ u s1 x H1 I1 r1 q1=>?_);exact w6 (hr pos m5 s1 σ H1 _ I1 q1) λ us s2 xs H2 I2 r2 q2=>⟨x :: xs,H2,I2,.cons r1 r2,q2⟩
def tTup (t:TA):TE:=λ σ H Q=>t σ H λ xs H1=>szl xs (∀ p,H1 p=none->Q (.ref p) (upd H1 p (.tup xs)))
def tLst (t:TA):TE:=λ σ H Q=>t σ H λ xs H1=>szl xs (∀ p,H1 p=none->Q (.ref p) (upd H1 p (.lst xs)))
def qO {x1} (h:PA X es t):PE X (.Tuple es x1 pos) (tTup t):=by
 intro m5 s σ H Q I hq;refine wpAny_Tuple_spliced (w6 (h pos m5 s σ H _ I hq) λ us s1 xs H1 I1 r q=>let ⟨z,q⟩:=zbj q;⟨by rw [<- r.length];exact z,?_⟩);have hf:H1 s1.heap.objs.size=none:=I1.hok.fresh (au _);refine ⟨.ref s1.heap.objs.size,upd H1 s1.heap.objs.size (.tup xs),I1.laid (t':=s1.toks) (λ b u e=>aj _ e) (au _) ?_,rfl,q _ hf⟩;exact ⟨z,us,r,⟨_,aE _ rfl,rfl,_,rfl⟩⟩
def zL (h:PA X es t):PE X (.List es pos) (tLst t):=by
 intro m5 s σ H Q I hq;refine wpAny_List_spliced (w6 (h pos m5 s σ H _ I hq) λ us s1 xs H1 I1 r q=>let ⟨z,q⟩:=zbj q;⟨by rw [<- r.length];exact z,?_⟩);have hf:H1 s1.heap.objs.size=none:=I1.hok.fresh (au _);refine ⟨.ref s1.heap.objs.size,upd H1 s1.heap.objs.size (.lst xs),I1.laid (t':=s1.toks) (λ b u e=>aj _ e) (au _) ?_,rfl,q _ hf⟩;exact ⟨z,us,0,r,aE _ rfl⟩
end
abbrev Sp:=List V->Hp->VK->XK->Prop
abbrev CXT:=List Env->Hp->Shared->XK->Value->Shared->Prop
variable {CX:CXT}
structure Env0 (P:Ah) (w:World) (K:A0) (mg:A6) (base:Heap) (A:Aq) (outer:List Env) (s:Ap) (H:Hp):Prop where
 frames:A.frames=some outer
 mod:Mod K mg base
 bs:∀ b o,base.get? b=some o->s.heap.get? b=some o/\H b=none
 bsz:base.objs.size<=s.heap.objs.size
 funs:s.heap.FunFrames base outer
 frf:∀ b∈frs outer,H b=none
 hok:HOk P w H s.heap
 bare:AllBare s.gens
def CE (outer:List Env) (P:Ah) (w:World) (H:Hp) (s:Ap) (Q:VK) (u:Ao) (s':Ap):Prop :=
 ∃ v H',s'.os=s.os/\AllBare s'.gens/\Un (frs outer) [] H H' s.heap s'.heap/\HOk P w H' s'.heap/\RelV v u/\Q v H'
def CR (CX:CXT) (outer:List Env) (P:Ah) (w:World) (H:Hp) (s:Ap) (Q:VK) (E:XK) (r:Result) (s':Ap):Prop :=
 match r with
 | .ok (.ret u)=>CE outer P w H s Q u s'
 | .ok _=>False
 | .error e=>CX outer H s E e s'
structure FnOk (P:Ah) (w:World) (K:A0) (mg:A6) (base:Heap) (CX:CXT) (k:Nat) (f:Addr) (fd:FuncData) (ps:Aa) (sp:Sp):Prop where
 len:∀ vs H Q E,sp vs H Q E->vs.length=ps.length
 run:∀ (A:Aq) (outer:List Env) (s:Ap) (H:Hp) (args:Args) (us:A9) (vs:Ar) (Q:VK) (E:XK),Room k A->Env0 P w K mg base A outer s H->BindsTo s fd args (ps.zip us)->Vals vs us->sp vs H Q E ->
  codeAny (model P w) A (.call (.ref f) args) (CR CX outer P w H s Q E) s
def FnOk.mono {j k:Nat} {f:Addr} {ps:Aa} {sp:Sp} (F:FnOk P w K mg base CX j f fd ps sp) (h:j<=k) :
  FnOk P w K mg base CX k f fd ps sp:=⟨F.len,λ A outer s H args us vs Q E hr=>F.run A outer s H args us vs Q E (hr.mono h)⟩
def FnOk.imp {f:Addr} {ps:Aa} {sp sp':Sp} (F:FnOk P w K mg base CX k f fd ps sp)
  (h:∀ vs H Q E,sp' vs H Q E->sp vs H Q E):FnOk P w K mg base CX k f fd ps sp' :=
 ⟨λ vs H Q E q=>F.len vs H Q E (h _ _ _ _ q),λ A outer s H args us vs Q E hr he hb hv hs=>F.run A outer s H args us vs Q E hr he hb hv (h _ _ _ _ hs)⟩
def Env0.make {outer:List Env} (e:Env0 P w K mg base A outer s H) (C:Addr) (us:A9) (kw:List (Str × Value)) :
  Env0 P w K mg base (A.under (.builtin "type.__call__" ⟨.ref C :: us,kw⟩)) outer s H:=⟨by first|exact e.frames|(simpa [Around.under,Code.envs,Code.isFrame,pushEnvs] using e.frames),e.mod,e.bs,e.bsz,e.funs,e.frf,e.hok,e.bare⟩
def Env0.in1 {outer:List Env} (e:Env0 P w K mg base A outer s H) :
  Env0 P w K mg base A.in1 outer s H:=⟨e.frames,e.mod,e.bs,e.bsz,e.funs,e.frf,e.hok,e.bare⟩
section
variable {X:Cx} {m5:A4} {σ:St} {H:Hp} {s s':Ap}
def Inv.env0 (I:Inv X m5 σ H s):Env0 X.prog X.w X.K X.mg X.base X.A X.stack s H :=
 ⟨I.ok.frames,I.ok.mod,I.bs,ba I.ok.bsz I.sz,I.stack,I.stkFree,I.hok,I.bare⟩
def Inv.after {Q:VK} (I:Inv X m5 σ H s) (h:CE X.stack X.prog X.w H s Q u s'):EP X m5 σ Q u s':=by
 obtain ⟨v,H',os,bare,un,hok,r,q⟩:=h;obtain ⟨hh,g,d,t,os'⟩:=s';obtain rfl:os'=s.os:=os;exact ⟨v,H',I.call (h':=hh) (g':=g) (d':=d) (t':=t) (ch:=[]) un hok bare (λ b z=>absurd z (by simp)),r,q⟩
end
def Binds (K:A0) (fd:FuncData) (ps:Aa) (ds:A9):Prop :=
 ∀ (s:Ap) (us:A9),K.In s.heap->(us ++ ds).length=ps.length->BindsTo s fd ⟨us,[]⟩ (ps.zip (us ++ ds))
def Binds.all {ps:Aa} (h:∀ us:List Value,us.length=ps.length->bindArgs fd ⟨us,[]⟩=pure (ps.zip us)):Binds K fd ps []:=λ s us _ hl=>by
 rw [bY] at hl ⊢;exact .of_eq (h us hl)
def zch (CX:CXT) (X:Cx) (E:XK):Prop:=∀ (m5:A4) (σ:St) (H:Hp) (s:Ap) (e:Ao) (s':Ap),Inv X m5 σ H s->CX X.stack H s E e s'->X.xe e s'
section
variable {X:Cx} {CX:CXT} {k:Nat} {f C:Addr} {fd:FuncData} {ps:Aa} {sp:Sp} {dvs:Ar} {ds:A9} {E:XK} {x m:Str} {p pos apos:Pos} {e o:Expr} {es:List Expr} {ta:TE} {t:TA}
theorem zbA {Q:VK} {vs:Ar} (F:FnOk X.prog X.w X.K X.mg X.base CX k f fd ps sp) (hr:Room k X.A) (hb:Binds X.K fd ps ds) (hd:Vals dvs ds) (hx:zch CX X E)
  (I:Inv X m5 σ H s) (r:Vals vs us) (h:sp (vs ++ dvs) H Q E):wpAny (model X.prog X.w) X.A (call (.ref f) us) (EP X m5 σ Q) X.xe s:=by
 have r2:Vals (vs ++ dvs) (us ++ ds):=r.append hd;have hl:(us ++ ds).length=ps.length:=by rw [<- r2.length];exact F.len _ _ _ _ h
 refine fG (dm (F.run X.A X.stack s H ⟨us,[]⟩ (us ++ ds) (vs ++ dvs) Q E hr I.env0 (hb s us I.kIn hl) r2 h) λ r s' hq=>?_);cases r with
 | error e=>exact hx m5 σ H s e s' I hq
 | ok fl =>
  cases fl with
  | ret u=>exact I.after hq
  | next=>exact False.elim hq
  | brk=>exact False.elim hq
  | cont=>exact False.elim hq
structure Mk (K:A0) (C f:Addr):Prop where
 makes:makesIn K C=true
 init:findIn K (.ref C) "__init__"=some (some (.ref f))
 fn:isFn K (.ref f)=true
 kp:keepIn K (.ref C)=true
theorem zes {Q:VK} {vs:Ar} (M:Mk X.K C f) (F:FnOk X.prog X.w X.K X.mg X.base CX k f fd ps sp) (hr:Room (k + 1) X.A) (hb:Binds X.K fd ps ds) (hd:Vals dvs ds)
  (hx:zch CX X E) (I:Inv X m5 σ H s) (r:Vals vs us)
  (h:∀ x dx,H x=none->H dx=none->dx≠x->sp (.ref x :: (vs ++ dvs)) (upd (upd H dx (.own x)) x (.ins C dx [])) (λ v H2=>v=.non/\Q (.ref x) H2) E) :
  wpAny (model X.prog X.w) X.A (call (.ref C) us) (EP X m5 σ Q) X.xe s:=by
 have hq:=h (s.heap.objs.size + 1) s.heap.objs.size (I.hok.fresh (cc _)) (I.hok.fresh (au _)) (aP (eI _));have I2:=Inv.made (C:=C) I;have r2:Vals (V.ref (s.heap.objs.size + 1) :: (vs ++ dvs)) (Value.ref (s.heap.objs.size + 1) :: (us ++ ds)):=.cons rfl (r.append hd);have hl:(Value.ref (s.heap.objs.size + 1) :: us ++ ds).length=ps.length:=by
  have e:=r2.length;rw [F.len _ _ _ _ hq] at e;exact e.symm
 refine fG (zaH (f:=f) I.kIn M.makes M.init (bA.mp M.fn) (dm (F.run _ X.stack _ _ ⟨Value.ref (s.heap.objs.size + 1) :: us,[]⟩ (Value.ref (s.heap.objs.size + 1) :: (us ++ ds)) _ _ E (hr.make C us [])
  (I2.env0.make C us []) (hb _ (Value.ref (s.heap.objs.size + 1) :: us) I2.kIn hl) r2 hq) λ r s' hq'=>?_))
 cases r with
 | error e=>exact hx m5 σ _ _ e s' I2 hq'
 | ok fl =>
  cases fl with
  | ret u =>
   obtain ⟨v,H',I3,rv,ev,q3⟩:=I2.after hq';subst ev;exact ⟨rv,⟨V.ref (s.heap.objs.size + 1),H',I3,rfl,q3⟩⟩
  | next=>exact False.elim hq'
  | brk=>exact False.elim hq'
  | cont=>exact False.elim hq'
end
def PK (X:Cx) (kws:List Keyword) (t:TA):Prop :=
 ∀ (pos:Pos) (m5:A4) (s:Ap) (σ:St) (H:Hp) (Q:List V->Hp->Prop),Inv X m5 σ H s->t σ H Q->wpAny (model X.prog X.w) X.A (evalAll ((backToKw pos (keywordEach kws X.env)).map (·.2))) (AP X m5 σ Q) X.xe s
section
variable {X:Cx} {CX:CXT} {k:Nat} {f C:Addr} {fd:FuncData} {ps ks:Aa} {sp:Sp} {E:XK} {x m:Str} {p pos apos kpos:Pos} {e o:Expr} {es:List Expr} {kws:List Keyword} {te ta:TE} {t tk:TA} {nm:Option Str}
variable {g:List Value->List Value->List Value} {gV:List V->List V->List V}
end
structure FnScope (N P:Aa) (sc:Scope):Prop where
 kind:sc.kind=.function
 co:sc.isCoroutine=false
 gen:sc.isGenerator=false
 nd:N.Nodup
 pre:N.take P.length=P
 par:∀ x∈P,sc.names.lookup x=some .local\/sc.names.lookup x=some .cell
 nofree:∀ y∈sc.names,y.2≠.free
theorem WN {kindOf:Str->Option NameKind} {x:Str}:∀ {binds:List (Str × Value)} {m:A6},(∀ v,(x,v) ∉ binds)->bindL kindOf binds m x=m x
 | [],_,_=>rfl
 | (n,v) :: r,m,h=>by
  unfold bindL;rw [WN λ w hw=>h w (aF _ hw)]
  split
  ·have:x≠n:=by rintro rfl;exact h v bX
   simp [this]
  ·rfl
theorem WP {kindOf:Str->Option NameKind} {x:Str}:∀ {binds:List (Str × Value)} {m:A6},(∀ v,(x,v) ∉ binds)->bindC kindOf binds m x=m x
 | [],_,_=>rfl
 | (n,v) :: r,m,h=>by
  unfold bindC;rw [WP λ w hw=>h w (aF _ hw)]
  split
  ·rfl
  ·have:x≠n:=by rintro rfl;exact h v bX
   simp [this]
theorem WO {kindOf:Str->Option NameKind} {x:Str} {v:Ao}:∀ {P:Aa} {vs:A9} {i:Nat} {m:A6},P.Nodup->P[i]?=some x->vs[i]?=some v->kindOf x=some .local ->
  bindL kindOf (P.zip vs) m x=some v
 | [],_,_,_,_,h,_,_=>by simp at h
 | _ :: _,[],_,_,_,_,h,_=>by simp at h
 | p :: P,w :: vs,0,m,nd,h1,h2,hk=>by
  simp at h1 h2;subst h1;subst h2;show bindL kindOf ((p,w) :: P.zip vs) m p=_
  unfold bindL;rw [WN λ v hv=>(dD.mp nd).1 (of_mem_zip hv).1,ar hk];simp
 | p :: P,w :: vs,i + 1,m,nd,h1,h2,hk=>by
  show bindL kindOf ((p,w) :: P.zip vs) m x=_
  unfold bindL;exact WO (i:=i) (dD.mp nd).2 (by simpa using h1) (by simpa using h2) hk
theorem WQ {kindOf:Str->Option NameKind} {x:Str} {v:Ao}:∀ {P:Aa} {vs:A9} {i:Nat} {m:A6},P.Nodup->P[i]?=some x->vs[i]?=some v->kindOf x≠some .local ->
  bindC kindOf (P.zip vs) m x=some v
 | [],_,_,_,_,h,_,_=>by simp at h
 | _ :: _,[],_,_,_,_,h,_=>by simp at h
 | p :: P,w :: vs,0,m,nd,h1,h2,hk=>by
  simp at h1 h2;subst h1;subst h2;show bindC kindOf ((p,w) :: P.zip vs) m p=_
  unfold bindC;rw [WP λ v hv=>(dD.mp nd).1 (of_mem_zip hv).1,ap hk];simp
 | p :: P,w :: vs,i + 1,m,nd,h1,h2,hk=>by
  show bindC kindOf ((p,w) :: P.zip vs) m x=_
  unfold bindC;exact WQ (i:=i) (dD.mp nd).2 (by simpa using h1) (by simpa using h2) hk
noncomputable def start (N:Aa) (vs:Ar):St:=vs.map some ++ List.replicate (N.length - vs.length) none
noncomputable def Jg (CX:CXT) (P:Ah) (w:World) (K:A0) (mg:A6) (base:Heap) (N:Aa) (qual:Str) (scope:Scope) (f:Addr) (cd:Ao) (A:Aq) (outer:List Env) (s:Ap) (H:Hp) (E:XK):Cx where
 prog:=P
 w:=w
 K:=K
 mg:=mg
 base:=base
 A:=A.deeper (envOfC qual scope s.heap.objs.size f cd)
 N:=N
 s₀:=s
 H₀:=H
 env:=envOfC qual scope s.heap.objs.size f cd
 outer:=outer
 stack:=envOfC qual scope s.heap.objs.size f cd :: outer
 ex:=[]
 calm:=true
 fn:=λ _=>true
 pn:=[]
 xe:=λ e s'=>wpAny (model P w) (A.deeper (envOfC qual scope s.heap.objs.size f cd)) (leaving (envOfC qual scope s.heap.objs.size f cd) e) (λ _ s''=>CX outer H s E e s'') (λ e' s''=>CX outer H s E e' s'') s'
def za0 {sc:Scope} {n:Nat} (h:sc.names.lookup x=some .cell):∃ c,(cellsFrom n sc.names []).lookup x=some c:=by
 have q:=ft sc.names n [] (.inl h);exact fh.mp q
theorem zdF {N ps:Aa} {qual:Str} {scope:Scope} {f:Addr} {cd:Ao} {outer:List Env} {s s1:Ap} {E:XK} {vs:Ar}
  (S:FnScope N ps scope) (hd:A.handled=none) (e0:Env0 P w K mg base A outer s H) (hl:vs.length=ps.length) (r:Vals vs us)
  (x:InCallC s s.heap.objs.size (bindL (envOfC qual scope s.heap.objs.size f cd).kindOf (ps.zip us) λ _=>none) (cellsFrom (s.heap.objs.size + 1) scope.names []) (bindC (envOfC qual scope s.heap.objs.size f cd).kindOf (ps.zip us) λ _=>none) s1) :
  Inv (Jg CX P w K mg base N qual scope f cd A outer s H E) [] (start N vs) H s1:=by
 have hpl:ps.length<=N.length:=by have:=bt List.length S.pre;rw [aS] at this;lia
 obtain ⟨h1,tk,rfl,hk⟩:=x.done;have noA:∀ b:Addr,b ∉ (Jg CX P w K mg base N qual scope f cd A outer s H E).ex:=λ b z=>absurd (show b∈([]:Ae) from z) (by simp);refine ⟨⟨e0.mod,S.kind,rfl,rfl,au _,λ y z c h1 h2=>?_,λ y hy=>?_,λ y c _ h=>?_,λ _=>hd,Around.frames_deeper e0.frames,.inr ⟨rfl,rfl⟩,λ b z=>absurd z (noA b),e0.bs,e0.bsz,λ b _ _=>noA b,λ b z=>absurd z (noA b),e0.funs,e0.frf⟩,
  rfl,e0.bare,Un.kept hk,⟨_,x.toInCall.ns,λ i y v h1 h2 h3=>?_⟩,λ y c h=>⟨_,x.cell y c h⟩,e0.hok.fresh (au _),λ y c h=>?_,λ p hp=>absurd (show p∈([]:A4) from hp) (by simp),e0.hok.kept hk,?_⟩
 ·exact name_of_addr x.apart (bF h1) (bF h2)
 ·have hy:scope.names.lookup y=some .cell\/scope.names.lookup y=some .free:=hy;rcases hy with hy|hy
  ·exact za0 hy
  ·exact absurd rfl (S.nofree _ (bF hy))
 ·exact bI (x.above y c (bF h))
 ·have hi:i < vs.length:=by
   unfold start at h2;by_cases hi:i < vs.length
   ·exact hi
   ·rw [aI (by simpa using hi)] at h2;rw [dn] at h2
    split at h2 <;> cases h2
  have ha:vs[i]?=some v:=by
   unfold start at h2;rw [aO (by simpa using hi),am] at h2;cases e:vs[i]? with
   | none=>rw [e] at h2;cases h2
   | some a=>rw [e] at h2;cases h2;rfl
  obtain ⟨u,hu,rv⟩:=r.get ha;have hp:ps[i]?=some y:=by
   rw [<- S.pre,List.getElem?_take_of_lt (by lia)];exact h1
  have ndP:ps.Nodup:=by rw [<- S.pre];exact S.nd.sublist (List.take_sublist _ _)
  refine ⟨u,rv,?_⟩;rcases S.par y (ah hp) with k|k
  ·exact .inl ⟨k,WO ndP hp hu k⟩
  ·obtain ⟨c,e⟩:=za0 (n:=s.heap.objs.size + 1) k;refine .inr ⟨.inl k,c,e,?_⟩;have q:=x.cell y c e;rw [WQ ndP hp hu (by show scope.names.lookup y≠_;rw [k];decide)] at q;exact q
 ·exact e0.hok.fresh (bI (x.above y c (bF h)))
 ·unfold start;show _=N.length
  rw [aQ,ai,bd]
  lia
theorem zfb {f:Addr} {name qual:Str} {params:Arguments} {body:List Stmt} {scope:Scope} {dV kV doc pm cdv ct oc:Ao} {an od:Ac}
  {osl:Ag} {N ps:Aa} {sp:Sp} (lk:K.lookup f=some ⟨oc,od,.func (fnOf name qual params body scope dV kV doc pm an cdv ct),osl⟩) (hcd:codeIn K cdv qual=true) (S:FnScope N ps scope)
  (len:∀ vs H Q E,sp vs H Q E->vs.length=ps.length)
  (hbody:∀ (A:Aq) (outer:List Env) (s:Ap) (H:Hp) (vs:Ar) (Q:VK) (E:XK),Room k (A.deeper (envOfC qual scope s.heap.objs.size f cdv))->sp vs H Q E ->
   ∃ t,PSs (Jg CX P w K mg base N qual scope f cdv A outer s H E) body t/\t { nx:=λ _ H'=>Q .non H',rt:=Q } (start N vs) H) :
  FnOk P w K mg base CX (k + 1) f (fnOf name qual params body scope dV kV doc pm an cdv ct) ps sp:=by
 refine ⟨len,λ A outer s H args us vs Q E hr e0 hb r hsp=>?_⟩;have hl:=len _ _ _ _ hsp;have KX:K.In s.heap:=e0.mod.kin.keeps λ b o e=>(e0.bs b o e).1;have lim:s.heap.NoLimit:=e0.mod.nolimit.keeps λ b o e=>(e0.bs b o e).1;have hkind:∀ y∈ps.zip us,scope.names.lookup y.1=some .local\/(scope.names.lookup y.1=some .cell/\((cellsFrom (s.heap.objs.size + 1) scope.names []).lookup y.1).isSome=true):=λ ⟨n,v⟩ hy=>by
  rcases S.par n (of_mem_zip hy).1 with q|q
  ·exact .inl q
  ·exact .inr ⟨q,ft _ _ _ (.inl q)⟩
 refine codeAny_call_function hr.depth (KX _ _ lk) rfl S.co S.gen rfl (PySem.W.codeRec_of KX hcd) (hb _ _ _ _ ?_);refine wpAny_newFunctionEnv_cells S.kind hkind λ env he s1 x=>?_;subst he;refine ⟨lim.keeps x.toInCall.keep,codeAny_func ?_⟩;obtain ⟨t,ht,hq⟩:=hbody A outer s H vs Q E (hr.deeper _) hsp;have I:Inv (Jg CX P w K mg base N qual scope f cdv A outer s H E) [] (start N vs) H s1:=zdF S hr.hd e0 hl r x;refine aV (ht [] s1 (start N vs) H _ I hq) (λ fl s' hs=>?_) λ e s' hs=>hs;have fin:∀ {σ':St} {H':Hp} {v:V} {u:Ao},Inv (Jg CX P w K mg base N qual scope f cdv A outer s H E) [] σ' H' s'->RelV v u->Q v H'->CE outer P w H s Q u s' :=
  λ {σ' H' v u} J rv q=>⟨v,H',J.os,J.bare,J.base,J.hok,rv,q⟩
 cases fl with
 | ret u =>
  obtain ⟨v,σ',H',J,rv,q⟩:=hs;exact fin J rv q
 | next =>
  obtain ⟨σ',H',J,q⟩:=hs;exact fin (v:=V.non) (u:=Value.none) J rfl q
 | brk =>
  obtain ⟨_,_,_,q⟩:=hs;exact False.elim q
 | cont =>
  obtain ⟨_,_,_,q⟩:=hs;exact False.elim q
section
variable {X:Cx} {x:Str} {p pos:Pos} {e:Expr} {es:List Expr} {t:TA} {id T:String} {r:List V->Hp->VK->Prop}
def tCB (r:List V->Hp->VK->Prop) (t:TA):TE:=λ σ H Q=>t σ H λ vs H1=>r vs H1 Q
def zeD (hc:CallR X (.builtin id) r) (hg:Gl X x) (hm:X.mg x=none) (hv:bootBuiltins x=some (.builtin id)) (ha:PA X (e :: es) t) (hn:x≠"__name__":=by decide) (hdb:(x == ("__debug__":Str))=false:=by decide)
  (he:starEach (e :: es) X.env=(false,eval e X.env) :: starEach es X.env:=by rfl) (hpl:(backTo pos (starEach es X.env)).any (·.1)=false:=by rfl):PE X (.Call (.Name x p) (e :: es) [] pos) (tCB r t):=by
 intro m5 s σ H Q I h;refine bw (wQ I hg hm hv ?_ hn hdb);exact PyProof.Rows.callWith_builtin1 (w6 (ha pos m5 s σ H _ I h) λ us s1 vs H1 I1 r1 q1=>hc m5 s1 σ H1 vs us Q I1 r1 q1) he hpl
def zdt (hc:CallR X (.type T) r) (hg:Gl X x) (hm:X.mg x=none) (hv:bootBuiltins x=some (.type T)) (ha:PA X (e :: es) t) (hn:x≠"__name__":=by decide) (hdb:(x == ("__debug__":Str))=false:=by decide)
  (he:starEach (e :: es) X.env=(false,eval e X.env) :: starEach es X.env:=by rfl) (hpl:(backTo pos (starEach es X.env)).any (·.1)=false:=by rfl):PE X (.Call (.Name x p) (e :: es) [] pos) (tCB r t):=by
 intro m5 s σ H Q I h;refine bw (wQ I hg hm hv ?_ hn hdb);exact a8 (w6 (ha pos m5 s σ H _ I h) λ us s1 vs H1 I1 r1 q1=>hc m5 s1 σ H1 vs us Q I1 r1 q1) he hpl
end
end L2
namespace HT
open PySem PyProof.Rows
section
open PySem.SeqAt
open PySem.AutoSeq1 (wpAny_loadPart')
open PySem.MeetsSeq PySem.MeetsSeq2 PySem.MeetsSeq3
end
section
variable {prog:Ah} {w:World} {A:Aq} {E:A5} {s:Ap}
noncomputable def sIx (n d:Nat):Option Int->Nat
 | none=>d
 | some v=>if v < 0 then (v + (n:Int)).toNat else min v.toNat n
def sIx_none (n d:Nat):sIx n d none=d:=rfl
def sIx_nat (n d k:Nat):sIx n d (some (k:Int))=min k n:=by
 show (if (k:Int) < 0 then ((k:Int) + (n:Int)).toNat else min (k:Int).toNat n)=min k n
 rw [ap (by lia),aB]
end
end HT
namespace L2
open PySem PySem.Spec PyProof.Rows
abbrev TO:=St->Hp->(Option Int->Hp->Prop)->Prop
def PO (X:Cx) (e:Option Expr) (t:TO):Prop :=
 ∀ (m5:A4) (s:Ap) (σ:St) (H:Hp) (Q:Option Int->Hp->Prop),Inv X m5 σ H s->t σ H Q ->
  wpAny (model X.prog X.w) X.A (evalPart e X.env) (λ u s'=>∃ o H',Inv X m5 σ H' s'/\IsPart u o/\Q o H') X.xe s
def tNoPart:TO:=λ _ H Q=>Q none H
def tPart (t:TE):TO:=λ σ H Q=>t σ H λ x H1=>iq x λ i=>Q (some i) H1
def zb0 {ns:A8}:∀ {us:A9},Vals (ns.map V.int) us->IntsAre us ns:=by
 induction ns with
 | nil=>intro us r;rw [map_nil] at r;cases r;exact .nil
 | cons n ns ih =>
  intro us r;rw [bR] at r;cases r with
  | cons r1 r2 =>
   obtain ⟨t,e⟩:=r1;subst e;exact .cons n t (ih r2)
section
variable {X:Cx} {e:Expr} {te:TE} {lo hi:Option Expr} {tl th:TO} {pos p2:Pos}
def ZU:PO X none tNoPart:=by
 intro m5 s σ H Q I h;rw [evalPart_none];exact aD ⟨none,H,I,.none,h⟩
def wM (h:PE X e te):PO X (some e) (tPart te):=by
 intro m5 s σ H Q I hw;rw [evalPart_some];refine qL (h m5 s σ H _ I hw) λ u s1 x H1 I1 r1 q1=>?_;obtain ⟨i,rfl,q⟩:=Z8 q1;obtain ⟨t,rfl⟩:=r1;exact ⟨some i,H1,I1,.int i t,q⟩
def SlR (X:Cx) (r:V->Option Int->Option Int->Hp->VK->Prop):Prop :=
 ∀ (m5:A4) (s:Ap) (σ:St) (H:Hp) (x:V) (v vl vu:Ao) (lo hi:Ab) (sl:Addr) (Q:VK),Inv X m5 σ H s->RelV x v->s.heap.IsSliceOf sl vl vu .none->IsPart vl lo->IsPart vu hi->r x lo hi H Q ->
  ∃ T id,typeLookup (.type T) "__getitem__"=pure (some (.builtin id))/\s.TypeIs v T/\wpAny (model X.prog X.w) X.A (getItem v (.ref sl)) (EP X m5 σ Q) X.xe s
def SlR.or {r r':V->Option Int->Option Int->Hp->VK->Prop} (h:SlR X r) (h':SlR X r'):SlR X (λ x lo hi H Q=>r x lo hi H Q\/r' x lo hi H Q):=by
 intro m5 s σ H x v vl vu lo hi sl Q I rx hs pl pu q;rcases q with q|q
 ·exact h m5 s σ H x v vl vu lo hi sl Q I rx hs pl pu q
 ·exact h' m5 s σ H x v vl vu lo hi sl Q I rx hs pl pu q
def tSl (r:V->Option Int->Option Int->Hp->VK->Prop) (te:TE) (tl th:TO):TE:=λ σ H Q=>te σ H λ x H1=>tl σ H1 λ l H2=>th σ H2 λ u H3=>r x l u H3 Q
def wg {r:V->Option Int->Option Int->Hp->VK->Prop} (hr:SlR X r) (he:PE X e te) (hl:PO X lo tl) (hu:PO X hi th):PE X (.Subscript e (.Slice lo hi none p2) pos) (tSl r te tl th):=by
 intro m5 s σ H Q I h;refine Subscript_ (qL (he m5 s σ H _ I h) λ v s1 x H1 I1 r1 q1=>?_);refine wpAny_Slice (thn (hl m5 s1 σ H1 _ I1 q1) λ vl s2 ⟨l,H2,I2,pl,q2⟩=>thn (hu m5 s2 σ H2 _ I2 q2) λ vu s3 ⟨u,H3,I3,pu,q3⟩=>?_);rw [evalPart_none];refine aD ?_;have I4:Inv X m5 σ H3 { s3 with heap:=s3.heap.push { cls:=.type "slice",data:=.fields #[vl,vu,.none] } }:=I3.kept (t':=s3.toks) λ b ob q=>aj _ q;obtain ⟨T,id,hT,ht,hg⟩:=hr m5 { s3 with heap:=s3.heap.push { cls:=.type "slice",data:=.fields #[vl,vu,.none] } } σ H3 x v vl vu l u s3.heap.objs.size Q I4 r1 (Heap.IsSliceOf.new ..) pl pu q3;show wpAny (model X.prog X.w) X.A (subscriptTail e (.Slice lo hi none p2) v (.ref s3.heap.objs.size)) (EP X m5 σ Q) X.xe { s3 with heap:=s3.heap.push { cls:=.type "slice",data:=.fields #[vl,vu,.none] } }
 exact tail_any (ops:=[.ref s3.heap.objs.size,v]) ht hT hg (by with_unfolding_all rfl)
noncomputable def Qa (xs:Ar) (lo hi:Ab):List V:=(xs.drop (HT.sIx xs.length 0 lo)).take (HT.sIx xs.length xs.length hi - HT.sIx xs.length 0 lo)
def zaW (xs:Ar) (lo hi:Ab):(Qa xs lo hi).length<=xs.length:=by
 unfold Qa;rw [aS,dA]
 lia
end
noncomputable def ixN (n:Nat) (i:Int):Option Nat:=if 0<=i then (if i < n then some i.toNat else none) else if -(n:Int)<=i then some (i + n).toNat else none
noncomputable def atI {α:Type} (xs:List α) (i:Int):Option α:=(ixN xs.length i).bind λ j=>xs[j]?
def zcz {n:Nat} {i:Int} {j:Nat} (h:ixN n i=some j):seqIndex? i n=some j/\j < n/\-(n:Int)<=i/\i < n:=by
 unfold ixN at h;by_cases h0:0<=i
 ·rw [ar h0] at h;by_cases h1:i < n
  ·rw [ar h1] at h;have e:i.toNat=j:=aT h;exact ⟨by rw [fq h0 h1,e],by lia,by lia,h1⟩
  ·rw [ap h1] at h;cases h
 ·rw [ap h0] at h;by_cases h1:-(n:Int)<=i
  ·rw [ar h1] at h;have e:(i + n).toNat=j:=aT h;exact ⟨by rw [seqIndex_neg (by lia) h1,e],by lia,h1,by lia⟩
  ·rw [ap h1] at h;cases h
def Jx {α:Type} {xs:List α} {i:Int} {v:α} (h:atI xs i=some v):∃ j,seqIndex? i xs.length=some j/\xs[j]?=some v/\j < xs.length/\-(xs.length:Int)<=i/\i < xs.length:=by
 unfold atI at h;cases e:ixN xs.length i with
 | none=>rw [e] at h;cases h
 | some j =>
  rw [e] at h;obtain ⟨h1,h2,h3,h4⟩:=zcz e;exact ⟨j,h1,h,h2,h3,h4⟩
def zE {α:Type} {xs:List α} {j:Nat} {v:α} (h:xs[j]?=some v):atI xs (j:Int)=some v:=by
 have hj:j < xs.length:=(aa.mp h).1;have e:ixN xs.length (j:Int)=some j:=by
  unfold ixN;rw [ar (by lia),ar (by lia)];simp
 unfold atI;rw [e];exact h
def zc1 (b:Expr):Prop:=∀ o i,subscripted b false o i=operate [o,i] (getItem o i)
def IxR (X:Cx) (r:R2):Prop :=
 ∀ (value slice:Expr) (m5:A4) (s:Ap) (σ:St) (H:Hp) (x y:V) (v u:Ao) (Q:VK),Inv X m5 σ H s->RelV x v->RelV y u->r x y H Q ->
  subscripted slice false v u=operate [v,u] (getItem v u)->wpAny (model X.prog X.w) X.A (subscriptTail value slice v u) (EP X m5 σ Q) X.xe s
def MtR (X:Cx) (id:String) (r:V->List V->Hp->VK->Prop):Prop :=
 ∀ (m5:A4) (s:Ap) (σ:St) (H:Hp) (x:V) (xs:Ar) (v:Ao) (us:A9) (Q:VK),Inv X m5 σ H s->RelV x v->Vals xs us->r x xs H Q ->
  wpAny (model X.prog X.w) X.A (call (.builtin id) (v :: us)) (EP X m5 σ Q) X.xe s
section
variable {X:Cx} {a b:Expr} {ta tb:TE} {pos:Pos}
def IxR.or {r r':R2} (h:IxR X r) (h':IxR X r'):IxR X (λ x y H Q=>r x y H Q\/r' x y H Q):=by
 intro value slice m5 s σ H x y v u Q I rx ry q hs;rcases q with q|q
 ·exact h value slice m5 s σ H x y v u Q I rx ry q hs
 ·exact h' value slice m5 s σ H x y v u Q I rx ry q hs
def MtR.or {id:String} {r r':V->List V->Hp->VK->Prop} (h:MtR X id r) (h':MtR X id r'):MtR X id (λ x xs H Q=>r x xs H Q\/r' x xs H Q):=by
 intro m5 s σ H x xs v us Q I rx rs q;rcases q with q|q
 ·exact h m5 s σ H x xs v us Q I rx rs q
 ·exact h' m5 s σ H x xs v us Q I rx rs q
def zh7 {r:R2} (hr:IxR X r) (ha:PE X a ta) (hb:PE X b tb) (hs:zc1 b):PE X (.Subscript a b pos) (tOp r ta tb):=by
 intro m5 s σ H Q I h;exact Subscript_ (zhK ha hb I h λ v u s2 x y H2 I2 rx ry q=>hr a b m5 s2 σ H2 x y v u Q I2 rx ry q (hs _ _))
def zh5 (K:A0):R2:=λ x y H Q=>∃ p xs i v,x=.ref p/\y=.int i/\SqL K H p xs/\atI xs i=some v/\Q v H
def zh3 (K:A0):R2:=λ x y H Q=>∃ p xs i v,x=.ref p/\y=.int i/\SqT K H p xs/\atI xs i=some v/\Q v H
def zh4:R2:=λ x y H Q=>∃ z i c,x=.str z/\y=.int i/\z.length<=sizeLine/\atI z.cps.toList i=some c/\Q (.str ⟨#[c]⟩) H
def ix_list:IxR X (zh5 X.K):=by
 intro value slice m5 s σ H x y v u Q I rx ry h hs;obtain ⟨p,xs,i,z,rfl,rfl,hq,he,q⟩:=h;cases rx;obtain ⟨t,rfl⟩:=ry;obtain ⟨mM,r,pl,hz⟩:=I.list hq;obtain ⟨j,h1,h2,h3,h4,h5⟩:=Jx he;obtain ⟨w,ew,rw'⟩:=r.get h2;have hl:=r.length;have hn:=ZD;have fin:EP X m5 σ Q w s:=⟨z,H,I,rw',q⟩;by_cases h0:0<=i
 ·have hj:i.toNat=j:=by
   rw [fq h0 h5] at h1;exact aT h1
  exact item_listR pl.isList h0 (by lia) (by rw [hj];simpa using ew) fin hs
 ·have hj:(i + (mM.toArray.size:Int)).toNat=j:=by
   rw [seqIndex_neg (by lia) h4] at h1;rw [av,<- hl];exact aT h1
  exact subscriptTail_builtinR (x:=w) pl.isList.typeIs slot_list_getitem.lookup
   (wpAny_getItem_list_neg (Q:=λ r s'=>r=w/\EP X m5 σ Q r s') pl.isList (by lia) (by rw [av] <;> lia) (by lia) (by rw [hj];simpa using ew) ⟨rfl,fin⟩) hs
def ix_tup:IxR X (zh3 X.K):=by
 intro value slice m5 s σ H x y v u Q I rx ry h hs;obtain ⟨p,xs,i,z,rfl,rfl,hq,he,q⟩:=h;cases rx;obtain ⟨t,rfl⟩:=ry;obtain ⟨mM,r,pl,hz⟩:=I.tuple hq;obtain ⟨j,h1,h2,h3,h4,h5⟩:=Jx he;obtain ⟨w,ew,rw'⟩:=r.get h2;have hl:=r.length;have hn:=ZD;have fin:EP X m5 σ Q w s:=⟨z,H,I,rw',q⟩;exact subscriptTail_builtinR (x:=w) pl.typeIs slot_tuple_getitem.lookup
  (getItem_tuple (j:=j) (Q:=λ r s'=>r=w/\EP X m5 σ Q r s') pl (by lia) (by lia) (by rw [av,<- hl];exact h1) (by simpa using ew) ⟨rfl,fin⟩) hs
def zhs:IxR X zh4:=by
 intro value slice m5 s σ H x y v u Q I rx ry h hs;obtain ⟨z,i,c,rfl,rfl,hz,he,q⟩:=h;obtain ⟨t,rfl⟩:=rx;obtain ⟨t',rfl⟩:=ry;obtain ⟨j,h1,h2,h3,h4,h5⟩:=Jx he;have hl:z.cps.toList.length=z.length:=by simp [Str.length]
 rw [hl] at h1 h4 h5;have hn:=ZD;exact tail_any (typeIs_str s z t) slot_str_getitem.lookup (getItem_str (c:=c) (by
  have e1:decide (i < -(2 ^ 63:Int))=false:=aW (by lia);have e2:decide (i ≥ 2 ^ 63)=false:=aW (by lia);rw [e1,e2,Bool.or_false]) (by rw [h1];simpa using h2) ⟨.str ⟨#[c]⟩,H,I.tok _,⟨_,rfl⟩,q⟩) hs
def rIx (K:A0):R2:=λ x y H Q=>zh5 K x y H Q\/zh3 K x y H Q\/zh4 x y H Q
def zht:IxR X (rIx X.K):=ix_list.or (ix_tup.or zhs)
def zbP (mM:A9) (n j:Nat) (u:Ao):Obj.mapSeq (·.setIfInBounds j u) { cls:=.type "list",data:=.seq mM.toArray n }={ cls:=.type "list",data:=.seq (mM.set j u).toArray n }:=by
 simp [Obj.mapSeq]
def Inv.lst {m5:A4} {σ:St} {H:Hp} {s:Ap} {p:Addr} {xs:Ar} (I:Inv X m5 σ H s) (h:H p=some (.lst xs)) :
  ∃ (mM:A9) (n:Nat),Vals xs mM/\s.heap.get? p=some { cls:=.type "list",data:=.seq mM.toArray n }/\xs.length<=sizeLine:=by
 obtain ⟨z,mM,n,r,e⟩:=I.hok p _ h;exact ⟨mM,n,r,e,z⟩
def Inv.lstUpd {m5:A4} {σ:St} {H:Hp} {s:Ap} {p:Addr} {xs ys:Ar} {mM its':A9} {n n':Nat} {f:Obj->Obj} (I:Inv X m5 σ H s) (h:H p=some (.lst xs))
  (ho:s.heap.get? p=some { cls:=.type "list",data:=.seq mM.toArray n }) (hf:f { cls:=.type "list",data:=.seq mM.toArray n }={ cls:=.type "list",data:=.seq its'.toArray n' }) (r:Vals ys its') (hz:ys.length<=sizeLine) (t:Nat) :
  Inv X m5 σ (upd H p (.lst ys)) { s with heap:=s.heap.update p f,toks:=t }:=by
 have e:(s.heap.update p f).get? p=some { cls:=.type "list",data:=.seq its'.toArray n' }:=by
  rw [bu f ho (by rw [hf] <;> rfl),hf]
 refine I.write (x:=p) (e:=p) (by rw [h];trivial) (.inl rfl) (λ b u hb q=>(bc _ _ (aX hb)).trans q) ⟨_,e⟩ ?_;exact ⟨hz,its',n',r,e⟩
def zgB:V->V->V->Hp->(Hp->Prop)->Prop:=λ o i v H Q=>∃ p xs k j,o=.ref p/\i=.int k/\H p=some (.lst xs)/\ixN xs.length k=some j/\Q (upd H p (.lst (xs.set j v)))
def wb:zhP X zgB:=by
 intro m5 s σ H o i v ov iv u Q I ro ri rv h;obtain ⟨p,xs,k,j,rfl,rfl,hp,hj,q⟩:=h;cases ro;obtain ⟨t,rfl⟩:=ri;obtain ⟨mM,n,r,ho,hz⟩:=I.lst hp;obtain ⟨h1,h2,h3,h4⟩:=zcz hj;have hl:=r.length;have hn:=ZD;have I':Inv X m5 σ (upd H p (.lst (xs.set j v))) { s with heap:=s.heap.update p (Obj.mapSeq (·.setIfInBounds j u)) } :=
  I.lstUpd hp ho (zbP mM n j u) (r.set rv j) (by rw [bS];exact hz) s.toks
 by_cases h0:0<=k
 ·have hk:k.toNat=j:=by
   rw [fq h0 h4] at h1;exact aT h1
  exact PySem.W.ki_setAt ho h0 (by lia) (by rw [av,<- hl];exact h4) (by rw [hk];exact ⟨_,I',q⟩)
 ·have hk:(k + (mM.toArray.size:Int)).toNat=j:=by
   rw [seqIndex_neg (by lia) h3] at h1;rw [av,<- hl];exact aT h1
  exact PySem.W.ki_setBack ho (by lia) (by rw [av,<- hl];exact h3) (by lia) (by rw [hk];exact ⟨_,I',q⟩)
def Va (lo hi:Ab) (n:Nat):(sliceBounds lo hi none n).1=((HT.sIx n 0 lo:Nat):Int)/\(sliceBounds lo hi none n).2.1=((HT.sIx n n hi:Nat):Int)/\(sliceBounds lo hi none n).2.2=1:=by
 refine ⟨?_,?_,rfl⟩
 ·cases lo with
  | none=>simp [sliceBounds,HT.sIx]
  | some i =>
   simp only [sliceBounds,HT.sIx,eE,show (1:Int) > 0 by decide,d8];by_cases h:i < 0
   ·simp only [h,d8] <;> lia
   ·simp only [h,dM] <;> lia
 ·cases hi with
  | none=>simp [sliceBounds,HT.sIx]
  | some i =>
   simp only [sliceBounds,HT.sIx,eE,show (1:Int) > 0 by decide,d8];by_cases h:i < 0
   ·simp only [h,d8] <;> lia
   ·simp only [h,dM] <;> lia
def XN (mM:A9) (lo hi:Ab):slicePick mM.toArray lo hi none=((mM.drop (HT.sIx mM.length 0 lo)).take (HT.sIx mM.length mM.length hi - HT.sIx mM.length 0 lo)).toArray:=by
 obtain ⟨h1,h2,h3⟩:=Va lo hi mM.toArray.size;unfold slicePick;rw [h1,h2,h3];simp only [sliceRange_one,pick_run,av] <;> rfl
def zg0 (K:A0):V->Option Int->Option Int->Hp->VK->Prop:=λ x lo hi H Q=>∃ a xs,x=.ref a/\SqL K H a xs/\∀ p,H p=none->Q (.ref p) (upd H p (.lst (Qa xs lo hi)))
def zfE:SlR X (zg0 X.K):=by
 intro m5 s σ H x v vl vu lo hi sl Q I rx hs pl pu h;obtain ⟨a,xs,rfl,hx,q⟩:=h;cases rx;obtain ⟨mM,r,ht,hz⟩:=I.list hx;have hlen:=r.length;refine ⟨"list",_,slot_list_getitem.lookup,ht.isList.typeIs,?_⟩;refine wpAny_getItem_list_slice ht.isList hs pl pu .none (by simp) ?_ (by rw [av] <;> lia);rw [XN,<- hlen];refine ⟨.ref s.heap.objs.size,_,I.laid (t':=s.toks) (o:=.lst (Qa xs lo hi)) (λ b ob q=>aj _ q) (au _) ?_,rfl,q _ (I.hok.fresh (au _))⟩;exact ⟨ba (zaW xs lo hi) hz,_,0,(r.drop (HT.sIx xs.length 0 lo)).take (HT.sIx xs.length xs.length hi - HT.sIx xs.length 0 lo),aE _ rfl⟩
noncomputable def xF:V->Bool
 | .non=>true
 | .bl _=>true
 | .int _=>true
 | .str _=>true
 | _=>false
noncomputable def eqV:V->V->Bool
 | .non,.non=>true
 | .bl a,.bl b=>a == b
 | .bl a,.int b=>(if a then 1 else 0) == b
 | .int a,.bl b=>a == (if b then 1 else 0)
 | .int a,.int b=>a == b
 | .str a,.str b=>a == b
 | _,_=>false
def QM {A:Aq} {s:Ap} {y x:V} {u v:Ao} (ry:RelV y u) (rx:RelV x v) (fy:xF y=true) (fx:xF x=true):SeqAt.EqAt A s u v (eqV y x):=by
 cases y with
 | non =>
  cases ry;cases x with
  | non=>cases rx;exact dU _
  | bl b=>cases rx;exact SeqAt.EqAt.none_bool b
  | int b=>obtain ⟨t,rfl⟩:=rx;exact SeqAt.EqAt.none_int b t
  | str b=>obtain ⟨t,rfl⟩:=rx;exact SeqAt.EqAt.none_str b t
  | _=>exact absurd (show false=true from fx) aC
 | bl a =>
  cases ry;cases x with
  | non=>cases rx;exact SeqAt.EqAt.bool_none a
  | bl b=>cases rx;exact SeqAt.EqAt.bool_bool a b
  | int b=>obtain ⟨t,rfl⟩:=rx;exact SeqAt.EqAt.bool_int a b t
  | str b=>obtain ⟨t,rfl⟩:=rx;exact SeqAt.EqAt.bool_str a b t
  | _=>exact absurd (show false=true from fx) aC
 | int a =>
  obtain ⟨t',rfl⟩:=ry;cases x with
  | non=>cases rx;exact SeqAt.EqAt.int_none a t'
  | bl b=>cases rx;exact SeqAt.EqAt.int_bool a t' b
  | int b=>obtain ⟨t,rfl⟩:=rx;exact SeqAt.EqAt.int_int a t' b t
  | str b=>obtain ⟨t,rfl⟩:=rx;exact SeqAt.EqAt.int_str a t' b t
  | _=>exact absurd (show false=true from fx) aC
 | str a =>
  obtain ⟨t',rfl⟩:=ry;cases x with
  | non=>cases rx;exact SeqAt.EqAt.str_none a t'
  | bl b=>cases rx;exact SeqAt.EqAt.str_bool a t' b
  | int b=>obtain ⟨t,rfl⟩:=rx;exact SeqAt.EqAt.str_int a t' b t
  | str b=>obtain ⟨t,rfl⟩:=rx;exact SeqAt.EqAt.str_str a t' b t
  | _=>exact absurd (show false=true from fx) aC
 | _=>exact absurd (show false=true from fy) aC
def CallR.or {f:Ao} {r r':List V->Hp->VK->Prop} (h:CallR X f r) (h':CallR X f r'):CallR X f (λ xs H Q=>r xs H Q\/r' xs H Q):=by
 intro m5 s σ H xs us Q I rs q;rcases q with q|q
 ·exact h m5 s σ H xs us Q I rs q
 ·exact h' m5 s σ H xs us Q I rs q
def VL:CallR X (.type "list") (λ xs H Q=>∃ p ys,xs=[.ref p]/\(SqL X.K H p ys\/SqT X.K H p ys)/\∀ l,H l=none->Q (.ref l) (upd H l (.lst ys))):=by
 intro m5 s σ H xs us Q I r h;obtain ⟨p,ys,rfl,hq,q⟩:=h;obtain ⟨u,rfl,rx⟩:=Jy r;cases rx;have fin:∀ (mM:A9),Vals ys mM->ys.length<=sizeLine->∀ (h':Heap) (c':Nat),(∀ b o',s.heap.get? b=some o'->h'.get? b=some o') ->
   h'.get? s.heap.objs.size=some { cls:=.type "list",dict:=none,data:=.seq mM.toArray c',slots:=#[] }->EP X m5 σ Q (.ref s.heap.objs.size) { s with heap:=h' }:=λ mM r' hz h' c' kp e =>
  ⟨.ref s.heap.objs.size,_,I.laid (t':=s.toks) kp (au _) (show ObjOk X.prog X.w _ h' _ (.lst ys) from ⟨hz,mM,c',r',e⟩),rfl,q _ (I.hok.fresh (au _))⟩
 rcases hq with hq|hq
 ·obtain ⟨mM,r',pl,hz⟩:=I.list hq;have hlen:=r'.length;obtain ⟨o,ho,hc,n,hd⟩:=pl.isList;exact call_list_seq p (.inl rfl) ho hc hd (λ h' c' kp e=>fin mM r' hz h' c' kp e) (by simp only [av] <;> lia)
 ·obtain ⟨mM,r',pl,hz⟩:=I.tuple hq;have hlen:=r'.length;obtain ⟨o,ho,hc,n,hd⟩:=pl;exact call_list_seq p (.inr rfl) ho hc hd (λ h' c' kp e=>fin mM r' hz h' c' kp e) (by simp only [av] <;> lia)
def X8:CallR X (.type "tuple") (λ xs H Q=>∃ p ys,xs=[.ref p]/\((SqL X.K H p ys/\∀ l,H l=none->Q (.ref l) (upd H l (.tup ys)))\/(SqT X.K H p ys/\Q (.ref p) H))):=by
 intro m5 s σ H xs us Q I r h;obtain ⟨p,ys,rfl,h⟩:=h;obtain ⟨u,rfl,rx⟩:=Jy r;cases rx;rcases h with ⟨hq,q⟩|⟨hq,q⟩
 ·obtain ⟨mM,r',pl,hz⟩:=I.list hq;have hlen:=r'.length;refine call_tuple_list pl.isList (λ h' kp=>?_) (by simp only [av] <;> lia);have I1:Inv X m5 σ H { s with heap:=h' }:=I.kept (t':=s.toks) kp;have I2:Inv X m5 σ (upd H h'.objs.size (.tup ys)) { s with heap:=h'.push { cls:=.type "tuple",data:=.seq mM.toArray } } :=
   I1.laid (t':=s.toks) (λ b o e=>aj _ e) (au _) (show ObjOk X.prog X.w _ _ _ (.tup ys) from ⟨hz,mM,r',IsTup.new _ _⟩)
  exact ⟨.ref h'.objs.size,_,I2,rfl,q _ (I1.hok.fresh (au _))⟩
 ·obtain ⟨mM,r',pl,hz⟩:=I.tuple hq;exact call_tuple_same pl ⟨.ref p,H,I,rfl,q⟩
def tyV (K:A0) (T:String) (x:V) (H:Hp):Prop:=match x with
 | .str _=>T="str"
 | .int _=>T="int"
 | .ref p=>(T="list"/\∃ xs,SqL K H p xs)\/(T="tuple"/\∃ o,K.lookup p=some o/\o.cls=.type "tuple"/\o.dict=none) \/
   (T="dict"/\((∃ mK,H p=some (.dK mK))\/∃ mK,H p=some (.dT mK)))\/(T="set"/\∃ S n,H p=some (.set S n))
 | _=>False
theorem zgN {m5:A4} {σ:St} {H:Hp} {s:Ap} {T:String} {x:V} {v:Ao} (I:Inv X m5 σ H s) (r:RelV x v) (ty:tyV X.K T x H) :
  s.TypeIs v T/\∀ a,v=.ref a->∃ ob,s.heap.get? a=some ob/\ob.dict=none:=by
 cases x with
 | str z =>
  obtain ⟨t,rfl⟩:=r;cases (show T="str" from ty);exact ⟨typeIs_str s z t,λ _ e=>nomatch e⟩
 | int i =>
  obtain ⟨t,rfl⟩:=r;cases (show T="int" from ty);exact ⟨typeIs_int s i t,λ _ e=>nomatch e⟩
 | ref p =>
  cases r;rcases ty with ⟨rfl,xs,hq⟩|⟨rfl,o,hk,hc,hd⟩|⟨rfl,hk⟩|⟨rfl,S,n,hk⟩
  ·obtain ⟨mM,_,pl,_⟩:=I.list hq;refine ⟨pl.isList.typeIs,λ a e=>?_⟩;cases e;obtain ⟨o,n,e,c,hd,_⟩:=pl;exact ⟨o,e,hd⟩
  ·refine ⟨⟨o,I.kIn p o hk,hc⟩,λ a e=>?_⟩;cases e;exact ⟨o,I.kIn _ o hk,hd⟩
  ·have z:∃ o,s.heap.get? p=some o/\o.ExactDict:=by
    rcases hk with ⟨mK,hk⟩|⟨mK,hk⟩
    ·obtain ⟨_,_,_,_,o,_,_,e,ex,_⟩:=I.hok p _ hk;exact ⟨o,e,ex⟩
    ·obtain ⟨_,_,_,_,o,_,_,e,ex,_⟩:=I.hok p _ hk;exact ⟨o,e,ex⟩
   obtain ⟨o,e,ex⟩:=z;refine ⟨⟨o,e,ex.1⟩,λ a e2=>?_⟩;cases e2;exact ⟨o,e,ex.2.1⟩
  ·obtain ⟨o,_,_,_,e,ex,_⟩:=I.hok p _ hk;refine ⟨⟨o,e,ex.1⟩,λ a e2=>?_⟩;cases e2;exact ⟨o,e,ex.2.1⟩
 | _=>exact False.elim ty
def tBM (K:A0) (T:String) (r:V->List V->Hp->VK->Prop) (to:TE) (t:TA):TE:=λ σ H Q=>to σ H λ x H1=>tyV K T x H1/\t σ H1 λ xs H2=>r x xs H2 Q
variable {o e:Expr} {es:List Expr} {to:TE} {t:TA} {name:Str} {apos cpos:Pos} {T id:String} {r:V->List V->Hp->VK->Prop}
def qy (pa:PlainAttrs T) (slot:Slot T name id) (hty:typeOf (.builtin id)=pure (.type "method_descriptor")) (hm:MtR X id r) (ho:PE X o to) (ha:PA X (e :: es) t)
  (hbase:attributeBase o name X.env (eval o X.env)=eval o X.env:=by rfl)
  (hfew:((backTo cpos (starEach (e :: es) X.env)).all (λ x=>!x.1) && (backToKw cpos (keywordEach [] X.env)).all (λ x=>x.1.isSome)
   && decide ((e :: es).length + ([]:List Keyword).length + (if ([]:List Keyword).isEmpty then 0 else 1) < 30))=true:=by rfl)
  (hline:(apos.endLine == cpos.line)=true:=by rfl) (hs:starEach (e :: es) X.env=(false,eval e X.env) :: starEach es X.env:=by rfl) (hplain:(backTo cpos (starEach es X.env)).any (·.1)=false:=by rfl) :
  PE X (.Call (.Attribute o name apos) (e :: es) [] cpos) (tBM X.K T r to t):=by
 intro m5 s σ H Q I h;refine wpAny_Call_method_late hbase hfew hline rfl (qL (ho m5 s σ H _ I h) λ v s1 x H1 I1 r1 qq_=>?_);obtain ⟨ty,q1⟩:=qq_;obtain ⟨h1,h2⟩:=zgN I1 r1 ty;refine ⟨T,id,pa,slot,hty,h1,h2,?_⟩;have hA:=ha cpos m5 s1 σ H1 _ I1 q1;rw [hs] at hA ⊢;refine Calls.callWith_builtin (by show (false || (backTo cpos (starEach es X.env)).any (·.1))=false;rw [hplain] <;> rfl) (Calls.evalArgs_plain ?_);exact thn hA λ us s2 ⟨vs,H2,I2,r2,q2⟩=>hm m5 s2 σ H2 x vs v us Q I2 r1 r2 q2
end
def MtM (X:Cx) (id:String) (r:V->List V->Hp->VK->Prop):Prop :=
 ∀ (m5:A4) (s:Ap) (σ:St) (H:Hp) (x:V) (xs:Ar) (v:Ao) (us:A9) (Q:VK),Inv X m5 σ H s->RelV x v->Vals xs us->r x xs H Q ->
  wpAny (model X.prog X.w) X.A (call (.builtin id) (v :: us)) (EP X m5 σ Q) X.xe s
def Vals.one {x:V} {us:A9} (h:Vals [x] us):∃ u,us=[u]/\RelV x u:=by
 cases h with
 | cons r t=>cases t;exact ⟨_,rfl,r⟩
def Vals.two {x y:V} {us:A9} (h:Vals [x,y] us):∃ u v,us=[u,v]/\RelV x u/\RelV y v:=by
 cases h with
 | cons r t =>
  obtain ⟨v,rfl,q⟩:=Vals.one t;exact ⟨_,_,rfl,r,q⟩
theorem Vals.zero:∀ {us:A9},Vals [] us->us=[]
 | _,.nil=>rfl
theorem Vals.eraseIdx:∀ {xs:Ar} {us:A9} (i:Nat),Vals xs us->Vals (xs.eraseIdx i) (us.eraseIdx i)
 | _,_,_,.nil=>.nil
 | _,_,0,.cons _ t=>t
 | _,_,i + 1,.cons r t=>.cons r (Vals.eraseIdx i t)
def Vals.reverse {xs:Ar} {us:A9} (h:Vals xs us):Vals xs.reverse us.reverse:=by
 induction h with
 | nil=>exact .nil
 | cons r t ih=>rw [List.reverse_cons,List.reverse_cons];exact Vals.append ih (.cons r .nil)
theorem Vals.rep {xs:Ar} {us:A9} (h:Vals xs us):∀ k:Nat,Vals (List.replicate k xs).flatten (List.replicate k us).flatten
 | 0=>.nil
 | k + 1=>by
  rw [cQ,cQ,dP,dP];exact Vals.append h (Vals.rep h k)
theorem Wt {α:Type}:∀ (l:List α) (i:Nat),(l.eraseIdx i).length<=l.length
 | [],_=>au _
 | _ :: _,0=>cc _
 | _ :: r,i + 1=>Nat.succ_le_succ (Wt r i)
theorem WE (mM:A9):∀ (k:Nat) (mQ:A9),
  List.foldl (λ x1 x2=>x1 ++ x2) mQ.toArray (List.replicate k mM.toArray)=(mQ ++ (List.replicate k mM).flatten).toArray
 | 0,mQ=>by simp
 | k + 1,mQ=>by
  have e:mQ.toArray ++ mM.toArray=(mQ ++ mM).toArray:=by simp
  have e2:(mQ ++ mM) ++ (List.replicate k mM).flatten=mQ ++ (List.replicate (k + 1) mM).flatten:=by
   rw [cQ,dP,bP]
  rw [<- e2,<- WE mM k (mQ ++ mM),<- e,cQ,List.foldl_cons]
section
variable {X:Cx} {m5:A4} {σ:St} {H:Hp} {s:Ap} {l b:Addr} {xs ys zs:Ar}
def Inv.lset {mM its':A9} {n:Nat} {f:Array Value->Array Value} {t':Nat} (I:Inv X m5 σ H s) (hH:H l=some (.lst xs))
  (e:s.heap.get? l=some { cls:=.type "list",data:=.seq mM.toArray n }) (hf:f mM.toArray=its'.toArray) (hv:Vals ys its') (hz:ys.length<=sizeLine) :
  Inv X m5 σ (upd H l (.lst ys)) { s with heap:=s.heap.update l (Obj.mapSeq f),toks:=t' }:=by
 have q:=PySem.IsL.update e f;rw [hf] at q;refine I.write (x:=l) (e:=l) (by rw [hH];exact trivial) (.inl rfl) (λ b' u hb hu=>(bc s.heap (Obj.mapSeq f) (aX hb)).trans hu) ⟨_,q⟩ ?_;exact ⟨hz,its',_,hv,q⟩
def Inv.lnew {mM:A9} {t':Nat} (I:Inv X m5 σ H s) (hv:Vals ys mM) (hz:ys.length<=sizeLine) :
  Inv X m5 σ (upd H s.heap.objs.size (.lst ys)) { s with heap:=s.heap.push { cls:=.type "list",data:=.seq mM.toArray },toks:=t' } :=
 I.laid (λ _ _ q=>aj _ q) (au _) ⟨hz,mM,0,hv,aE _ rfl⟩
def Inv.fresh (I:Inv X m5 σ H s):H s.heap.objs.size=none:=I.hok.fresh (au _)
def Inv.lstM (I:Inv X m5 σ H s) (hH:H l=some (.lst xs)):xs.length<=sizeLine/\∃ (mM:A9) (n:Nat),Vals xs mM/\xs.length=mM.length/\s.heap.get? l=some { cls:=.type "list",data:=.seq mM.toArray n }:=by
 obtain ⟨z,mM,n,r,e⟩:=I.hok l _ hH;exact ⟨z,mM,n,r,r.length,e⟩
def zaA {n:Nat} (h:n<=sizeLine):Builtin.List.listTooLong n=false:=by
 unfold Builtin.List.listTooLong;exact aW (by lia)
end
section
variable {X:Cx}
def zfR:V->List V->Hp->VK->Prop:=λ x vs H Q=>∃ l xs y,x=.ref l/\vs=[y]/\H l=some (.lst xs)/\xs.length < sizeLine/\Q .non (upd H l (.lst (xs ++ [y])))
def zK:MtM X "list.append" zfR:=by
 intro m5 s σ H x vs v us Q I rx rv h;obtain ⟨l,xs,y,rfl,rfl,hH,hz,q⟩:=h;cases rx;obtain ⟨u,rfl,ru⟩:=rv.one;obtain ⟨z,mM,n,r,hl,e⟩:=I.lstM hH;refine eM F.slot_list_append ⟨_,e,rfl⟩ F.entry_list_append (F.args_list_append_2 _ _) (PySem.list_append l mM.toArray n u (by rw [av];lia)) ⟨e,?_⟩;refine ⟨.non,_,I.lset (its':=mM ++ [u]) hH e (by simp) (r.append (.cons ru .nil)) ?_,rfl,q⟩;rw [aQ,cm]
 lia
def zfO:V->List V->Hp->VK->Prop:=λ x vs H Q=>∃ l b xs zs,x=.ref l/\vs=[.ref b]/\H l=some (.lst xs)/\H b=some (.lst zs)/\xs.length + zs.length<=sizeLine/\Q .non (upd H l (.lst (xs ++ zs)))
def vS:MtM X "list.extend" zfO:=by
 intro m5 s σ H x vs v us Q I rx rv h;obtain ⟨l,b,xs,zs,rfl,rfl,hH,hB,hz,q⟩:=h;cases rx;obtain ⟨u,rfl,ru⟩:=rv.one;cases ru;obtain ⟨z,mM,n,r,hl,e⟩:=I.lstM hH;obtain ⟨z2,its2,n2,r2,hl2,e2⟩:=I.lstM hB;have hsz:mM.toArray.size + its2.toArray.size<=sizeLine:=by rw [av,av];lia
 have hlong:¬ (!mM.toArray.isEmpty && Builtin.List.listTooLong (mM.toArray.size + its2.toArray.size))=true:=by
  rw [zaA hsz,cG];exact aC
 refine eM F.slot_list_extend ⟨_,e,rfl⟩ F.entry_list_extend (F.args_list_extend_2 _ _)
  (AutoSeq1.list_extend_list_list_0 l mM.toArray n b its2.toArray n2 hlong (by rw [av];lia) (by lia)) ⟨e,e2,?_⟩
 refine ⟨.non,_,I.lset (its':=mM ++ its2) hH e (by simp) (r.append r2) ?_,rfl,q⟩;rw [aQ]
 lia
def zg2:V->List V->Hp->VK->Prop:=λ x vs H Q=>∃ l xs i k y,x=.ref l/\vs=[.int i]/\H l=some (.lst xs)/\-(2 ^ 63)<=i/\i < 2 ^ 63/\seqIndex? i xs.length=some k/\xs[k]?=some y/\Q y (upd H l (.lst (xs.eraseIdx k)))
def Xd:MtM X "list.pop" zg2:=by
 intro m5 s σ H x vs v us Q I rx rv h;obtain ⟨l,xs,i,k,y,rfl,rfl,hH,h1,h2,hk,hy,q⟩:=h;cases rx;obtain ⟨u,rfl,ru⟩:=rv.one;obtain ⟨t,rfl⟩:=ru;obtain ⟨z,mM,n,r,hl,e⟩:=I.lstM hH;obtain ⟨w,hw,rw'⟩:=r.get hy;refine eM F.slot_list_pop ⟨_,e,rfl⟩ F.entry_list_pop (F.args_list_pop_2 _ _)
  (MeetsSeq.list_pop_at l mM.toArray n i t k w (fitsIndex_both h1 h2) (by rw [av,<- hl];exact hk) (by rw [<- cM];exact hw) (by rw [av];lia)) ⟨e,?_⟩
 refine ⟨y,_,I.lset (its':=mM.eraseIdx k) hH e ?_ (r.eraseIdx k) ?_,rw',q⟩
 ·show mM.toArray.eraseIdxIfInBounds k=(mM.eraseIdx k).toArray
  rw [List.eraseIdxIfInBounds_toArray]
 ·have:=Wt xs k
  lia
def ziF:R2:=λ x y H Q=>∃ l k xs,x=.ref l/\y=.int k/\H l=some (.lst xs)/\-(2 ^ 63)<=k/\k < 2 ^ 63/\xs.length * k.toNat<=sizeLine /\
 ∀ p,H p=none->Q (.ref p) (upd H p (.lst (List.replicate k.toNat xs).flatten))
def zf8 {α:Type} (xs:List α) (k:Nat):(List.replicate k xs).flatten.length=k * xs.length:=by
 induction k with
 | zero=>simp
 | succ k ih=>rw [cQ,dP,aQ,ih,d9,Nat.add_comm]
def zbJ:OpR X (binaryOp .Mult) ziF:=by
 intro m5 s σ H x y v u Q I rx ry h;obtain ⟨l,k,xs,rfl,rfl,hH,h1,h2,hz,q⟩:=h;cases rx;obtain ⟨t,rfl⟩:=ry;obtain ⟨z,mM,n,r,hl,e⟩:=I.lstM hH;have hlen:mM.toArray.size * k.toNat<=sizeLine:=by rw [av,<- hl];exact hz
 have hcap:¬ mM.toArray.size * k.toNat > (2 ^ 63 - 1) / 8:=by
  have:(sizeLine:Nat)<=(2 ^ 63 - 1) / 8:=by decide
  lia
 have hfit:¬ (!Builtin.List.listFitsIndex k)=true:=by
  rw [fitsIndex_both h1 h2];exact aC
 have hlong:¬ Builtin.List.listTooLong (mM.toArray.size * k.toNat)=true:=by
  rw [zaA hlen];exact aC
 have hnew:List.foldl (λ x1 x2=>x1 ++ x2) #[] (List.replicate (if mM.toArray.isEmpty=true then 0 else k.toNat) mM.toArray)=(List.replicate k.toNat mM).flatten.toArray:=by
  have f0:∀ m:Nat,List.foldl (λ x1 x2=>x1 ++ x2) #[] (List.replicate m mM.toArray)=(List.replicate m mM).flatten.toArray:=λ m=>by
   have:=WE mM m [];rw [List.nil_append] at this;exact this
  rw [f0];cases mM with
  | nil=>simp
  | cons a r'=>rw [ap (by simp)]
 refine wpAny_binaryOp_repeat_ref (T:="list") (U:="int") (by decide) ⟨_,e,rfl⟩ (λ s'=>typeIs_int s' k t) noFill_list_mul F.fills_int_mul F.slot_int_rmul repeat_list F.slot_int_index.lookup
  (eM F.slot_int_rmul (typeIs_int s k t) F.entry_int_rmul (F.args_int_rmul_2 _ _) (int___rmul___int_list k t l mM.toArray n)
   ⟨e,rfl,⟨_,e,rfl⟩,eM F.slot_list_mul ⟨_,e,rfl⟩ F.entry_list_mul (F.args_list_mul_2 _ _) (AutoListH.list___mul___list_int_3 l mM.toArray n k t hfit hcap hlong) ⟨e,?_⟩⟩)
 rw [hnew];exact ⟨.ref _,_,I.lnew (t':=s.toks) (r.rep k.toNat) (by rw [zf8,Nat.mul_comm];exact hz),rfl,q _ I.fresh⟩
end
section
variable {prog:Ah} {w:World} {A:Aq} {E:A5} {s:Ap}
end
section
variable {X:Cx}
end
end L2
namespace Att
open PySem PySem.W PySem.Calls PyProof.Rows
def Jf {P:Params} {h:Heap}:∀ (ns:A8) (vs:A9),WellAll P h vs (ns.map WData.int)->IntsAre vs ns:=by
 intro ns
 induction ns with
 | nil =>
  intro vs w;rw [map_nil] at w;cases w;exact .nil
 | cons n ns ih =>
  intro vs w;rw [bR] at w;cases w with
  | cons a b =>
   cases a;exact .cons _ _ (ih _ b)
theorem zdc {l:OpenLaw} {n:Nat} (hn:l.most=some n) {P:Params} {h:Heap} {args:List WData} {vals:A9}
  (hpre:l.row.toRowW.claim.pre args=true) (hwl:WellAll P h vals args) :
  ∃ a vs ns,vals=[Value.ref a]/\args=[WData.list (ns.map WData.int)]/\h.get? a=some { cls:=.type "list",data:=.seq vs.toArray }/\IntsAre vs ns/\ns.length<=n:=by
 have hsh:WShape.hasAll [] args [.list .int]=true:=(pre_splitW hpre).1;have hc:l.pre.holds [] { args:=args }=true:=(pre_splitW hpre).2;obtain ⟨d,r,rfl,h1,h2⟩:=hasAllW_cons hsh;obtain rfl:=hasAllW_nil h2;obtain ⟨xs,rfl,h3⟩:=hasW_list h1;obtain ⟨ns,rfl⟩:=items_int h3;have hlen:ns.length<=n:=by
  unfold OpenLaw.pre at hc;have h4:(WTm.not (.lt (.lit (.int (n:Int))) (.len (.arg 0)))).holds [] { args:=[.list (ns.map .int)] }=true:=by
   have h4:=(holds_andW hc).1;rw [hn] at h4;exact h4
  have h5:=condW_of h4 (w_not (w_lt w_lit (w_len_list (w_arg rfl))));rw [ai] at h5;refine Nat.le_of_not_lt λ q=>?_;have q':(n:Int) < ((ns.length:Nat):Int):=by lia
  first
   | (rw [bp q'] at h5;exact absurd h5 (by decide))
   | (simp at h5;lia)
 cases hwl with
 | cons w1 w2 =>
  cases w2;cases w1 with
  | list ho hall=>exact ⟨_,_,ns,rfl,rfl,ho,Jf ns _ hall,hlen⟩
def zdr (l:OpenLaw) (args:List WData):l.row.toRowW.claim.post args (.bool true) args=true :=
 postW_of (r:=l.row.toRowW) (X:=(true == true))
  (show WShape.has [] (.bool true) .bool=true by first|rfl|decide|simp [WShape.has,WShape.arms,WShape.armsAll])
  (show (WTm.eq .res (.lit (.bool true))).value [] { args:=args,res:=some (.bool true),after:=args }=some (.bool (true == true)) from w_eq_bool (w_res rfl) w_lit) rfl
def attach_call {l:OpenLaw} {n:Nat} {q:Ah} {loose:Aa} {XP:(Str->Option Value)->Heap->Prop} {YP:World->Heap->Prop} {d:DefRec}
  (hn:l.most=some n) (hdf:d.params.defaults=[])
  (call:∀ (w:World) (s₀ s₁:Ap) (mg mb:A6) (fa:Addr) (o:Obj) (pm cd doc:Ao) (a:Addr) (vs:A9) (ns:A8),
   Ground q loose [] XP w s₀ mg mb s₁.heap->YP w s₁.heap ->
   s₁.heap.get? fa=some o->o.data=.func (docDef d.name d.params d.body d.scope pm cd doc)->s₁.heap.CodeRec cd d.name->mg d.name=some (.ref fa) ->
   s₁.heap.get? a=some { cls:=.type "list",data:=.seq vs.toArray }->IntsAre vs ns->ns.length<=n->s₁.gens=#[] ->
   codeAny (model l.prog w) callerA (.call (.ref fa) ⟨[.ref a],[]⟩) (λ r s'=>r=.ok (.ret (.bool true))/\OldK s₁.heap s'.heap/\s'.os=s₁.os/\AllBare s'.gens) s₁) :
  WalkO q loose XP YP l.row.toRowW d [] (λ f vs=>PySem.call f vs):=by
 intro w s₀ s₁ mg mb G Y fa o pm cd doc dV kV ho hd hcd hD hmg hg args vals as hpre hlay hrd hwl hlo;obtain rfl:dV=.none:=Dflts.none hD hdf;obtain rfl:kV=.none:=Dflts.noKw hD;obtain ⟨a,vs,ns,rfl,rfl,hobj,hints,hlen⟩:=zdc hn hpre hwl;refine enter_call (dm (call w s₀ s₁ mg mb fa o pm cd doc a vs ns G Y ho (fd_plain hd) hcd hmg hobj hints hlen hg) λ r s' hq=>?_);obtain ⟨rfl,h2,h3,h4⟩:=hq;exact ⟨.inl ⟨.bool true,.bool true,[],rfl,λ _=>rfl,.bool true,zdr l _,λ _=>⟨List.Pairwise.nil,λ _ hm=>(nomatch hm)⟩⟩,h2,h3,h4⟩
section
variable {prog:Ah} {w:World} {A:Aq} {E:A5} {s:Ap} {K:Frag}
noncomputable def ledger (h:Heap) (L d:Addr):List (Addr × Obj):=(List.range h.objs.size).filterMap λ a=>if a=L\/a=d then none else (h.get? a).map λ o=>(a,o)
end
end Att
namespace L2
open PySem PySem.Spec PyProof.Rows
variable {fd:FuncData}
theorem Wa:∀ {vs:A9} {ns:A8},IntsAre vs ns->Vals (ns.map V.int) vs
 | _,_,.nil=>.nil
 | _,_,.cons n t h=>.cons ⟨t,rfl⟩ (Wa h)
def zhQ (H:Hp):Prop:=∀ b,H b=none\/∃ o xs,H b=some (.frz o (.lst xs))
theorem zeT {P:Ah} {w:World} {K:A0} {mg mb:A6} {CX:CXT} {k:Nat} {fa a:Addr} {x:Str} {sp:Sp} {s₁:Ap} {vs:A9} {ns:A8}
  (KX:K.In s₁.heap) (hns:s₁.heap.Ns mainGlobals mg) (hb:s₁.heap.Ns builtinsNs mb) (hbb:∀ x:Str,x≠"__name__"->mb x=bootBuiltins x) (hlim:s₁.heap.NoLimit) (hg:s₁.gens=#[])
  (ha:s₁.heap.get? a=some { cls:=.type "list",data:=.seq vs.toArray }) (hi:IntsAre vs ns) (hl:ns.length<=sizeLine) (hr:Room k callerA)
  (F:∀ base:Heap,K.In base->base.Ns mainGlobals mg->FnOk P w K mg base CX k fa fd [x] sp) (hbind:∀ (s:Ap) (u:Ao),BindsTo s fd ⟨[u],[]⟩ [(x,u)])
  (hsp:∀ H:Hp,zhQ H->SqL K H a (ns.map V.int)->sp [.ref a] H (λ v _=>v=.bl true) λ _ _ _=>False)
  (hCX:∀ H e s',CX [] H s₁ (λ _ _ _=>False) e s'->False) :
  codeAny (model P w) callerA (.call (.ref fa) ⟨[.ref a],[]⟩) (λ r s'=>r=.ok (.ret (.bool true))/\OldK s₁.heap s'.heap/\s'.os=s₁.os/\AllBare s'.gens) s₁:=by
 have rv:=Wa hi;have lenV:=hi.length;have core:∀ H:Hp,zhQ H->SqL K H a (ns.map V.int)->HOk P w H s₁.heap->(∀ b,H b≠none->b=a)->(H a≠none->K.lookup a=none) ->
   codeAny (model P w) callerA (.call (.ref fa) ⟨[.ref a],[]⟩) (λ r s'=>r=.ok (.ret (.bool true))/\OldK s₁.heap s'.heap/\s'.os=s₁.os/\AllBare s'.gens) s₁:=by
  intro H hO hS hok hA hK;have base_of:∀ {b:Addr} {o:Obj},s₁.heap.get? b=some o->H b=none->(VD s₁.heap H).get? b=some o:=λ e n=>ze5 e n;have noA:∀ {b:Addr} {o:Obj} {es:Array DictEntry} {ep:Nat},s₁.heap.get? b=some o->o.data=.dict es ep->H b=none:=λ {b o es ep} e d=>by
   cases q:H b with
   | none=>rfl
   | some u =>
    have e':b=a:=hA b (by rw [q];simp);subst e';rw [ha] at e;cases e;have d':Data.seq vs.toArray _=Data.dict es ep:=d;cases d'
  have nsK:∀ {b:Addr} {m:A6},s₁.heap.Ns b m->(VD s₁.heap H).Ns b m:=λ {b m} ⟨o,es,ep,e,d,r⟩=>⟨o,es,ep,base_of e (noA e d),d,r⟩;have hKb:K.In (VD s₁.heap H):=λ b o e=>base_of (KX b o e) (by
   cases q:H b with
   | none=>rfl
   | some u =>
    have e':b=a:=hA b (by rw [q];simp);subst e';rw [hK (by rw [q];simp)] at e;cases e)
  have hM:Mod K mg (VD s₁.heap H):=⟨hKb,nsK hns,⟨mb,nsK hb,hbb⟩,let ⟨mc,h1,h2⟩:=hlim;⟨mc,nsK h1,h2⟩⟩;have e0:Env0 P w K mg (VD s₁.heap H) callerA [] s₁ H:=⟨rfl,hM,λ b o e=>zf3 e,Nat.le_of_eq (zdG _ _),trivial,λ b hb=>absurd (show b∈([]:Ae) from hb) (by simp),hok,.of_eq hg⟩;refine dm ((F _ hKb (nsK hns)).run callerA [] s₁ H ⟨[.ref a],[]⟩ [.ref a] [.ref a] _ _ hr e0 (hbind s₁ (.ref a)) (.cons rfl .nil) (hsp H hO hS)) λ r s' h=>?_;cases r with
  | error e=>exact (hCX H e s' h).elim
  | ok fl =>
   cases fl with
   | next=>exact False.elim h
   | brk=>exact False.elim h
   | cont=>exact False.elim h
   | ret u =>
    obtain ⟨v,H',os,bare,un,hok',r',q⟩:=h;have q':v=.bl true:=q;subst q';obtain rfl:u=Value.bool true:=r';refine ⟨rfl,OldK.of_keep λ b o e=>?_,os,bare⟩;cases q:H b with
    | none=>exact un.keep b o e q (by intro z;exact absurd (show b∈([]:Ae) from z) (by simp)) (by simp)
    | some u =>
     rcases hO b with z|⟨ob,xs,z⟩
     ·rw [q] at z;cases z
     ·have z2:=un.frzs b ob _ z;obtain ⟨e1,_⟩:=hok b _ z;obtain ⟨e2,_⟩:=hok' b _ z2;rw [e] at e1;cases e1;exact e2
 cases hk:K.lookup a with
 | some o =>
  have e:=KX a o hk;rw [ha] at e;cases e;refine core (λ _=>none) (λ _=>.inl rfl) (.inr ⟨_,vs.toArray,_,hk,rfl,rfl,rfl,by rw [av,lenV];exact hl,by simpa using rv⟩) (λ b u z=>by have z':(none:Option HO)=some u:=z;cases z') (λ b z=>absurd rfl z) λ z=>absurd rfl z
 | none =>
  refine core (λ b=>if b=a then some (.frz { cls:=.type "list",data:=.seq vs.toArray } (.lst (ns.map V.int))) else none) (λ b=>?_) (.inl (.inr ⟨{ cls:=.type "list",data:=.seq vs.toArray },ar rfl⟩)) (λ b u z=>?_) (λ b z=>?_) λ _=>hk
  ·by_cases hb:b=a
   ·exact .inr ⟨_,_,ar hb⟩
   ·exact .inl (ap hb)
  ·by_cases hb:b=a
   ·have z':=(ar hb).symm.trans z;cases z';subst hb;exact ⟨ha,by rw [ai];exact hl,vs,_,rv,ha⟩
   ·have z':=(ap hb).symm.trans z;cases z'
  ·by_cases hb:b=a
   ·exact hb
   ·exact absurd (ap hb) z
def walk_of {l:PySem.W.OpenLaw} {n k:Nat} {q:Ah} {loose:Aa} {XP:(Str->Option Value)->Heap->Prop} {YP:World->Heap->Prop} {d:DefRec} {K:Params->PySem.W.Frag} {CX:World->CXT} {sp:World->Sp} {x:Str}
  (hn:l.most=some n) (hn2:n<=sizeLine) (hdf:d.params.defaults=[]) (hr:Room k callerA)
  (hY:∀ (w:World) (h:Heap),YP w h->(K w.params).In h)
  (F:∀ (w:World) (mg:A6) (fa:Addr) (h:Heap),(K w.params).In h->h.Ns mainGlobals mg->mg d.name=some (.ref fa) ->
   ∃ fd:FuncData,(∀ (s:Ap) (u:Ao),BindsTo s fd ⟨[u],[]⟩ [(x,u)]) /\
    ∀ base:Heap,(K w.params).In base->base.Ns mainGlobals mg->FnOk l.prog w (K w.params) mg base (CX w) k fa fd [x] (sp w))
  (hsp:∀ (w:World) (H:Hp) (a:Addr) (ns:A8),ns.length<=n->zhQ H->SqL (K w.params) H a (ns.map V.int)->sp w [.ref a] H (λ v _=>v=.bl true) λ _ _ _=>False)
  (hCX:∀ (w:World) (H:Hp) (s:Ap) (e:Ao) (s':Ap),CX w [] H s (λ _ _ _=>False) e s'->False) :
  PySem.W.WalkO q loose XP YP l.row.toRowW d [] (λ f vs=>PySem.call f vs):=by
 refine Att.attach_call hn hdf λ w s₀ s₁ mg mb fa o pm cd doc a vs ns G Y ho hd hcd hmg hobj hints hlen hg=>?_;have KX:=hY w _ Y;obtain ⟨fd,hb,hF⟩:=F w mg fa _ KX G.T.g hmg;exact zeT KX G.T.g G.T.b G.T.builtins G.T.nolimit hg hobj hints (ba hlen hn2) hr hF hb (λ H hO hS=>hsp w H a ns hlen hO hS) λ H e s'=>hCX w H s₁ e s'
noncomputable def zO (s:Stmt) (j:Nat):Stmt:=match s with
 | .ClassDef _ _ _ body _ _ _ _ _ _ _=>body.getD j (.Pass ⟨0,0,0,0⟩)
 | _=>.Pass ⟨0,0,0,0⟩
noncomputable def z6 (s:Stmt):Arguments:=match s with
 | .FunctionDef _ a _ _ _ _ _ _ _ _=>a
 | _=>{ posonlyargs:=[],args:=[],vararg:=none,kwonlyargs:=[],kw_defaults:=[],kwarg:=none,defaults:=[] }
noncomputable def zV (s:Stmt):List Stmt:=match s with
 | .FunctionDef _ _ b _ _ _ _ _ _ _=>b
 | _=>[]
noncomputable def ze (s:Stmt):Scope:=match s with
 | .FunctionDef _ _ _ _ _ _ sc _ _ _=>sc
 | _=>{ kind:=.function,names:=[],isGenerator:=false,isCoroutine:=false }
abbrev CX0:CXT:=λ _ _ _ _ _ _=>False
structure Fun (K:A0) (x qual:Str) (st:Stmt) (f:Addr) (fd:FuncData):Prop where
 ex:∃ (oc:Ao) (od:Ac) (kV doc pm:Ao) (an:Ac) (cdv ct:Ao) (osl:Ag),
  fd=fnOf x qual (z6 st) (zV st) (ze st) .none kV doc pm an cdv ct/\K.lookup f=some ⟨oc,od,.func fd,osl⟩/\codeIn K cdv qual=true
 kp:keepIn K (.ref f)=true
section
variable {P:Ah} {w:World} {K:A0} {mg:A6} {base:Heap}
def Fun.ok {x qual:Str} {st:Stmt} {f:Addr} {N ps:Aa} {k:Nat} {sp:Sp} (F:Fun K x qual st f fd) (S:FnScope N ps (ze st)) (len:∀ vs H Q E,sp vs H Q E->vs.length=ps.length)
  (hbody:∀ (cdv:Ao) (A:Aq) (outer:List Env) (s:Ap) (H:Hp) (vs:Ar) (Q:VK) (E:XK),Room k (A.deeper (envOfC qual (ze st) s.heap.objs.size f cdv))->sp vs H Q E ->
   ∃ t,PSs (Jg CX0 P w K mg base N qual (ze st) f cdv A outer s H E).nox (zV st) t/\t { nx:=λ _ H'=>Q .non H',rt:=Q } (start N vs) H):FnOk P w K mg base CX0 (k + 1) f fd ps sp:=by
 obtain ⟨oc,od,kV,doc,pm,an,cdv,ct,osl,rfl,lk,hcd⟩:=F.ex;refine zfb lk hcd S len λ A outer s H vs Q E hr hsp=>?_;obtain ⟨t,h,q⟩:=hbody cdv A outer s H vs Q E hr hsp;exact ⟨t,h.nox,q⟩
def Fun.binds {x qual:Str} {st:Stmt} {f:Addr} {ps:Aa} (F:Fun K x qual st f fd)
  (h:∀ (kV doc pm:Ao) (an:Ac) (cdv ct:Ao) (us:A9),us.length=ps.length->bindArgs (fnOf x qual (z6 st) (zV st) (ze st) .none kV doc pm an cdv ct) ⟨us,[]⟩=pure (ps.zip us)):Binds K fd ps []:=by
 obtain ⟨oc,od,kV,doc,pm,an,cdv,ct,osl,rfl,lk,hcd⟩:=F.ex;exact .all (h kV doc pm an cdv ct)
def wS {x qual:Str} {st:Stmt} {f:Addr} {oc:Ao} {od an:Ac} {osl:Ag} {kV doc pm cdv ct:Ao} (l:K.lookup f=some ⟨oc,od,.func (fnOf x qual (z6 st) (zV st) (ze st) .none kV doc pm an cdv ct),osl⟩)
  (c:codeIn K cdv qual=true) (k:keepIn K (.ref f)=true):Fun K x qual st f (fnOf x qual (z6 st) (zV st) (ze st) .none kV doc pm an cdv ct):=⟨⟨oc,od,kV,doc,pm,an,cdv,ct,osl,rfl,l,c⟩,k⟩
end
def zcB {A:Aq} {k:Nat} (hr:Room k A):A.units + 1 < cLine:=c9 (fP (by decide:1<=64) _) hr.units
def zk {n:Nat} (h:n<=1000):n < sizeLine:=c9 h (by decide)
section
variable {X:Cx}
end
def zN {c A B:Prop} [Decidable c] (h1:c->A) (h2:¬ c->B):if c then A else B:=by
 by_cases h:c
 ·rw [ar h];exact h1 h
 ·rw [ap h];exact h2 h
def Same (H H':Hp):Prop:=∀ b o,H b=some o->H' b=some o
def Same.refl (H:Hp):Same H H:=λ _ _ h=>h
def Same.trans {H H1 H2:Hp} (a:Same H H1) (b:Same H1 H2):Same H H2:=λ c o h=>b c o (a c o h)
def Same.free {H H':Hp} (e:Same H H') {l:Addr} (h:H' l=Option.none):H l=Option.none:=by
 cases q:H l with
 | none=>rfl
 | some o =>
  rw [e l o q] at h;cases h
def Same.seq {K:A0} {H H':Hp} {a:Addr} {xs:Ar} (e:Same H H') (h:SqL K H a xs):SqL K H' a xs:=by
 rcases h with (h|⟨o,h⟩)|h
 ·exact .inl (.inl (e _ _ h))
 ·exact .inl (.inr ⟨o,e _ _ h⟩)
 ·exact .inr h
end L2
set_option maxHeartbeats 4000000
namespace L2
open PySem PySem.Spec PyProof.Rows
variable {K:A0} {H:Hp} {P:Ah} {w:World} {base:Heap} {s:Ap} {sp:Sp} {mg:A6} {ps:Aa} {oe:Obj} {m5:A4} {cls:Ao} {x:Str}
abbrev GK:=Value->St->Hp->Prop
structure Exc (g h:Heap) (H:Hp) (pn:A4) (a:Addr) (cls:Ao):Prop where
 ex:∃ (oe:Obj) (vs:Af) (T:Addr) (oT:Obj) (ts:Af),h.get? a=some oe/\oe.cls=cls/\oe.dict=none/\oe.data=.fields vs/\vs[1]?=some (.ref T)/\T≠a /\
  h.get? T=some oT/\oT.data=.fields ts/\ts[3]?=some .none/\g.get? T=none/\H T=none/\∀ p∈pn,p.1≠T
 ga:g.get? a=none
 Ha:H a=none
 pa:∀ p∈pn,p.1≠a
def ObjOk.there {h:Heap} {a:Addr} {o:HO} (x:ObjOk P w H h a o):∃ ob,h.get? a=some ob:=by
 cases o with
 | lst xs=>obtain ⟨_,_,_,_,e⟩:=x;exact ⟨_,e⟩
 | tup xs=>obtain ⟨_,_,_,ob,e,_⟩:=x;exact ⟨_,e⟩
 | dK mK=>obtain ⟨_,_,_,_,o,_,_,e,_⟩:=x;exact ⟨_,e⟩
 | dT mK=>obtain ⟨_,_,_,_,o,_,_,e,_⟩:=x;exact ⟨_,e⟩
 | set S n=>obtain ⟨o,_,_,_,e,_⟩:=x;exact ⟨_,e⟩
 | ins C dx fs=>obtain ⟨_,_,_,e,_⟩:=x;exact ⟨_,e⟩
 | own y=>obtain ⟨_,e⟩:=x;exact ⟨_,e⟩
 | xd fs=>obtain ⟨_,⟨_,_,_,e,_⟩,_⟩:=x;exact ⟨_,e⟩
 | rng lo hi=>obtain ⟨_,_,_,e⟩:=x;exact ⟨_,e⟩
 | frz ob u=>obtain ⟨e,_⟩:=x;exact ⟨_,e⟩
 | tbl ps=>exact ⟨_,(show h.get? a=some _ from x)⟩
 | met f y=>exact ⟨_,(show h.get? a=some _ from x)⟩
 | ext φ=>obtain ⟨_,⟨_,e⟩,_⟩:=x;exact ⟨_,e⟩
section
variable {M:Model} {A:Aq} {E:A5} {s:Ap}
def WF {env:Env} {outer:List Env} {L e:Addr} {vs:Af} {head:Ao} {hadNext:Bool} {Q:Ai}
  (hfr:A.frames=some (env :: outer)) (hl:s.heap.FunFrames base (env :: outer)) (hf:env.frame=some L) (he:s.heap.get? e=some oe) (hd:oe.data=.fields vs) (hsz:1 < vs.size)
  (h:∀ h' T,(∀ b o,b ∉ (env :: outer).filterMap (·.frame)->b≠e->s.heap.get? b=some o->h'.get? b=some o)->(∀ b o,b≠e->s.heap.get? b=some o->∃ sl,h'.get? b=some { o with slots:=sl }) ->
   s.heap.get? T=none->T≠e->h'.get? e=some (oe.mapFields (·.setIfInBounds 1 (.ref T)))->(∃ oT ts,h'.get? T=some oT/\oT.data=.fields ts/\ts[3]?=some .none)->Q () { s with heap:=h' }) :
  wpAny M A (do let a <- frameOf env;let pl <- entryPlaceOf L hadNext;let b <- EntryCells.newEntry head a .none (rawInt L) .none pl;setField (.ref e) 1 b) (λ _ s'=>wpAny M A (setFlight (.ref e) none) Q E s') E s:=by
 have hene:e ∉ (env :: outer).filterMap (·.frame):=λ hm=>by
  obtain ⟨_,o,ho,hnf⟩:=hl.mem hm;rw [he] at ho;injection ho with ho;subst ho;exact hnf vs hd
 refine af (wpAny_frameOf_fun hfr hl hf λ h₁ hs₁=>?_);refine af (wpAny_entryPlaceOf λ pl hpl=>?_);unfold EntryCells.newEntry newFields;refine af (dC ?_ (hpl.sizeOk5 _ _ _ _ _));have he₁:h₁.get? e=some oe:=(hs₁.2.1 e hene).trans he;have he₂:=aj (h:=h₁) { cls:=.type "traceback",dict:=none,data:=.fields ([head,.ref L,.none,rawInt L,.none] ++ (if pl.isEmpty then List.replicate 6 Value.none else pl)).toArray } he₁;refine dq he₂ hd hsz ?_;have hTe:h₁.objs.size≠e:=cE (aA he₁);have hd₃:=bj hd (·.setIfInBounds 1 (Value.ref h₁.objs.size));have he₃:=bu (Obj.mapFields (·.setIfInBounds 1 (Value.ref h₁.objs.size))) he₂ (cf hd₃);have hT₃:=(bc (h₁.push { cls:=.type "traceback",dict:=none,data:=.fields ([head,.ref L,.none,rawInt L,.none] ++ (if pl.isEmpty then List.replicate 6 Value.none else pl)).toArray })
  (Obj.mapFields (·.setIfInBounds 1 (Value.ref h₁.objs.size))) (aX hTe)).trans (aE h₁ rfl)
 unfold setFlight;refine af (bh he₃ hd₃ (x:=.ref h₁.objs.size) (by simp [hsz]) ?_);rw [ar (show (Value.ref h₁.objs.size != Value.none)=true from by simp)];refine dq hT₃ rfl (by simp only [av,aQ,bB,cW] <;> lia) ?_;have keep:∀ b o,b≠e->h₁.get? b=some o ->
   (((h₁.push { cls:=.type "traceback",dict:=none,data:=.fields ([head,.ref L,.none,rawInt L,.none] ++ (if pl.isEmpty then List.replicate 6 Value.none else pl)).toArray }).update e (Obj.mapFields (·.setIfInBounds 1 (Value.ref h₁.objs.size)))).update h₁.objs.size
    (Obj.mapFields (·.setIfInBounds 3 ((none:Ac).elim Value.none λ f=>rawInt f)))).get? b=some o:=λ b o hbe hb=>by
  have hbT:h₁.objs.size≠b:=cE (aA hb);rw [bc _ _ hbT,bc _ _ (aX hbe)];exact aj _ hb
 refine h _ h₁.objs.size (λ b o hb hbe q=>keep b o hbe ((hs₁.2.1 b hb).trans q)) (λ b o hbe q=>?_) (Heap.get?_none_of_le (by rw [hs₁.1];exact au _)) hTe ?_ ?_
 ·obtain ⟨sl,hs⟩:=hs₁.2.2 b o q;exact ⟨sl,keep b _ hbe hs⟩
 ·rw [bc _ _ hTe];exact he₃
 ·exact ⟨_,_,bu _ hT₃ (cf (bj rfl _)),bj rfl _,by first|(simp;done)|(rcases hpl with rfl|⟨_,_,_,_,_,_,_,rfl⟩ <;> simp)⟩
def Wu {env:Env} {outer:List Env} {L e:Addr} {vs:Af} {ch:Ae} {Q:Ai}
  (hfr:A.frames=some (env :: outer)) (hl:s.heap.FunFrames base (env :: outer)) (hf:env.frame=some L) (he:s.heap.get? e=some oe) (hd:oe.data=.fields vs)
  (h1:(vs[1]?=some .none/\ch=[e])\/∃ T oT ts,vs[1]?=some (.ref T)/\T≠e/\s.heap.get? T=some oT/\oT.data=.fields ts/\ts[3]?=some .none/\ch=[e,T])
  (h:∀ h' T,(∀ b o,b ∉ (env :: outer).filterMap (·.frame)->b ∉ ch->s.heap.get? b=some o->h'.get? b=some o)->(∀ b o,b ∉ ch->s.heap.get? b=some o->∃ sl,h'.get? b=some { o with slots:=sl }) ->
   (∀ b∈ch,∃ o,h'.get? b=some o)->s.heap.get? T=none->T≠e->h'.get? e=some (oe.mapFields (·.setIfInBounds 1 (.ref T)))->(∃ oT ts,h'.get? T=some oT/\oT.data=.fields ts/\ts[3]?=some .none)->Q () { s with heap:=h' }) :
  wpAny M A (noteFrame (.ref e) env) (λ _ s'=>wpAny M A (setFlight (.ref e) none) Q E s') E s:=by
 rcases h1 with ⟨h1,rfl⟩|⟨T,oT,ts,h1,hTe,hT,hdT,h3,rfl⟩
 ·unfold noteFrame;simp only [hf];refine af (bh he hd h1 ?_);rw [ap (by decide)];refine WF hfr hl hf he hd (bO.mp h1).1 λ h' T k1 k2 k3 k4 k5 k6=>?_;refine h h' T (λ b o hb hc q=>k1 b o hb (λ z=>hc (by simp [z])) q) (λ b o hc q=>k2 b o (λ z=>hc (by simp [z])) q) (λ b hb=>?_) k3 k4 k5 k6;obtain rfl:b=e:=by simpa using hb
  exact ⟨_,k5⟩
 ·unfold noteFrame;simp only [hf];refine af (bh he hd h1 ?_);rw [ar (show (Value.ref T != Value.none)=true from by simp)];refine af (bh hT hdT h3 ?_);rw [ap (show ¬ ((Value.none == rawInt L)=true) from by simp [rawInt])];refine af (dq hT hdT (bO.mp h3).1 ?_);have other:∀ b,b≠T->(s.heap.update T (Obj.mapFields (·.setIfInBounds 3 Value.none))).get? b=s.heap.get? b:=λ b hb=>bc _ _ (aX hb);have noRecord:∀ b o,s.heap.get? b=some o->(∀ vs,o.data≠.fields vs)->b≠T:=λ b o hb hnf q=>by
   rw [q,hT] at hb;injection hb with hb;subst hb;exact hnf ts hdT
  have hT':=bu (Obj.mapFields (·.setIfInBounds 3 Value.none)) hT (cf (bj hdT _));refine WF hfr (hl.of_keeps λ b o hb hnf=>⟨o,(other b (noRecord b o hb hnf)).trans hb,rfl⟩) hf ((other e (aX hTe)).trans he) hd (bO.mp h1).1 λ h' T' k1 k2 k3 k4 k5 k6=>?_;have hTT:T'≠T:=λ z=>by rw [z,hT'] at k3;cases k3
  refine h h' T' (λ b o hb hc q=>k1 b o hb (λ z=>hc (by simp [z])) ((other b (λ z=>hc (by simp [z]))).trans q)) (λ b o hc q=>k2 b o (λ z=>hc (by simp [z])) ((other b (λ z=>hc (by simp [z]))).trans q)) (λ b hb=>?_) ((other T' hTT).symm.trans k3) k4 k5 k6;rcases az.mp hb with rfl|hb
  ·exact ⟨_,k5⟩
  ·obtain rfl:b=T:=by simpa using hb
   obtain ⟨sl,q⟩:=k2 b _ hTe hT';exact ⟨_,q⟩
end
section
variable {X:Cx} {m5:A4} {σ:List As} {H:Hp} {s:Ap} {h':Heap}
def Inv.stepx {ch:Ae} (I:Inv X m5 σ H s)
  (hch:∀ b∈ch,X.s₀.heap.get? b=none/\H b=none/\∀ p∈X.pn ++ m5,p.1≠b) (hrec:∀ b∈ch,∃ o vs,s.heap.get? b=some o/\o.data=.fields vs)
  (keep:∀ b o,b ∉ frs X.stack->b ∉ ch->s.heap.get? b=some o->h'.get? b=some o)
  (slot:∀ b o,b ∉ ch->s.heap.get? b=some o->∃ sl,h'.get? b=some { o with slots:=sl }) (there:∀ b∈ch,∃ o,h'.get? b=some o):Inv X m5 σ H { s with heap:=h' }:=by
 have neL:∀ b∈ch,b≠X.env.locals:=λ b hb z=>by
  obtain ⟨o,vs,ho,hd⟩:=hrec b hb;obtain ⟨m,⟨o',es,ep,ho',hd',_⟩,_⟩:=I.loc;rw [z,ho'] at ho;cases ho;rw [hd'] at hd;cases hd
 have neC:∀ b∈ch,∀ x c,X.env.cells.lookup x=some c->c≠b:=λ b hb x c e z=>by
  obtain ⟨o,vs,ho,hd⟩:=hrec b hb;obtain ⟨v,o',ho',hd'⟩:=I.cell x c e;rw [z,ho] at ho';cases ho';rw [hd] at hd';cases hd'
 have nch:∀ b o,X.s₀.heap.get? b=some o->b ∉ ch:=λ b o e hb=>by rw [(hch b hb).1] at e;cases e
 have trk:∀ b u,H b=some u->b ∉ ch/\b ∉ frs X.stack:=λ b u e=>⟨(λ hb=>by rw [(hch b hb).2.1] at e;cases e),(λ hb=>by rw [I.stkFree b hb] at e;cases e)⟩;have nfs:∀ b,b ∉ X.fs->b≠X.env.locals->b ∉ frs X.stack:=λ b h1 h2 z=>(az.mp (I.stkSub b z)).elim h2 h1;have ltL:∀ b o,X.s₀.heap.get? b=some o->b≠X.env.locals:=λ b o e=>aP (aM (aA e) I.ok.above);have cellK:∀ x c,X.env.cells.lookup x=some c->∀ v,s.heap.IsCell c v->h'.IsCell c v:=λ x c e v ⟨o,ho,hd⟩=>by
  obtain ⟨sl,q⟩:=slot c o (λ z=>neC c z x c e rfl) ho;exact ⟨_,q,hd⟩
 have hok:HOk X.prog X.w H h':=λ b u e=>(I.hok b u e).stay (λ c v hc q=>by
  have hcH:∃ u',H c=some u':=by
   rcases hc with rfl|z
   ·exact ⟨_,e⟩
   ·exact ⟨_,z⟩
  obtain ⟨u',hu⟩:=hcH;exact keep c v (trk c u' hu).2 (trk c u' hu).1 q) (λ _ q=>q) λ _ _ q=>q
 refine ⟨I.ok,I.os,I.bare,⟨λ b o e n hb hx=>?_,λ b o e n hb hx=>?_,I.base.free,λ b o e hx=>?_,I.base.tups,I.base.frzs,I.base.tbls⟩,?_,λ x c e=>?_,I.free,I.freeC,λ p hp=>?_,hok,I.len⟩
 ·exact keep b o (nfs b hb (ltL b o e)) (nch b o e) (I.base.keep b o e n hb hx)
 ·obtain ⟨sl,e1⟩:=I.base.slot b o e n hb hx;obtain ⟨sl',e2⟩:=slot b _ (nch b o e) e1;exact ⟨sl',e2⟩
 ·obtain ⟨o',e1⟩:=I.base.there b o e hx;obtain ⟨sl',e2⟩:=slot b _ (nch b o e) e1;exact ⟨_,e2⟩
 ·obtain ⟨m,⟨o,es,ep,ho,r⟩,hl⟩:=I.loc;obtain ⟨sl,q⟩:=slot _ o (λ z=>neL _ z rfl) ho;refine ⟨m,⟨_,es,ep,q,r⟩,λ i x v e1 e2 e3=>?_⟩;obtain ⟨u,r',l⟩:=hl i x v e1 e2 e3;refine ⟨u,r',?_⟩;rcases l with l|⟨k,c,e,z⟩
  ·exact .inl l
  ·exact .inr ⟨k,c,e,cellK x c e _ z⟩
 ·obtain ⟨v,z⟩:=I.cell x c e;exact ⟨v,cellK x c e v z⟩
 ·obtain ⟨e,n,ne,nf,d⟩:=I.pin p hp;exact ⟨keep p.1 p.2 (nfs _ nf ne) (λ z=>(hch p.1 z).2.2 p hp rfl) e,n,ne,nf,d⟩
theorem Wv {a:Addr} {vs:Af} {E:A5} {Q:Ai} (I:Inv X m5 σ H s) (hst:X.stack=X.env :: X.outer) (hfr:X.env.frame=some X.env.locals) (hex:X.ex=[])
  (he:s.heap.get? a=some oe) (hdict:oe.dict=none) (hd:oe.data=.fields vs) (ga:X.s₀.heap.get? a=none) (Ha:H a=none) (hpa:∀ p∈X.pn ++ m5,p.1≠a)
  (h1:vs[1]?=some .none\/∃ T oT ts,vs[1]?=some (.ref T)/\T≠a/\s.heap.get? T=some oT/\oT.data=.fields ts/\ts[3]?=some .none/\X.s₀.heap.get? T=none/\H T=none/\∀ p∈X.pn ++ m5,p.1≠T)
  (hQ:∀ s',Inv X m5 σ H s'->Exc X.s₀.heap s'.heap H (X.pn ++ m5) a oe.cls->Q () s') :
  wpAny (model X.prog X.w) X.A (noteFrame (.ref a) X.env) (λ _ s'=>wpAny (model X.prog X.w) X.A (setFlight (.ref a) none) Q E s') E s:=by
 have hfs:=I.ok.frames;have hFF:=I.stack;rw [hst] at hfs hFF;have hS:frs X.stack=(X.env :: X.outer).filterMap (·.frame):=by rw [hst];rfl
 have fin:∀ (ch:Ae),(∀ b∈ch,X.s₀.heap.get? b=none/\H b=none/\∀ p∈X.pn ++ m5,p.1≠b)->(∀ b∈ch,∃ o vs,s.heap.get? b=some o/\o.data=.fields vs)->a∈ch ->
   ∀ h' T,(∀ b o,b ∉ (X.env :: X.outer).filterMap (·.frame)->b ∉ ch->s.heap.get? b=some o->h'.get? b=some o)->(∀ b o,b ∉ ch->s.heap.get? b=some o->∃ sl,h'.get? b=some { o with slots:=sl }) ->
   (∀ b∈ch,∃ o,h'.get? b=some o)->s.heap.get? T=none->T≠a->h'.get? a=some (oe.mapFields (·.setIfInBounds 1 (.ref T)))->(∃ oT ts,h'.get? T=some oT/\oT.data=.fields ts/\ts[3]?=some .none)->Q () { s with heap:=h' }:=by
  intro ch hch hrec ha h' T k1 k2 k3 k4 k5 k6 k7;have I':=I.stepx (h':=h') hch hrec (λ b o hb hc q=>k1 b o (by rw [<- hS];exact hb) hc q) k2 k3;refine hQ _ I' ⟨?_,ga,Ha,hpa⟩;obtain ⟨oT,ts,q1,q2,q3⟩:=k7;have hsz:1 < vs.size:=by
   rcases h1 with z|⟨_,_,_,z,_⟩ <;> exact (bO.mp z).1
  refine ⟨_,_,T,oT,ts,k6,Obj.cls_mapFields _ _,by obtain ⟨c,d,dt,sl⟩:=oe;cases dt <;> exact hdict,bj hd _,by simp [hsz],k5,q1,q2,q3,?_,?_,λ p hp z=>?_⟩
  ·cases e:X.s₀.heap.get? T with
   | none=>rfl
   | some o =>
    obtain ⟨o',e'⟩:=I.base.there T o e (by rw [hex];simp);rw [k4] at e';cases e'
  ·cases e:H T with
   | none=>rfl
   | some u =>
    obtain ⟨o',e'⟩:=(I.hok T u e).there;rw [k4] at e';cases e'
  ·have:=(I.pin p hp).1;rw [z,k4] at this;cases this
 rcases h1 with h1|⟨T,oT,ts,h1,hTa,hT,hdT,h3,gT,HT,pT⟩
 ·refine Wu (ch:=[a]) hfs hFF hfr he hd (.inl ⟨h1,rfl⟩) (fin [a] (λ b hb=>?_) (λ b hb=>?_) (by simp))
  ·obtain rfl:b=a:=by simpa using hb
   exact ⟨ga,Ha,hpa⟩
  ·obtain rfl:b=a:=by simpa using hb
   exact ⟨oe,vs,he,hd⟩
 ·refine Wu (ch:=[a,T]) hfs hFF hfr he hd (.inr ⟨T,oT,ts,h1,hTa,hT,hdT,h3,rfl⟩) (fin [a,T] (λ b hb=>?_) (λ b hb=>?_) (by simp))
  ·rcases az.mp hb with rfl|hb
   ·exact ⟨ga,Ha,hpa⟩
   ·obtain rfl:b=T:=by simpa using hb
    exact ⟨gT,HT,pT⟩
  ·rcases az.mp hb with rfl|hb
   ·exact ⟨oe,vs,he,hd⟩
   ·obtain rfl:b=T:=by simpa using hb
    exact ⟨oT,ts,hT,hdT⟩
end
def JG (X:Cx) (G:GK) (e:Ao) (s:Ap):Prop:=∃ a cls σ H,e=Value.ref a/\Inv X [] σ H s/\Exc X.s₀.heap s.heap H X.pn a cls/\G cls σ H
def xeG (X:Cx) (G:GK) (e:Ao) (s:Ap):Prop:=wpAny (model X.prog X.w) X.A (noteFrame e X.env) (λ _ s'=>wpAny (model X.prog X.w) X.A (setFlight e none) (λ _ s''=>JG X G e s'') (λ _ _=>False) s') (λ _ _=>False) s
noncomputable abbrev Cx.exg (X:Cx) (G:GK):Cx:=X.wish (xeG X G)
structure Bod (X:Cx):Prop where
 st:X.stack=X.env :: X.outer
 fr:X.env.frame=some X.env.locals
 ex:X.ex=[]
def qC {X:Cx} {G:GK}:PassesOwn (model X.prog X.w) X.A X.env (xeG X G):=PassesOwn.looking
def Inv.nopins {X:Cx} {σ:St} (I:Inv X m5 σ H s):Inv X [] σ H s:=I.pins_of λ p hp=>absurd hp (by simp)
def Exc.less {g h:Heap} {pn pn':A4} {a:Addr} (x:Exc g h H pn a cls) (hp:∀ p∈pn',p∈pn):Exc g h H pn' a cls:=by
 obtain ⟨⟨oe,vs,T,oT,ts,h1,h2,h3,h4,h5,h6,h7,h8,h9,h10,h11,h12⟩,ga,Ha,pa⟩:=x;exact ⟨⟨oe,vs,T,oT,ts,h1,h2,h3,h4,h5,h6,h7,h8,h9,h10,h11,λ p q=>h12 p (hp p q)⟩,ga,Ha,λ p q=>pa p (hp p q)⟩
def CXr (P:Ah) (w:World):CXT:=λ outer H s E e s'=>∃ a cls H',e=Value.ref a/\s'.os=s.os/\AllBare s'.gens/\Un (frs outer) [] H H' s.heap s'.heap/\HOk P w H' s'.heap /\
 Exc s.heap s'.heap H' [] a cls/\E cls none H'
section
variable {X:Cx} {m5:A4} {σ:St} {H:Hp} {s:Ap} {G:GK}
def QR {e:Ao} {s':Ap} (B:Bod X) (I:Inv X m5 σ H s) (h:CXr X.prog X.w X.stack H s (λ cls _ H'=>G cls σ H') e s'):xeG X G e s':=by
 obtain ⟨a,cls,H',rfl,os,bare,un,hok,⟨⟨oe,vs,T,oT,ts,h1,h2,h3,h4,h5,h6,h7,h8,h9,h10,h11,_⟩,ga,Ha,_⟩,hG⟩:=h;have I':Inv X m5 σ H' s':=I.call' os un hok bare (λ b z=>absurd z (by simp));have old:∀ b,s.heap.get? b=none->X.s₀.heap.get? b=none:=λ b hb=>by
  cases e:X.s₀.heap.get? b with
  | none=>rfl
  | some o =>
   obtain ⟨o',e'⟩:=I.base.there b o e (by rw [B.ex];simp);rw [hb] at e';cases e'
 have pin:∀ b,s.heap.get? b=none->∀ p∈X.pn ++ m5,p.1≠b:=λ b hb p hp z=>by
  have:=(I.pin p hp).1;rw [z,hb] at this;cases this
 refine Wv I' B.st B.fr B.ex h1 h3 h4 (old a ga) Ha (pin a ga) (.inr ⟨T,oT,ts,h5,h6,h7,h8,h9,old T h10,h11,pin T h10⟩) λ s'' I2 x=>?_;exact ⟨a,oe.cls,σ,H',rfl,I2.nopins,x.less λ p hp=>bJ _ hp,h2 ▸ hG⟩
def zbe {a:Addr} {args:A9} {h':Heap} (B:Bod X) (I:Inv X m5 σ H s) (hm:Heap.MadeExcOf s.heap h' a cls args) (hG:G cls σ H):xeG X G (.ref a) { s with heap:=h' }:=by
 obtain ⟨t,h1,h2,h3⟩:=hm.there;have I':Inv X m5 σ H { s with heap:=h' }:=I.kept (t':=s.toks) hm.keeps;have ga:X.s₀.heap.get? a=none:=by
  cases e:X.s₀.heap.get? a with
  | none=>rfl
  | some o =>
   obtain ⟨o',e'⟩:=I.base.there a o e (by rw [B.ex];simp);rw [hm.new] at e';cases e'
 have Ha:H a=none:=by
  cases e:H a with
  | none=>rfl
  | some u =>
   obtain ⟨o',e'⟩:=(I.hok a u e).there;rw [hm.new] at e';cases e'
 refine Wv (s:={ s with heap:=h' }) I' B.st B.fr B.ex h1 rfl rfl ga Ha (λ p hp z=>?_) (.inl rfl) λ s'' I2 x=>?_
 ·have:=(I.pin p hp).1;rw [z,hm.new] at this;cases this
 ·exact ⟨a,cls,σ,H,rfl,I2.nopins,x.less λ p hp=>bJ _ hp,hG⟩
end
section
variable {P:Ah} {w:World} {K:A0} {mg:A6} {base:Heap}
noncomputable abbrev cxR (P:Ah) (w:World) (K:A0) (mg:A6) (base:Heap) (N:Aa) (qual:Str) (scope:Scope) (f:Addr) (cd:Ao) (A:Aq) (outer:List Env) (s:Ap) (H:Hp) (E:XK):Cx :=
 Jg (CXr P w) P w K mg base N qual scope f cd A outer s H E
def Fun.okx {x qual:Str} {st:Stmt} {f:Addr} {fd:FuncData} {N ps:Aa} {k:Nat} (F:Fun K x qual st f fd) (S:FnScope N ps (ze st)) (len:∀ vs H Q E,sp vs H Q E->vs.length=ps.length)
  (hbody:∀ (cdv:Ao) (A:Aq) (outer:List Env) (s:Ap) (H:Hp) (vs:Ar) (Q:VK) (E:XK),Room k (A.deeper (envOfC qual (ze st) s.heap.objs.size f cdv))->sp vs H Q E ->
   ∃ t,PSs ((cxR P w K mg base N qual (ze st) f cdv A outer s H E).exg λ cls _ H'=>E cls none H') (zV st) t/\t { nx:=λ _ H'=>Q .non H',rt:=Q } (start N vs) H):FnOk P w K mg base (CXr P w) (k + 1) f fd ps sp:=by
 obtain ⟨oc,od,kV,doc,pm,an,cdv,ct,osl,rfl,lk,hcd⟩:=F.ex;refine zfb lk hcd S len λ A outer s H vs Q E hr hsp=>?_;obtain ⟨t,h,q⟩:=hbody cdv A outer s H vs Q E hr hsp;refine ⟨t,λ m5 s σ H' D I hw=>?_,q⟩;refine aV (h m5 s σ H' D (I.wish _) hw) (λ _ _ z=>z.unwish) λ e s' z=>?_;refine af (aV (show wpAny _ _ _ _ _ _ from z) (λ _ s1 y1=>aV y1 (λ _ s'' y=>?_) λ _ _ y=>y.elim) λ _ _ y=>y.elim);obtain ⟨a,cls,σ2,H2,rfl,J,xx,g⟩:=y;exact ⟨a,cls,H2,rfl,J.os,J.bare,J.base,J.hok,xx.less (λ p hp=>absurd hp (by simp)),g⟩
end
structure Cal (P:Ah) (w:World) (K:A0) (mg:A6) (base:Heap) (x:Str) (k:Nat) (ps:Aa) (dvs:Ar) (sp:Sp):Prop where
 ex:∃ f fd ds,FnOk P w K mg base (CXr P w) k f fd ps sp/\mg x=some (.ref f)/\keepIn K (.ref f)=true/\Binds K fd ps ds/\Vals dvs ds
structure MCal (P:Ah) (w:World) (K:A0) (mg:A6) (base:Heap) (C:Addr) (m:Str) (k:Nat) (ps:Aa) (dvs:Ar) (sp:Sp):Prop where
 cl:Cls K C
 ex:∃ f fd ds,FnOk P w K mg base (CXr P w) k f fd ps sp/\Meth K C m f/\Binds K fd ps ds/\Vals dvs ds
structure KCal (P:Ah) (w:World) (K:A0) (mg:A6) (base:Heap) (x:Str) (C:Addr) (k:Nat) (ps:Aa) (dvs:Ar) (sp:Sp):Prop where
 gl:mg x=some (.ref C)
 ex:∃ f fd ds,FnOk P w K mg base (CXr P w) k f fd ps sp/\Mk K C f/\Binds K fd ps ds/\Vals dvs ds
def Cal.mono {j k:Nat} {dvs:Ar} (c:Cal P w K mg base x j ps dvs sp) (h:j<=k:=by decide):Cal P w K mg base x k ps dvs sp:=by
 obtain ⟨f,fd,ds,a,b⟩:=c.ex;exact ⟨f,fd,ds,a.mono h,b⟩
def MCal.mono {C:Addr} {m:Str} {j k:Nat} {dvs:Ar} (c:MCal P w K mg base C m j ps dvs sp) (h:j<=k:=by decide):MCal P w K mg base C m k ps dvs sp:=by
 obtain ⟨f,fd,ds,a,b⟩:=c.ex;exact ⟨c.cl,f,fd,ds,a.mono h,b⟩
def KCal.mono {C:Addr} {j k:Nat} {dvs:Ar} (c:KCal P w K mg base x C j ps dvs sp) (h:j<=k:=by decide):KCal P w K mg base x C k ps dvs sp:=by
 obtain ⟨f,fd,ds,a,b⟩:=c.ex;exact ⟨c.gl,f,fd,ds,a.mono h,b⟩
section
variable {X:Cx} {G:GK} {k:Nat} {f C:Addr} {fd:FuncData} {ps:Aa} {sp:Sp} {dvs:Ar} {ds:A9} {x m:Str} {p pos apos:Pos} {e o:Expr} {es:List Expr} {ta:TE} {t:TA}
theorem Jl {σ:St} {Q:VK} {us:A9} {vs:Ar} (B:Bod X) (F:FnOk X.prog X.w X.K X.mg X.base (CXr X.prog X.w) k f fd ps sp) (hr:Room k X.A) (hb:Binds X.K fd ps ds) (hd:Vals dvs ds)
  (I:Inv (X.exg G) m5 σ H s) (r:Vals vs us) (h:sp (vs ++ dvs) H Q (λ cls _ H'=>G cls σ H')):wpAny (model X.prog X.w) X.A (call (.ref f) us) (EP (X.exg G) m5 σ Q) (xeG X G) s:=by
 have r2:Vals (vs ++ dvs) (us ++ ds):=r.append hd;have hl:(us ++ ds).length=ps.length:=by rw [<- r2.length];exact F.len _ _ _ _ h
 refine fG (dm (F.run X.A X.stack s H ⟨us,[]⟩ (us ++ ds) (vs ++ dvs) Q _ hr I.unwish.env0 (hb s us I.kIn hl) r2 h) λ r s' hq=>?_);cases r with
 | error e=>exact QR B I.unwish hq
 | ok fl =>
  cases fl with
  | ret u=>exact I.after hq
  | next=>exact False.elim hq
  | brk=>exact False.elim hq
  | cont=>exact False.elim hq
theorem zdk {σ:St} {Q:VK} {us:A9} {vs:Ar} (B:Bod X) (M:Mk X.K C f) (F:FnOk X.prog X.w X.K X.mg X.base (CXr X.prog X.w) k f fd ps sp) (hr:Room (k + 1) X.A) (hb:Binds X.K fd ps ds) (hd:Vals dvs ds)
  (I:Inv (X.exg G) m5 σ H s) (r:Vals vs us)
  (h:∀ x dx,H x=none->H dx=none->dx≠x->sp (.ref x :: (vs ++ dvs)) (upd (upd H dx (.own x)) x (.ins C dx [])) (λ v H2=>v=.non/\Q (.ref x) H2) (λ cls _ H'=>G cls σ H')) :
  wpAny (model X.prog X.w) X.A (call (.ref C) us) (EP (X.exg G) m5 σ Q) (xeG X G) s:=by
 have hq:=h (s.heap.objs.size + 1) s.heap.objs.size (I.hok.fresh (cc _)) (I.hok.fresh (au _)) (aP (eI _));have I2:=Inv.made (C:=C) I;have r2:Vals (V.ref (s.heap.objs.size + 1) :: (vs ++ dvs)) (Value.ref (s.heap.objs.size + 1) :: (us ++ ds)):=.cons rfl (r.append hd);have hl:(Value.ref (s.heap.objs.size + 1) :: us ++ ds).length=ps.length:=by
  have e:=r2.length;rw [F.len _ _ _ _ hq] at e;exact e.symm
 refine fG (zaH (f:=f) I.kIn M.makes M.init (bA.mp M.fn) (dm (F.run _ X.stack _ _ ⟨Value.ref (s.heap.objs.size + 1) :: us,[]⟩ (Value.ref (s.heap.objs.size + 1) :: (us ++ ds)) _ _ _ (hr.make C us [])
  (I2.unwish.env0.make C us []) (hb _ (Value.ref (s.heap.objs.size + 1) :: us) I2.kIn hl) r2 hq) λ r s' hq'=>?_))
 cases r with
 | error e=>exact QR B I2.unwish hq'
 | ok fl =>
  cases fl with
  | ret u =>
   obtain ⟨v,H',I3,rv,ev,q3⟩:=I2.after hq';subst ev;exact ⟨rv,⟨V.ref (s.heap.objs.size + 1),H',I3,rfl,q3⟩⟩
  | next=>exact False.elim hq'
  | brk=>exact False.elim hq'
  | cont=>exact False.elim hq'
def tCl (X:Cx) (k:Nat) (x:Str) (G:GK) (t:TA):TE:=λ σ H Q=>∃ ps dvs sp,Cal X.prog X.w X.K X.mg X.base x k ps dvs sp/\t σ H λ vs H1=>sp (vs ++ dvs) H1 Q (λ cls _ H'=>G cls σ H')
def zx (B:Bod X) (hr:Room k X.A) (ha:PA (X.exg G) (e :: es) t) (hg:Gl X x:=by rfl) (hdb:(x == ("__debug__":Str))=false:=by decide)
  (he:starEach (e :: es) X.env=(false,eval e X.env) :: starEach es X.env:=by rfl) (hpl:(backTo pos (starEach es X.env)).any (·.1)=false:=by rfl) :
  PE (X.exg G) (.Call (.Name x p) (e :: es) [] pos) (tCl X k x G t):=by
 intro m5 s σ H Q I h;obtain ⟨ps,dvs,sp,⟨f,fd,ds,F,hm,hk,hb,hd⟩,h⟩:=h;refine bw (xR I hg hm ?_ hdb);refine dB (h₀:=X.base) I.ok.mod.kin hk (w6 (ha pos m5 s σ H _ I h) λ us s1 vs H1 I1 r q=>⟨I1.kIn,?_⟩) he hpl;exact Jl B F hr hb hd I1 r q
def tMk (X:Cx) (k:Nat) (x:Str) (G:GK) (t:TA):TE:=λ σ H Q=>∃ C ps dvs sp,KCal X.prog X.w X.K X.mg X.base x C k ps dvs sp/\t σ H λ vs H1=>∀ y dx,H1 y=none->H1 dx=none->dx≠y ->
 sp (.ref y :: (vs ++ dvs)) (upd (upd H1 dx (.own y)) y (.ins C dx [])) (λ v H2=>v=.non/\Q (.ref y) H2) (λ cls _ H'=>G cls σ H')
def qr (B:Bod X) (hr:Room (k + 1) X.A) (ha:PA (X.exg G) (e :: es) t) (hg:Gl X x:=by rfl) (hdb:(x == ("__debug__":Str))=false:=by decide)
  (he:starEach (e :: es) X.env=(false,eval e X.env) :: starEach es X.env:=by rfl) (hpl:(backTo pos (starEach es X.env)).any (·.1)=false:=by rfl) :
  PE (X.exg G) (.Call (.Name x p) (e :: es) [] pos) (tMk X k x G t):=by
 intro m5 s σ H Q I h;obtain ⟨C,ps,dvs,sp,⟨hm,f,fd,ds,F,M,hb,hd⟩,h⟩:=h;refine bw (xR I hg hm ?_ hdb);refine dB (h₀:=X.base) I.ok.mod.kin M.kp (w6 (ha pos m5 s σ H _ I h) λ us s1 vs H1 I1 r q=>⟨I1.kIn,?_⟩) he hpl;exact zdk B M F hr hb hd I1 r q
def tMth (X:Cx) (k:Nat) (m:Str) (G:GK) (ta:TE) (t:TA):TE:=λ σ H Q=>ta σ H λ y H1=>∃ a C dx fs ps dvs sp,y=.ref a/\H1 a=some (.ins C dx fs)/\fs.lookup m=none /\
 MCal X.prog X.w X.K X.mg X.base C m k ps dvs sp/\t σ H1 λ vs H2=>sp (.ref a :: (vs ++ dvs)) H2 Q (λ cls _ H'=>G cls σ H')
def QD {pl:Sem Bool} (B:Bod X) (hr:Room k X.A) (he:PE (X.exg G) o ta) (ha:PA (X.exg G) (e :: es) t)
  (hst:starEach (e :: es) X.env=(false,eval e X.env) :: starEach es X.env:=by rfl) (hpl:(backTo pos (starEach es X.env)).any (·.1)=false:=by rfl)
  (ht:eval (.Call (.Attribute o m apos) (e :: es) [] pos) X.env=(do
   let ov <- eval o X.env
   standAt apos.atName
   let (f,first) <- holding [ov] (getMethod ov m pl)
   callWith pos f first (backTo pos (starEach (e :: es) X.env)) (backToKw pos (keywordEach [] X.env))):=by rfl) :
  PE (X.exg G) (.Call (.Attribute o m apos) (e :: es) [] pos) (tMth X k m G ta t):=by
 intro m5 s σ H Q I h;refine dL (pl:=pl) (thn (he m5 s σ H _ I h) λ u s1 hz=>?_) ht;obtain ⟨x,H1,I1,rx,a,C,dx,fs,ps,dvs,sp,ex,ea,l,⟨c,f,fd,ds,F,hm,hb,hd⟩,q⟩:=hz;subst ex;obtain rfl:u=Value.ref a:=rx;refine wR I1 ea c hm l ?_;refine dB (first:=[.ref a]) (h₀:=X.base) I.ok.mod.kin hm.kp (w6 (ha pos m5 s1 σ H1 _ I1 q) λ us s2 vs H2 I2 r q2=>⟨I2.kIn,?_⟩) hst hpl;exact Jl (us:=.ref a :: us) (vs:=.ref a :: vs) B F hr hb hd I2 (.cons rfl r) q2
def Jo {pl:Sem Bool} (B:Bod X) (hr:Room k X.A) (he:PE (X.exg G) o ta)
  (ht:eval (.Call (.Attribute o m apos) [] [] pos) X.env=(do
   let ov <- eval o X.env
   standAt apos.atName
   let (f,first) <- holding [ov] (getMethod ov m pl)
   callWith pos f first (backTo pos (starEach [] X.env)) (backToKw pos (keywordEach [] X.env))):=by rfl) :
  PE (X.exg G) (.Call (.Attribute o m apos) [] [] pos) (tMth X k m G ta tNil):=by
 intro m5 s σ H Q I h;refine dL (pl:=pl) (thn (he m5 s σ H _ I h) λ u s1 hz=>?_) ht;obtain ⟨x,H1,I1,rx,a,C,dx,fs,ps,dvs,sp,ex,ea,l,⟨c,f,fd,ds,F,hm,hb,hd⟩,q⟩:=hz;subst ex;obtain rfl:u=Value.ref a:=rx;refine wR I1 ea c hm l ?_;exact fO (first:=[.ref a]) I1.kIn hm.kp (Jl (us:=[.ref a]) (vs:=[.ref a]) B F hr hb hd I1 (.cons rfl .nil) q)
def tGl (X:Cx) (x:Str):TE:=λ _ H Q=>∃ v u,X.mg x=some u/\RelV v u/\Q v H
def wl (hg:Gl X x:=by rfl) (hd:(x == ("__debug__":Str))=false:=by decide):PE X (.Name x pos) (tGl X x):=λ _ _ _ H _ I h=>by
 obtain ⟨v,u,hm,r,h⟩:=h;exact xR I hg hm ⟨v,H,I,r,h⟩ hd
def tBi (X:Cx) (x:Str) (r:List V->Hp->VK->Prop) (t:TA):TE:=λ σ H Q=>X.mg x=none/\t σ H λ vs H1=>r vs H1 Q
def z9 {id:String} {r:List V->Hp->VK->Prop} (hc:CallR X (.builtin id) r) (hv:bootBuiltins x=some (.builtin id)) (ha:PA X (e :: es) t) (hg:Gl X x:=by rfl) (hn:x≠"__name__":=by decide) (hdb:(x == ("__debug__":Str))=false:=by decide)
  (he:starEach (e :: es) X.env=(false,eval e X.env) :: starEach es X.env:=by rfl) (hpl:(backTo pos (starEach es X.env)).any (·.1)=false:=by rfl):PE X (.Call (.Name x p) (e :: es) [] pos) (tBi X x r t):=λ m5 s σ H Q I h =>
 zeD hc hg h.1 hv ha hn hdb he hpl m5 s σ H Q I h.2
def vx {T:String} {r:List V->Hp->VK->Prop} (hc:CallR X (.type T) r) (hv:bootBuiltins x=some (.type T)) (ha:PA X (e :: es) t) (hg:Gl X x:=by rfl) (hn:x≠"__name__":=by decide) (hdb:(x == ("__debug__":Str))=false:=by decide)
  (he:starEach (e :: es) X.env=(false,eval e X.env) :: starEach es X.env:=by rfl) (hpl:(backTo pos (starEach es X.env)).any (·.1)=false:=by rfl):PE X (.Call (.Name x p) (e :: es) [] pos) (tBi X x r t):=λ m5 s σ H Q I h =>
 zdt hc hg h.1 hv ha hn hdb he hpl m5 s σ H Q I h.2
end
section
variable {X:Cx} {tg:Expr} {a b c e o:Expr} {ta tb tc:TE} {pos:Pos}
def iSeq (K:A0) (tl:TE):TI:=λ σ H R=>tl σ H λ x H1=>∃ a,x=.ref a/\(((∃ xs,SqL K H1 a xs)/\R (Itl K a) H1)\/((∃ xs,SqT K H1 a xs)/\R (Itt K a) H1))
def qm {l:Expr} {tl:TE} (hl:PE X l tl):PI X tg l (iSeq X.K tl):=by
 intro m5 s σ H R I h;refine qL (hl m5 s σ H _ I h) λ v s1 x H1 I1 r1 q1=>?_;obtain ⟨a,e,q⟩:=q1;subst e;cases r1;rcases q with ⟨⟨xs,hq⟩,q⟩|⟨⟨xs,hq⟩,q⟩
 ·obtain ⟨mM,rv,p,hz⟩:=I1.list hq;refine wpAny_pyIter_list p.isList ?_;refine ⟨s1.heap.objs.size,[s1.heap.objs.size],_,_,H1,rfl,I1.kept (t':=s1.toks) λ b o e=>aj _ e,zc3 a _,⟨_,aE _ rfl,rfl,rfl⟩,λ b hb=>?_,q⟩;have e:b=s1.heap.objs.size:=by simpa using hb
  subst e;exact I1.fpOk (au _) (I1.hok.fresh (au _))
 ·obtain ⟨mM,rv,p,hz⟩:=I1.tuple hq;refine wpAny_pyIter_tuple (show s1.heap.IsTuple a mM.toArray from p) ?_;refine ⟨s1.heap.objs.size,[s1.heap.objs.size],_,_,H1,rfl,I1.kept (t':=s1.toks) λ b o e=>aj _ e,zbh a _,⟨_,aE _ rfl,rfl,rfl⟩,λ b hb=>?_,q⟩;have e:b=s1.heap.objs.size:=by simpa using hb
  subst e;exact I1.fpOk (au _) (I1.hok.fresh (au _))
def jD {ta:TA} {p pos:Pos} (ha:PA X [a] ta) (hg:Gl X "range":=by rfl) (hs:starEach [a] X.env=[(false,eval a X.env)]:=by rfl):PI X tg (.Call (.Name "range" p) [a] [] pos) (λ σ H R=>X.mg "range"=none/\iRng1 ta σ H R) :=
 λ m5 s σ H R I h=>zds hg h.1 ha hs m5 s σ H R I h.2
def zex (K:A0):R2:=λ x y H Q=>∃ l b xs zs,x=.ref l/\y=.ref b/\SqL K H l xs/\SqL K H b zs/\xs.length + zs.length<=sizeLine/\∀ p,H p=none->Q (.ref p) (upd H p (.lst (xs ++ zs)))
def zf1:OpR X (binaryOp .Add) (zex X.K):=by
 intro m5 s σ H x y v u Q I rx ry h;obtain ⟨l,b,xs,zs,rfl,rfl,hH,hB,hz,q⟩:=h;cases rx;cases ry;obtain ⟨mM,r,p,z⟩:=I.list hH;obtain ⟨its2,r2,p2,z2⟩:=I.list hB;have e1:=r.length;have e2:=r2.length;obtain ⟨⟨cls,dd,data,sl⟩,n,ho,hc,hdd,hd⟩:=p;obtain ⟨⟨cls2,dd2,data2,sl2⟩,n2,ho2,hc2,hdd2,hd2⟩:=p2;simp only at hc hd hc2 hd2;subst hc hd hc2 hd2;have ea:mM.toArray ++ its2.toArray=(mM ++ its2).toArray:=by simp
 refine concat_meets ⟨_,ho,rfl⟩ ⟨_,ho2,rfl⟩ noFill_list_add seq_list_add PySem.F.slot_list_add PySem.F.entry_list_add (PySem.F.args_list_add_2 _ _) (list_addW l b mM.toArray its2.toArray n n2 dd dd2 sl sl2 (by simp only [av];lia)) ⟨ho,ho2,?_⟩;rw [ea];exact ⟨.ref _,_,I.lnew (t':=s.toks) (r.append r2) (by rw [aQ];lia),rfl,q _ I.fresh⟩
def OpR.wk {f:An} {r r':R2} (h:OpR X f r) (k:∀ x y H Q,r' x y H Q->r x y H Q):OpR X f r':=λ m5 s σ H x y v u Q I rx ry q=>h m5 s σ H x y v u Q I rx ry (k x y H Q q)
def zaq (K:A0):R2:=λ x y H Q=>match x,y with
 | .int i,.int j=>Q (.int (i + j)) H
 | .str i,.str j=>i.length + j.length<=sizeLine/\Q (.str (i ++ j)) H
 | x,y=>zex K x y H Q
def zJ:OpR X (binaryOp .Add) (zaq X.K):=(op_add.or (op_add_str.or zf1)).wk λ x y H Q h=>by
 unfold zaq at h
 split at h
 ·exact .inl h
 ·exact .inr (.inl ⟨_,_,rfl,rfl,h⟩)
 ·exact .inr (.inr h)
def rT (c:Int->Int->Prop) [∀ i j,Decidable (c i j)]:R2:=λ x y H Q=>iq x λ i=>iq y λ j=>if c i j then Q (.bl true) H else Q (.bl false) H
def zbX {c:Prop} [Decidable c] {Q:VK} (h:if c then Q (.bl true) H else Q (.bl false) H):Q (.bl (decide c)) H:=by
 by_cases e:c
 ·rw [ar e] at h;rw [bp e];exact h
 ·rw [ap e] at h;rw [aW e];exact h
def zcA {c:Prop} [Decidable c] {Q:VK} (h:if ¬ c then Q (.bl true) H else Q (.bl false) H):Q (.bl (!decide c)) H:=by
 by_cases e:c
 ·rw [ap (λ z=>z e)] at h;rw [bp e];exact h
 ·rw [ar e] at h;rw [aW e];exact h
def OpR.t {f:An} {c:Int->Int->Prop} [∀ i j,Decidable (c i j)] (h:OpR X f (rI0 λ i j=>.bl (decide (c i j)))):OpR X f (rT c):=h.wk λ x y H Q q=>by
 obtain ⟨i,j,rfl,rfl,q⟩:=QL q;exact zbX q
def QS:OpR X (compareOp .Lt) (rT λ i j=>i < j):=op_lt.t
def xB:OpR X (compareOp .LtE) (rT λ i j=>i<=j):=op_le.t
def zav:OpR X (compareOp .Gt) (rT λ i j=>j < i):=op_gt.t
def je:OpR X (compareOp .Is) (λ x y H Q=>nq y (if x=.non then Q (.bl true) H else Q (.bl false) H)):=op_isN.wk λ x y H Q q=>by
 obtain ⟨rfl,q⟩:=zcs q;exact zbX q
def Vq:OpR X (compareOp .IsNot) (λ x y H Q=>nq y (if ¬ x=.non then Q (.bl true) H else Q (.bl false) H)):=op_notN.wk λ x y H Q q=>by
 obtain ⟨rfl,q⟩:=zcs q;exact zcA q
def zbH {op:Operator} {b:Expr} {y:V} {r:R2} (ho:OpR X (binaryOp op) r) (hb:PE X b (tC y)) {ta:TE} {r':V->Hp->VK->Prop} (k:∀ x H Q,r' x H Q->r x y H Q) {pos:Pos} (ha:PE X a ta):PE X (.BinOp a op b pos) (tUn r' ta):=by
 intro m5 s σ H Q I h;refine wpAny_BinOp (qL (ha m5 s σ H _ I h) λ v s1 x H1 I1 r1 q1=>thn (hb m5 s1 σ H1 (λ z H2=>z=y/\H2=H1) I1 ⟨rfl,rfl⟩) λ u s2 ⟨z,H2,I2,r2,e,e2⟩=>?_);subst e e2;exact ho m5 s2 σ H2 x z v u Q I2 r1 r2 (k x H2 Q q1)
def zZ {k:Int} {j:Nat} {p2 pos:Pos} {ta:TE} (ha:PE X a ta) (h:decide (0 < k)=true:=by rfl):PE X (.BinOp a .Mod (.Constant (.int k) j p2) pos) (tUn (rU λ i=>.int (i % k)) ta) :=
 zbH qq zd (λ x H Q q=>by obtain ⟨i,rfl,q⟩:=Z8 q;exact ⟨bT h,q⟩) ha
def qb {k:Int} {j:Nat} {p2 pos:Pos} {ta:TE} (ha:PE X a ta) (h:decide (0 < k/\k < 1073741824)=true:=by rfl):PE X (.BinOp a .FloorDiv (.Constant (.int k) j p2) pos) (tUn (rU λ i=>.int (i / k)) ta) :=
 zbH zf0 zd (λ x H Q q=>by obtain ⟨i,rfl,q⟩:=Z8 q;have z:=bT h;exact ⟨z,q⟩) ha
def zbG {b k:Int} {j j2:Nat} {p1 p2 pos:Pos} (h:decide (0<=k/\k<=1000000/\b.natAbs < 2 ^ 64)=true:=by rfl):PE X (.BinOp (.Constant (.int b) j p1) .Pow (.Constant (.int k) j2 p2) pos) (tC (.int (b ^ k.toNat))):=by
 intro m5 s σ H Q I q;have z:=bT h;exact zt zhc zd zd m5 s σ H Q I ⟨z,q⟩
def zbI {b k:Int} {j j2:Nat} {p1 p2 p3 pos:Pos} {ta:TE} (ha:PE X a ta) (h:decide (0<=k/\k<=1000000/\b.natAbs < 2 ^ 64)=true:=by rfl) (h0:decide (0 < b)=true:=by rfl) :
  PE X (.BinOp a .Mod (.BinOp (.Constant (.int b) j p1) .Pow (.Constant (.int k) j2 p2) p3) pos) (tUn (rU λ i=>.int (i % b ^ k.toNat)) ta) :=
 zbH qq (zbG h) (λ x H Q q=>by obtain ⟨i,rfl,q⟩:=Z8 q;exact ⟨Int.pow_pos (bT h0),q⟩) ha
structure MulOk (i j:Int):Prop where
 h:IntMulOk i j
def jM:OpR X (binaryOp .Mult) (rI MulOk λ i j=>.int (i * j)):=opI λ _ _ _ _ _ _ _ hc q=>mul_int q hc.h
structure CFd (_ j:Int):Prop where
 a:j≠0
 b:j.natAbs.log2 < 9000
def Vx:OpR X (binaryOp .FloorDiv) (rI CFd λ i j=>.int (i.fdiv j)):=opI λ _ _ _ _ _ _ _ hc q=>floordiv_int hc.1 q (.inl (PyProof.noPylong_of_log2 hc.2))
def mul_okL {i j:Int} (h1:-(2 ^ 64) < i) (h2:i < 2 ^ 64):MulOk i j:=⟨PySem.IntMulOk.of_left (fK h1 h2)⟩
def mul_okR {i j:Int} (h1:-(2 ^ 64) < j) (h2:j < 2 ^ 64):MulOk i j:=⟨PySem.IntMulOk.of_right (fK h1 h2)⟩
def fd_ok {i j:Int} (h1:0 < j) (h2:j.natAbs < 2 ^ 8999):CFd i j:=⟨by lia,by
 have:=(Nat.log2_lt (n:=j.natAbs) (k:=8999) (by lia)).mpr h2
 lia⟩
def fdiv_pos {i j:Int} (h:0 < j):i.fdiv j=i / j:=db i (c7 h)
noncomputable def xb:List V->List V->Bool
 | [],[]=>true
 | x :: xs,y :: ys=>eqV x y && xb xs ys
 | _,_=>false
theorem wc:∀ {xs ys:Ar},xs.length≠ys.length->xb xs ys=false
 | [],[],h=>absurd rfl h
 | [],_ :: _,_=>rfl
 | _ :: _,[],_=>rfl
 | x :: xs,y :: ys,h=>by
  have:=wc (xs:=xs) (ys:=ys) (λ e=>h (by simp [e]));unfold xb;rw [this,cG]
theorem we:∀ {xs ys:Ar},xs.length=ys.length->(List.range xs.length).all (λ j=>eqV (xs.getD j .non) (ys.getD j .non))=xb xs ys
 | [],[],_=>rfl
 | [],_ :: _,h=>by simp at h
 | _ :: _,[],h=>by simp at h
 | x :: xs,y :: ys,h=>by
  have ih:=we (xs:=xs) (ys:=ys) (by simpa using h);unfold xb;rw [<- ih,bB,List.range_succ_eq_map,all_cons,List.all_map]
  rfl
theorem Vals.getD:∀ {xs:Ar} {us:A9} {j:Nat} (h:j < us.length),Vals xs us->RelV (xs.getD j .non) us[j]
 | _,_,0,_,.cons r _=>r
 | _,_,j + 1,h,.cons _ t=>Vals.getD (j:=j) (by simpa using h) t
def jW {xs:Ar} (f:xs.all xF=true) (j:Nat):xF (xs.getD j .non)=true:=by
 rw [ae];cases e:xs[j]? with
 | none=>rfl
 | some x=>exact bM.mp f x (ah e)
def zfP (K:A0) (neg:Bool):R2:=λ x y H Q=>∃ a b xs ys,x=.ref a/\y=.ref b/\((SqL K H a xs/\SqL K H b ys)\/(SqT K H a xs/\SqT K H b ys))/\xs.all xF=true/\ys.all xF=true/\Q (.bl (if neg then !xb xs ys else xb xs ys)) H
def Wp (hu:X.A.units < cLine):OpR X (compareOp .Eq) (zfP X.K false):=by
 intro m5 s σ H x y v u Q I rx ry h;obtain ⟨a,b,xs,ys,rfl,rfl,hq,fx,fy,q⟩:=h;cases rx;cases ry;have fin:EP X m5 σ Q (.bool (xb xs ys)) s:=⟨.bl (xb xs ys),H,I,rfl,q⟩;rcases hq with ⟨h1,h2⟩|⟨h1,h2⟩
 ·obtain ⟨mM,r,p,_⟩:=I.list h1;obtain ⟨its2,r2,p2,_⟩:=I.list h2;have e1:=r.length;have e2:=r2.length;by_cases hl:xs.length=ys.length
  ·refine fg (e:=λ j=>eqV (xs.getD j .non) (ys.getD j .non)) p.isList p2.isList (by simp only [av];lia) hu (λ j h1 h2=>?_) _ _ _ _ ?_
   ·exact QM (Vals.getD (by simpa using h1) r) (Vals.getD (by simpa using h2) r2) (jW fx j) (jW fy j)
   ·rw [av,<- e1,we hl];exact fin
  ·rw [wc hl] at fin;exact dG p.isList p2.isList (by simp only [av];simp;lia) hu _ _ _ _ fin
 ·obtain ⟨mM,r,p,_⟩:=I.tuple h1;obtain ⟨its2,r2,p2,_⟩:=I.tuple h2;have e1:=r.length;have e2:=r2.length;refine cT (e:=λ j=>eqV (xs.getD j .non) (ys.getD j .non)) p p2 hu (λ j h1 h2=>?_) _ _ _ _ ?_
  ·exact QM (Vals.getD (by simpa using h1) r) (Vals.getD (by simpa using h2) r2) (jW fx j) (jW fy j)
  ·by_cases hl:xs.length=ys.length
   ·have em:min mM.toArray.size its2.toArray.size=xs.length:=by simp only [av];lia
    have es:(mM.toArray.size == its2.toArray.size)=true:=by simp only [av];rw [bA];lia
    rw [em,es,we hl,dX];exact fin
   ·have es:(mM.toArray.size == its2.toArray.size)=false:=by simp only [av];rw [a9];lia
    rw [es,cG];rw [wc hl] at fin;exact fin
def zdv (hu:X.A.units < cLine):OpR X (compareOp .NotEq) (zfP X.K true):=by
 intro m5 s σ H x y v u Q I rx ry h;obtain ⟨a,b,xs,ys,rfl,rfl,hq,fx,fy,q⟩:=h;cases rx;cases ry;have fin:EP X m5 σ Q (.bool (!xb xs ys)) s:=⟨.bl (!xb xs ys),H,I,rfl,q⟩;rcases hq with ⟨h1,h2⟩|⟨h1,h2⟩
 ·obtain ⟨mM,r,p,_⟩:=I.list h1;obtain ⟨its2,r2,p2,_⟩:=I.list h2;have e1:=r.length;have e2:=r2.length;by_cases hl:xs.length=ys.length
  ·refine SeqAt.RcNeAt.lists (e:=λ j=>eqV (xs.getD j .non) (ys.getD j .non)) p.isList p2.isList (by simp only [av];lia) hu (λ j h1 h2=>?_) _ _ _ _ ?_
   ·exact QM (Vals.getD (by simpa using h1) r) (Vals.getD (by simpa using h2) r2) (jW fx j) (jW fy j)
   ·rw [av,<- e1,we hl];exact fin
  ·rw [wc hl] at fin;exact SeqAt.RcNeAt.lists_lengths p.isList p2.isList (by simp only [av];simp;lia) hu _ _ _ _ fin
 ·obtain ⟨mM,r,p,_⟩:=I.tuple h1;obtain ⟨its2,r2,p2,_⟩:=I.tuple h2;have e1:=r.length;have e2:=r2.length;refine SeqAt.RcNeAt.tuples (e:=λ j=>eqV (xs.getD j .non) (ys.getD j .non)) p p2 hu (λ j h1 h2=>?_) _ _ _ _ ?_
  ·exact QM (Vals.getD (by simpa using h1) r) (Vals.getD (by simpa using h2) r2) (jW fx j) (jW fy j)
  ·by_cases hl:xs.length=ys.length
   ·have em:min mM.toArray.size its2.toArray.size=xs.length:=by simp only [av];lia
    have es:(mM.toArray.size == its2.toArray.size)=true:=by simp only [av];rw [bA];lia
    rw [em,es,we hl,dX];exact fin
   ·have es:(mM.toArray.size == its2.toArray.size)=false:=by simp only [av];rw [a9];lia
    rw [es,cG];rw [wc hl] at fin;exact fin
inductive DE (K:A0) (H:Hp):Nat->V->V->Bool->Prop
 | flat {n:Nat} {x y:V}:xF x=true->xF y=true->DE K H n x y (eqV x y)
 | same {n:Nat} {p:Addr}:DE K H n (.ref p) (.ref p) true
 | lists {n:Nat} {p q:Addr} {xs ys:Ar} {e:Nat->Bool}:p≠q->SqL K H p xs->SqL K H q ys->xs.length=ys.length->(∀ j x y,xs[j]?=some x->ys[j]?=some y->DE K H n x y (e j))->DE K H (n + 1) (.ref p) (.ref q) ((List.range xs.length).all e)
 | listsL {n:Nat} {p q:Addr} {xs ys:Ar}:p≠q->SqL K H p xs->SqL K H q ys->xs.length≠ys.length->DE K H (n + 1) (.ref p) (.ref q) false
 | tuples {n:Nat} {p q:Addr} {xs ys:Ar} {e:Nat->Bool}:p≠q->SqT K H p xs->SqT K H q ys->(∀ j x y,xs[j]?=some x->ys[j]?=some y->DE K H n x y (e j))->DE K H (n + 1) (.ref p) (.ref q) ((List.range (min xs.length ys.length)).all e && xs.length == ys.length)
 | nt {n:Nat} {p:Addr} {xs:Ar}:SqT K H p xs->DE K H n .non (.ref p) false
 | tn {n:Nat} {p:Addr} {xs:Ar}:SqT K H p xs->DE K H n (.ref p) .non false
def Vals.at_ {xs:Ar} {us:A9} (r:Vals xs us) {j:Nat} (h:j < us.toArray.size):∃ x,xs[j]?=some x/\RelV x us.toArray[j]:=by
 have h':j < us.length:=by simpa using h
 have hl:j < xs.length:=by rw [r.length];exact h'
 obtain ⟨u,hu,ru⟩:=r.get (ac hl);have e:us.toArray[j]=u:=by
  have:=aa.mp hu;obtain ⟨_,e⟩:=this;simpa using e
 exact ⟨xs[j],ac hl,e ▸ ru⟩
def zcP {σ:St} {n:Nat} {x y:V} {b:Bool} (I:Inv X m5 σ H s) (h:DE X.K H n x y b):∀ {u v:Ao} {A:Aq},RelV x u->RelV y v->A.units + n < cLine->SeqAt.EqAt A s u v b:=by
 induction h with
 | flat fx fy=>intro u v A rx ry _;exact QM rx ry fx fy
 | same=>intro u v A rx ry _;cases rx;cases ry;exact dU _
 | lists hne h1 h2 hl _ ih =>
  intro u v A rx ry hu;cases rx;cases ry;obtain ⟨mM,r,p,_⟩:=I.list h1;obtain ⟨its2,r2,p2,_⟩:=I.list h2;have e1:=r.length;have e2:=r2.length;refine cI hne ?_;have:=fg (A:=A) (s:=s) p.isList p2.isList (by simp only [av];lia) (by lia) (λ j h1 h2=>by
   obtain ⟨x,hx,rx⟩:=r.at_ h1;obtain ⟨y,hy,ry⟩:=r2.at_ h2;exact ih j x y hx hy rx ry (by show A.units + 1 + _ < _;lia))
  rw [av,<- e1] at this;exact this
 | listsL hne h1 h2 hl =>
  intro u v A rx ry hu;cases rx;cases ry;obtain ⟨mM,r,p,_⟩:=I.list h1;obtain ⟨its2,r2,p2,_⟩:=I.list h2;have e1:=r.length;have e2:=r2.length;exact cI hne (dG p.isList p2.isList (by simp only [av];simp;lia) (by lia))
 | tuples hne h1 h2 _ ih =>
  intro u v A rx ry hu;cases rx;cases ry;obtain ⟨mM,r,p,_⟩:=I.tuple h1;obtain ⟨its2,r2,p2,_⟩:=I.tuple h2;have e1:=r.length;have e2:=r2.length;refine cI hne ?_;have:=cT (A:=A) (s:=s) p p2 (by lia) (λ j h1 h2=>by
   obtain ⟨x,hx,rx⟩:=r.at_ h1;obtain ⟨y,hy,ry⟩:=r2.at_ h2;exact ih j x y hx hy rx ry (by show A.units + 1 + _ < _;lia))
  simp only [av,<- e1,<- e2] at this;exact this
 | nt h1 =>
  intro u v A rx ry hu;cases rx;cases ry;obtain ⟨mM,r,p,_⟩:=I.tuple h1;exact SeqAt.EqAt.none_tuple p (by lia)
 | tn h1 =>
  intro u v A rx ry hu;cases rx;cases ry;obtain ⟨mM,r,p,_⟩:=I.tuple h1;exact SeqAt.EqAt.tuple_none p (by lia)
def zfQ (K:A0) (neg:Bool):R2:=λ x y H Q=>∃ p q xs ys n e,x=.ref p/\y=.ref q/\n<=8/\(∀ j x y,xs[j]?=some x->ys[j]?=some y->DE K H n x y (e j)) /\
 ((SqL K H p xs/\SqL K H q ys/\xs.length=ys.length/\Q (.bl (if neg then !((List.range xs.length).all e) else (List.range xs.length).all e)) H) \/
   (SqT K H p xs/\SqT K H q ys/\Q (.bl (if neg then !((List.range (min xs.length ys.length)).all e && xs.length == ys.length) else ((List.range (min xs.length ys.length)).all e && xs.length == ys.length))) H))
def zbL (hu:X.A.units + 100 < cLine):OpR X (compareOp .Eq) (zfQ X.K false):=by
 intro m5 s σ H x y v u Q I rx ry h;obtain ⟨p,q,xs,ys,n,e,rfl,rfl,hn,hde,h⟩:=h;cases rx;cases ry;rcases h with ⟨h1,h2,hl,q⟩|⟨h1,h2,q⟩
 ·obtain ⟨mM,r,p,_⟩:=I.list h1;obtain ⟨its2,r2,p2,_⟩:=I.list h2;have e1:=r.length;have e2:=r2.length;refine fg (e:=e) p.isList p2.isList (by simp only [av];lia) (by lia) (λ j h1 h2=>?_) _ _ _ _ ?_
  ·obtain ⟨x,hx,rx⟩:=r.at_ h1;obtain ⟨y,hy,ry⟩:=r2.at_ h2;exact zcP I (hde j x y hx hy) rx ry (by show X.A.units + 1 + _ < _;lia)
  ·rw [av,<- e1];exact ⟨.bl _,H,I,rfl,q⟩
 ·obtain ⟨mM,r,p,_⟩:=I.tuple h1;obtain ⟨its2,r2,p2,_⟩:=I.tuple h2;have e1:=r.length;have e2:=r2.length;refine cT (e:=e) p p2 (by lia) (λ j h1 h2=>?_) _ _ _ _ ?_
  ·obtain ⟨x,hx,rx⟩:=r.at_ h1;obtain ⟨y,hy,ry⟩:=r2.at_ h2;exact zcP I (hde j x y hx hy) rx ry (by show X.A.units + 1 + _ < _;lia)
  ·simp only [av,<- e1,<- e2];exact ⟨.bl _,H,I,rfl,q⟩
def zbK (hu:X.A.units + 100 < cLine):OpR X (compareOp .NotEq) (zfQ X.K true):=by
 intro m5 s σ H x y v u Q I rx ry h;obtain ⟨p,q,xs,ys,n,e,rfl,rfl,hn,hde,h⟩:=h;cases rx;cases ry;rcases h with ⟨h1,h2,hl,q⟩|⟨h1,h2,q⟩
 ·obtain ⟨mM,r,p,_⟩:=I.list h1;obtain ⟨its2,r2,p2,_⟩:=I.list h2;have e1:=r.length;have e2:=r2.length;refine SeqAt.RcNeAt.lists (e:=e) p.isList p2.isList (by simp only [av];lia) (by lia) (λ j h1 h2=>?_) _ _ _ _ ?_
  ·obtain ⟨x,hx,rx⟩:=r.at_ h1;obtain ⟨y,hy,ry⟩:=r2.at_ h2;exact zcP I (hde j x y hx hy) rx ry (by show X.A.units + 1 + _ < _;lia)
  ·rw [av,<- e1];exact ⟨.bl _,H,I,rfl,q⟩
 ·obtain ⟨mM,r,p,_⟩:=I.tuple h1;obtain ⟨its2,r2,p2,_⟩:=I.tuple h2;have e1:=r.length;have e2:=r2.length;refine SeqAt.RcNeAt.tuples (e:=e) p p2 (by lia) (λ j h1 h2=>?_) _ _ _ _ ?_
  ·obtain ⟨x,hx,rx⟩:=r.at_ h1;obtain ⟨y,hy,ry⟩:=r2.at_ h2;exact zcP I (hde j x y hx hy) rx ry (by show X.A.units + 1 + _ < _;lia)
  ·simp only [av,<- e1,<- e2];exact ⟨.bl _,H,I,rfl,q⟩
def Vo (K:A0):R2:=λ x y H Q=>match x,y with
 | .int i,.int j=>Q (.bl (decide (i=j))) H
 | .str i,.str j=>Q (.bl (decide (i=j))) H
 | .bl i,.bl j=>Q (.bl (decide (i=j))) H
 | x,y=>rEq x y H Q\/zfP K false x y H Q\/zfQ K false x y H Q
def X0 (K:A0):R2:=λ x y H Q=>match x,y with
 | .int i,.int j=>Q (.bl (!decide (i=j))) H
 | .str i,.str j=>Q (.bl (!decide (i=j))) H
 | .bl i,.bl j=>Q (.bl (!decide (i=j))) H
 | x,y=>rNe x y H Q\/zfP K true x y H Q\/zfQ K true x y H Q
def zdo (K:A0):R2:=λ x y H Q=>match x,y with
 | .int i,.int j=>if i=j then Q (.bl true) H else Q (.bl false) H
 | .str i,.str j=>if i=j then Q (.bl true) H else Q (.bl false) H
 | .bl i,.bl j=>if i=j then Q (.bl true) H else Q (.bl false) H
 | x,y=>Vo K x y H Q
def zdn (K:A0):R2:=λ x y H Q=>match x,y with
 | .int i,.int j=>if ¬ i=j then Q (.bl true) H else Q (.bl false) H
 | .str i,.str j=>if ¬ i=j then Q (.bl true) H else Q (.bl false) H
 | .bl i,.bl j=>if ¬ i=j then Q (.bl true) H else Q (.bl false) H
 | x,y=>X0 K x y H Q
def zgE (hu:X.A.units + 100 < cLine):OpR X (compareOp .Eq) (Vo X.K):=(op_eq.or ((Wp (by lia)).or (zbL hu))).wk λ x y H Q h=>by
 unfold Vo at h
 split at h <;> first|exact h|exact .inl ⟨rfl,by simpa using h⟩
def zia (hu:X.A.units + 100 < cLine):OpR X (compareOp .NotEq) (X0 X.K):=(op_ne.or ((zdv (by lia)).or (zbK hu))).wk λ x y H Q h=>by
 unfold X0 at h
 split at h <;> first|exact h|exact .inl ⟨rfl,by simpa using h⟩
def qK (hu:X.A.units + 100 < cLine):OpR X (compareOp .Eq) (zdo X.K):=(zgE hu).wk λ x y H Q h=>by
 unfold zdo at h
 split at h <;> first|exact h|exact zbX (Q:=Q) h
def Zd (hu:X.A.units + 100 < cLine):OpR X (compareOp .NotEq) (zdn X.K):=(zia hu).wk λ x y H Q h=>by
 unfold zdn at h
 split at h <;> first|exact h|exact zcA (Q:=Q) h
def Room.units1 {k:Nat} {A:Aq} (r:Room k A):A.units + 100 < cLine:=by have:=r.un;lia
noncomputable def zhH:V->Option Value
 | .ty n=>some (.type n)
 | .ref a=>some (.ref a)
 | _=>none
def zW:bootBuiltins "len"=some (.builtin "len"):=by decide +kernel
def jp:bootBuiltins "isinstance"=some (.builtin "isinstance"):=by decide +kernel
def zhJ:bootBuiltins "max"=some (.builtin "max"):=by decide +kernel
def zdY:bootBuiltins "sorted"=some (.builtin "sorted"):=by decide +kernel
def xU:bootBuiltins "list"=some (.type "list"):=by decide +kernel
def Qf:bootBuiltins "tuple"=some (.type "tuple"):=by decide +kernel
def QW:kitOne K (.type "int") (.type "int")=some true:=by rfl
def Z5:kitOne K (.type "int") (.type "bool")=some false:=by rfl
def Zf:kitOne K (.type "bool") (.type "bool")=some true:=by rfl
def QV:kitOne K (.type "str") (.type "str")=some true:=by rfl
def zhu:IxR X (rIx X.K):=zht
def zX:CallR X (.builtin "len") (λ xs H Q=>lq xs λ x=>∃ n,ziv X.K x H n/\Q (.int n) H):=λ m5 s σ H xs us Q I r h=>let ⟨x,e,n,h⟩:=zeS h;zfk m5 s σ H xs us Q I r ⟨x,n,e,h⟩
def zhj {xs:Ar} {P:Int->Prop} (h:lq xs λ v=>iq v P):∃ i,xs=[.int i]/\P i:=by
 obtain ⟨v,rfl,h⟩:=zeS h;obtain ⟨i,rfl,h⟩:=Z8 h;exact ⟨i,rfl,h⟩
end
abbrev bmV:List Value:=[.type "ValueError",.type "Exception",.type "BaseException",.type "object"]
structure XC (K:A0) (C:Addr):Prop where
 q:excIn K C bmV "ValueError.__new__"=true
def zgL {C:Addr} {h₀:Heap} (X:K.In h₀) (x:XC K C):∃ bm N nm q bs hdct sn sub ab col dd k0 k1 k2 k3 k5 mN,h₀.get? C=some (excClassObj nm q C N bs bm hdct sn sub ab col dd k0 k1 k2 k3 k5 "ValueError.__new__")/\h₀.Ns N mN/\mN "__init__"=none/\OwnTail h₀ bmV bm:=by
 have q:=x.q;unfold excIn at q
 split at q
 ·rename_i dd cd sl ho
  split at q
  ·rename_i C' bm k0 k1 k2 k3 n k5 hm hs;simp only [cO,bA,Bool.not_eq_true'] at q;obtain ⟨⟨⟨⟨⟨rfl,rfl⟩,hdel⟩,ht⟩,hok⟩,hni⟩:=q;obtain ⟨nm,bs,mro,ns,qn,hd,sn,sub,ab,col,del⟩:=cd;dsimp only at hm hdel hok hni;subst hm hdel;have hsl:sl=#[k0,k1,k2,k3,some (.builtin "ValueError.__new__"),k5]:=by
    obtain ⟨l⟩:=sl;simp only at hs;rw [hs]
   subst hsl;exact ⟨bm,ns,nm,qn,bs,hd,sn,sub,ab,col,dd,k0,k1,k2,k3,k5,_,X _ _ ho,.of_isNs (PySem.W.isNs_of_in X hok),PySem.W.nsMap_none_of_in X hok hni,PySem.W.tail_of_in X ht⟩
  ·cases q
 ·cases q
section
variable {X:Cx} {G:GK} {x n:Str} {np cpos pos hpos:Pos} {e₀:Expr} {es:List Expr} {t:TA}
def tRaise (X:Cx) (x:Str) (G:GK) (t:TA):TS:=λ _ σ H=>∃ C,X.mg x=some (.ref C)/\XC X.K C/\t σ H λ vs H1=>szl vs (G (.ref C) σ H1)
def jd (B:Bod X) (hc:X.calm=true) (ha:PA (X.exg G) (e₀ :: es) t) (hg:Gl X x:=by rfl) (hdb:(x == ("__debug__":Str))=false:=by decide)
  (he:starEach (e₀ :: es) X.env=(false,eval e₀ X.env) :: starEach es X.env:=by rfl) (hpl:(backTo cpos (starEach es X.env)).any (·.1)=false:=by rfl) :
  PS (X.exg G) (.Raise (some (.Call (.Name x np) (e₀ :: es) [] cpos)) none pos) (tRaise X x G t):=by
 intro m5 s σ H D I h;obtain ⟨C,hm,xc,h⟩:=h;obtain ⟨tl,N,nm,q,bs,hdct,sn,sub,ab,col,dd,k0,k1,k2,k3,k5,mN,hC,hN,hni,T⟩:=zgL I.ok.mod.kin xc;refine wpAny_Raise_call_subT (C:=C) (nm:=nm) (q:=q) (N:=N) (bs:=bs) (bm:=tl) (hdct:=hdct) (sn:=sn) (sub:=sub) (ab:=ab) (col:=col) (dd:=dd) (k0:=k0) (k1:=k1) (k2:=k2) (k3:=k3) (k5:=k5)
  F.excBase_ValueError (mN:=mN) (T.hasType F.excBase_ValueError.hasBase) (I.ok.hd hc) (by rw [he];show (false || (backTo cpos (starEach es X.env)).any (·.1))=false;rw [hpl];rfl) hni (xR I hg hm ⟨rfl,?_⟩ hdb)
 have hA:=ha cpos m5 s σ H _ I h;rw [he] at hA ⊢;refine Calls.evalArgs_plain (thn hA λ us s2 ⟨vs,H2,I2,r,g⟩=>?_);obtain ⟨hl,g⟩:=zbj g;exact ⟨rfl,by rw [<- r.length];exact hl,I2.bk _ _ hC,hN.keeps I2.bk,T.keeps I2.bk,λ h' a hm=>zbe B I2.unwish hm g⟩
end
noncomputable def zin (a:Addr) (cls:Ao):HO:=.ext λ h=>∃ o vs,h.get? a=some o/\o.cls=cls/\o.dict=none/\o.data=.fields vs
def Exc.obj {g h:Heap} {pn:A4} {a:Addr} (x:Exc g h H pn a cls):∃ o vs,h.get? a=some o/\o.cls=cls/\o.dict=none/\o.data=.fields vs:=by
 obtain ⟨oe,vs,_,_,_,h1,h2,h3,h4,_⟩:=x.ex;exact ⟨oe,vs,h1,h2,h3,h4⟩
section
variable {X:Cx} {m5:A4} {σ:St} {H:Hp} {s:Ap}
def zb4 {M:Model} {A:Aq} {E:A5} {a:Addr} {Q:Ai} (I:Inv X m5 σ H s) (x:Exc X.s₀.heap s.heap H (X.pn ++ m5) a cls)
  (hQ:∀ s',Inv X m5 σ H s'->Exc X.s₀.heap s'.heap H (X.pn ++ m5) a cls->Q () s'):wpAny M A (setFlight (.ref a) none) Q E s:=by
 obtain ⟨⟨oe,vs,T,oT,ts,h1,h2,h3,h4,h5,h6,h7,h8,h9,h10,h11,h12⟩,ga,Ha,pa⟩:=x;have h3s:3 < ts.size:=(bO.mp h9).1;refine wpAny_setFlight_none h1 h4 h5 h7 h8 h3s ?_;have hT:=bu (Obj.mapFields (·.setIfInBounds 3 Value.none)) h7 (cf (bj h8 _));have other:∀ b,b≠T->(s.heap.update T (Obj.mapFields (·.setIfInBounds 3 Value.none))).get? b=s.heap.get? b:=λ b hb=>bc _ _ (aX hb);refine hQ _ (I.stepx (ch:=[T]) (λ b hb=>?_) (λ b hb=>?_) (λ b o _ hc q=>(other b (λ z=>hc (by simp [z]))).trans q) (λ b o hc q=>⟨o.slots,(other b (λ z=>hc (by simp [z]))).trans q⟩) λ b hb=>?_)
  ⟨⟨oe,vs,T,_,_,(other a (aX h6)).trans h1,h2,h3,h4,h5,h6,hT,bj h8 _,by simp [h3s],h10,h11,h12⟩,ga,Ha,pa⟩
 ·obtain rfl:b=T:=by simpa using hb
  exact ⟨h10,h11,h12⟩
 ·obtain rfl:b=T:=by simpa using hb
  exact ⟨oT,ts,h7,h8⟩
 ·obtain rfl:b=T:=by simpa using hb
  exact ⟨_,hT⟩
end
noncomputable abbrev Cx.suite (X:Cx) (pn:A4) (a:Addr):Cx:={ X with pn:=pn,A:=X.A.mark (some (.ref a)),calm:=false,xe:=λ _ _=>False }
noncomputable abbrev Cx.pinned (X:Cx) (pn:A4):Cx:={ X with pn:=pn }
section
variable {X:Cx} {m5:A4} {σ:St} {H:Hp} {s:Ap}
def Inv.topn (I:Inv X m5 σ H s):Inv (X.pinned (X.pn ++ m5)) [] σ H s :=
 ⟨⟨I.ok.mod,I.ok.kind,I.ok.glob,I.ok.blt,I.ok.above,I.ok.inj,I.ok.has,I.ok.cab,I.ok.hd,I.ok.frames,I.ok.stk,I.ok.exf,I.ok.bs,I.ok.bsz,I.ok.noex,I.ok.exfs,I.ok.funs,I.ok.frf⟩,
  I.os,I.bare,I.base,I.loc,I.cell,I.free,I.freeC,λ p hp=>I.pin p (by rwa [bY] at hp),I.hok,I.len⟩
def Inv.ofpn (I:Inv (X.pinned (X.pn ++ m5)) [] σ H s):Inv X m5 σ H s :=
 ⟨⟨I.ok.mod,I.ok.kind,I.ok.glob,I.ok.blt,I.ok.above,I.ok.inj,I.ok.has,I.ok.cab,I.ok.hd,I.ok.frames,I.ok.stk,I.ok.exf,I.ok.bs,I.ok.bsz,I.ok.noex,I.ok.exfs,I.ok.funs,I.ok.frf⟩,
  I.os,I.bare,I.base,I.loc,I.cell,I.free,I.freeC,λ p hp=>I.pin p (by rw [bY];exact hp),I.hok,I.len⟩
def Inv.tosuite {pn:A4} {a:Addr} (I:Inv (X.pinned pn) [] σ H s):Inv (X.suite pn a) [] σ H s :=
 ⟨⟨I.ok.mod,I.ok.kind,I.ok.glob,I.ok.blt,I.ok.above,I.ok.inj,I.ok.has,I.ok.cab,λ h=>Bool.noConfusion h,I.ok.frames,I.ok.stk,I.ok.exf,I.ok.bs,I.ok.bsz,I.ok.noex,I.ok.exfs,I.ok.funs,I.ok.frf⟩,
  I.os,I.bare,I.base,I.loc,I.cell,I.free,I.freeC,I.pin,I.hok,I.len⟩
def Inv.ofsuite {pn:A4} {a:Addr} (hd:X.calm=true->X.A.handled=none) (I:Inv (X.suite pn a) [] σ H s):Inv (X.pinned pn) [] σ H s :=
 ⟨⟨I.ok.mod,I.ok.kind,I.ok.glob,I.ok.blt,I.ok.above,I.ok.inj,I.ok.has,I.ok.cab,hd,I.ok.frames,I.ok.stk,I.ok.exf,I.ok.bs,I.ok.bsz,I.ok.noex,I.ok.exfs,I.ok.funs,I.ok.frf⟩,
  I.os,I.bare,I.base,I.loc,I.cell,I.free,I.freeC,I.pin,I.hok,I.len⟩
end
def zaS {M:Model} {A:Aq} {E:A5} {e C D:Addr} {b:Bool} {Q:Bool->Shared->Prop} (X:K.In s.heap) (he:s.heap.get? e=some oe) (hcls:oe.cls=.ref C)
  (k1:kitCls K (.ref C) (.ref D)=some b) (k2:subIn K (.ref D) (.type "BaseException")=some true) (hq:Q b s):wpAny M A (excMatches (.ref e) (.ref D)) Q E s:=by
 obtain ⟨L1,L2,L3⟩:=PySem.W.kit_cls (M:=M) X k1;have L4:=fN (M:=M) X k2;have f:=tc_notTuple;obtain ⟨hp,g,d,tk,os⟩:=s;unfold excMatches
 repeat (first|(with_reducible refine wpAny_loadPart_at he ?_;rw [hcls])|with_reducible refine L1.at ?_|with_reducible refine L2.at ?_|with_reducible refine L3.at ?_|with_reducible refine L4.at ?_|wp_step)
 cases b
 ·wp_walk
  exact hq
 ·wp_walk
  exact hq
section
variable {X:Cx} {G:GK} {x n:Str} {np pos hpos:Pos} {i:Nat} {body suite:List Stmt} {b₀:Stmt} {tb:List (Addr × Obj)->GK->TS} {th:List (Addr × Obj)->Addr->TS}
end
structure FA (K:A0) (mg:A6) (x:Str) (st:Stmt) (ps:Aa):Prop where
 ex:∃ f fd,Fun K x x st f fd/\mg x=some (.ref f)/\Binds K fd ps []
def FA.cal {st:Stmt} {k:Nat} (h:FA K mg x st ps) (ok:∀ {f fd},Fun K x x st f fd->FnOk P w K mg base (CXr P w) k f fd ps sp) :
  Cal P w K mg base x k ps [] sp:=by
 obtain ⟨f,fd,F,m,b⟩:=h.ex;exact ⟨f,fd,[],ok F,m,F.kp,b,.nil⟩
def zim {h:Heap} {st:Stmt} {f:Addr} {oc:Ao} {od an:Ac} {osl:Ag} {kV doc pm cdv ct:Ao} (X:K.In h) (G:h.Ns mainGlobals mg)
  (a:nsIn K mainGlobals x=some (some (.ref f))) (l:K.lookup f=some ⟨oc,od,.func (fnOf x x (z6 st) (zV st) (ze st) .none kV doc pm an cdv ct),osl⟩)
  (c:codeIn K cdv x=true) (k:keepIn K (.ref f)=true)
  (hb:∀ (kV doc pm:Ao) (an:Ac) (cdv ct:Ao) (us:A9),us.length=ps.length->bindArgs (fnOf x x (z6 st) (zV st) (ze st) .none kV doc pm an cdv ct) ⟨us,[]⟩=pure (ps.zip us)):FA K mg x st ps :=
 ⟨f,_,wS l c k,cu X G a,(wS l c k).binds hb⟩
def zdP {e:Ao} {s':Ap} (h:CXr P w [] H s (λ _ _ _=>False) e s'):False:=by
 obtain ⟨_,_,_,_,_,_,_,_,_,z⟩:=h;exact z
end L2
namespace L2
open PySem PySem.Spec PySem.Calls PyProof.Rows
variable {K:A0} {C:Addr} {st:Stmt} {ps:Aa}
structure XI (K:A0) (C:Addr):Prop where
 ga:findIn K (.ref C) "__getattribute__"=some (some (.builtin "BaseException.__getattribute__"))
 gt:findIn K (.ref C) "__getattr__"=some none
 cl:findIn K (.ref C) "__class__"=some (some (.builtin "object.__class__"))
 hd:hasDictIn K C=true
 gn:specialIn K (.builtin "object.__class__") "__get__"=some (some (.builtin "getset_descriptor.__get__"))
 tk:takesIn K (.builtin "object.__class__")=some true
 mo:mroIn K C (.type "object")=some true
 mb:subIn K (.ref C) (.type "BaseException")=some true
section
variable {prog:Ah} {w:World} {A:Aq} {E:A5} {s:Ap} {K:A0} {a C:Addr} {o:Obj} {vs:Af}
def zaT {hp:Heap} (hx:hp.get? a=some o) (hc:o.cls=.ref C) (hd:o.dict=none) (hv:o.data=.fields vs):PySem.W.InstAt hp a o C none:=by
 refine ⟨hx,hc,?_,?_⟩
 ·obtain ⟨c,d,dt,sl⟩:=o;simp only at hv;subst hv
  rfl
 ·rw [hd]
  trivial
def zdM {Q:Option Value->Shared->Prop} (X:K.In s.heap) (f:XI K C) (hx:s.heap.get? a=some o) (hc:o.cls=.ref C) (hd:o.dict=none) (hv:o.data=.fields vs)
  (h:Q (some (.ref C)) { s with toks:=s.toks + 1 }):wpAny (model prog w) A (getAttr? (.ref a) "__class__") Q E s:=by
 have I:=zaT hx hc hd hv;have hf:PySem.W.findObj K C none "__class__"=some (.bind (.builtin "getset_descriptor.__get__") (.builtin "object.__class__")):=by
   obtain ⟨cd,hcd,_⟩:=fY f.hd;simp [PySem.W.findObj,hcd,f.cl,f.gn,f.tk]
 obtain ⟨hh,g,d,t,os⟩:=s;have T0:=I.type (M:=model prog w);have T1:=looks_findIn (M:=model prog w) X f.ga;have T2:=PySem.W.looks_find (M:=model prog w) X I hf;have T3:=looks_findIn (M:=model prog w) X f.gt;have T4:=fN (M:=model prog w) X f.mb;have f3:=F.attr_ValueError.ga.bind (.ref a);unfold getAttr? getAttrBy? getAttrBy;refine af (wpAny_mkText (af (fW (dF (af (T0.at (af (T1.at ?_))))))));dsimp only;have nga:(onTheHeap (Value.ref C) && Value.builtin "BaseException.__getattribute__" == Value.builtin "object.__getattribute__")=false:=by
  have z:(Value.builtin "BaseException.__getattribute__" == Value.builtin "object.__getattribute__")=false:=by decide +kernel
  rw [z,cG]
 rw [nga,ap aC];unfold getAttrByItsOwn
 repeat (any_goals (first|assumption|with_reducible refine T0.at ?_|with_reducible refine T3.at ?_|with_reducible refine T1.at ?_|wp_step))
 refine codeAny_call_builtin F.attr_ValueError.ga.plain F.entry_bexc_ga ?_;have hk:builtinKind "BaseException.__getattribute__"=some .slot:=by decide +kernel
 have hsp:splitId "BaseException.__getattribute__"=some ("BaseException","__getattribute__"):=by decide +kernel
 have hav:=F.args_bexc_ga (.ref a) (Value.str (Str.ofString "__class__") t);simp only [checkBuiltinCall,hk,hsp];refine af ?_;unfold isInstance
 repeat (first|with_reducible refine T2.at ?_|with_reducible refine T0.at ?_|with_reducible refine T4.at ?_|wp_step)
 refine PySem.W.class_get (s:=⟨hh,g,d,t + 1,os⟩) (ox:=o) (od:=none) X I f.mo ?_;refine aD ?_;refine PySem.W.handed_on rfl ?_;exact aD h
def zeY {vs:Af} (f:XI K C):PySem.W.KitX K (.ref a) (.ref C) (λ h=>∃ o vs,h.get? a=some o/\o.cls=.ref C/\o.dict=none/\o.data=.fields vs) where
 ty:=λ M h _ ⟨o,vs,e,c,d,v⟩=>(zaT e c d v).type
 it:=λ _ _ X _=>by
  obtain ⟨cd,hcd,_⟩:=fY f.hd;unfold PySem.W.clsIn at hcd
  split at hcd
  ·rename_i c' d' cd' sl' ho;intro A' Q' E' s' k q;unfold isType loadHead;exact af (wpAny_loadPart (k _ _ (X _ _ ho)) (aD q))
  ·cases hcd
 ne:=λ h tp dd mM n sl X htp=>by
  obtain ⟨cd,hcd,_⟩:=fY f.hd;refine Bool.eq_false_iff.mpr λ q=>?_;have e:C=tp:=Value.ref.inj (bA.mp q);subst e;unfold PySem.W.clsIn at hcd
  split at hcd
  ·rename_i ho;have z:=(X _ _ ho).symm.trans htp;cases z
  ·cases hcd
 ca:=λ X ⟨o,vs,e,c,d,v⟩ k=>zdM X f e c d v k
end
inductive TyX (K:A0) (H:Hp):V->Value->Prop where
 | old {x:V} {t:Ao} (h:TyOf K H x t):TyX K H x t
 | exc {a C:Addr} (h:H a=some (zin a (.ref C))) (f:XI K C):TyX K H (.ref a) (.ref C)
noncomputable def zcU:List V->Option A9
 | []=>some []
 | c :: r=>match zhH c,zcU r with
  | some u,some us=>some (u :: us)
  | _,_=>none
def zcV {c:V} {u v:Ao} (h:zhH c=some u) (r:RelV c v):v=u:=by
 cases c with
 | ty n=>cases r;exact aT h
 | ref a=>cases r;exact aT h
 | _=>cases h
theorem zaZ:∀ {cs:Ar} {us vs:A9},zcU cs=some us->Vals cs vs->vs=us
 | [],_,_,h,.nil=>aT h
 | c :: r,us,v :: vs,h,.cons rc rr=>by
  unfold zcU at h
  split at h
  ·rename_i u us' h1 h2;cases h;rw [zcV h1 rc,zaZ h2 rr]
  ·cases h
theorem zhl {X:Cx} {m5:A4} {σ:St} {H:Hp} {s:Ap} {x:V} {u t:Ao} (I:Inv X m5 σ H s) (rx:RelV x u) (ty:TyX X.K H x t) :
  ∃ Hx:Heap->Prop,PySem.W.KitX X.K u t Hx/\Hx s.heap/\u≠.builtin "__main__.__loader__#opaque":=by
 cases ty with
 | @exc a C ea f =>
  cases (show u=Value.ref a from rx);obtain ⟨p,_⟩:=(show ObjOk X.prog X.w H s.heap a (zin a (.ref C)) from I.hok a _ ea);exact ⟨_,zeY (vs:=#[]) f,p,λ z=>nomatch z⟩
 | old ty =>
  cases ty with
  | non=>cases (show u=Value.none from rx);exact ⟨_,PySem.W.kitx_none,True.intro,λ z=>nomatch z⟩
  | bl y=>cases (show u=Value.bool y from rx);exact ⟨_,PySem.W.kitx_bool,True.intro,λ z=>nomatch z⟩
  | int i=>obtain ⟨t,q⟩:=(show ∃ t,u=Value.int i t from rx);cases q;exact ⟨_,PySem.W.kitx_int,True.intro,λ z=>nomatch z⟩
  | str y=>obtain ⟨t,q⟩:=(show ∃ t,u=Value.str y t from rx);cases q;exact ⟨_,PySem.W.kitx_str,True.intro,λ z=>nomatch z⟩
  | flt y=>obtain ⟨t,q⟩:=(show ∃ t,u=Value.float y t from rx);cases q;exact ⟨_,PySem.W.kitx_float,True.intro,λ z=>nomatch z⟩
  | @lst a xs ea =>
   cases (show u=Value.ref a from rx);obtain ⟨_,_,n,_,h1⟩:=(show ObjOk X.prog X.w H s.heap a (.lst xs) from I.hok a _ ea);exact ⟨_,PySem.W.kitx_list,⟨_,h1,rfl⟩,λ z=>nomatch z⟩
  | @frz a ob xs ea =>
   cases (show u=Value.ref a from rx);obtain ⟨_,_,_,n,_,h1⟩:=(show ObjOk X.prog X.w H s.heap a (.frz ob (.lst xs)) from I.hok a _ ea);exact ⟨_,PySem.W.kitx_list,⟨_,h1,rfl⟩,λ z=>nomatch z⟩
  | @tup a xs ea =>
   cases (show u=Value.ref a from rx);obtain ⟨_,_,_,p⟩:=(show ObjOk X.prog X.w H s.heap a (.tup xs) from I.hok a _ ea);obtain ⟨o,h1,h2,_⟩:=p;exact ⟨_,PySem.W.kitx_tuple,⟨o,h1,h2⟩,λ z=>nomatch z⟩
  | @dK a mK ea =>
   cases (show u=Value.ref a from rx);obtain ⟨_,_,vs,_,p⟩:=(show ObjOk X.prog X.w H s.heap a (.dK mK) from I.hok a _ ea);obtain ⟨o,es,ep,h1,h2,_⟩:=p;exact ⟨_,PySem.W.kitx_dict,⟨o,h1,h2.1⟩,λ z=>nomatch z⟩
  | @dT a mK ea =>
   cases (show u=Value.ref a from rx);obtain ⟨_,_,xs,_,o,es,ep,h1,h2,_⟩:=(show ObjOk X.prog X.w H s.heap a (.dT mK) from I.hok a _ ea);exact ⟨_,PySem.W.kitx_dict,⟨o,h1,h2.1⟩,λ z=>nomatch z⟩
  | @ins a C dx fs ea cl ha hn htk hm =>
   cases (show u=Value.ref a from rx);obtain ⟨mA,O,_⟩:=Ju I.hok ea;obtain ⟨od,J,_⟩:=O.look;exact ⟨_,PySem.W.kitx_own (cl.get _) cl.hd ha hn htk hm,J,λ z=>nomatch z⟩
def zew (K:A0):List V->Hp->VK->Prop:=λ xs H Q=>∃ x c t b,xs=[x,c]/\TyX K H x t/\((∃ u,zhH c=some u/\kitOne K t u=some b)\/(∃ p cs us,c=.ref p/\H p=some (.tup cs)/\zcU cs=some us/\PySem.W.kitAny K t us=some b))/\Q (.bl b) H
def XF {X:Cx}:CallR X (.builtin "isinstance") (zew X.K):=by
 intro m5 s σ H xs us Q I r h;obtain ⟨x,c,t,b,rfl,ty,hc,q⟩:=h;obtain ⟨v,v2,rfl,rx,rc⟩:=r.two;obtain ⟨Hx,Z,p,nx⟩:=zhl I rx ty;rcases hc with ⟨u,hu,e⟩|⟨pt,cs,us,rfl,hp,hu,e⟩
 ·obtain rfl:=zcV hu rc;exact PySem.W.kia_one Z I.kIn p e nx λ tk=>⟨.bl b,H,I.tok tk,rfl,q⟩
 ·cases rc;obtain ⟨_,mM,rv,o,h1,h2,n,h3⟩:=(show ObjOk X.prog X.w H s.heap pt (.tup cs) from I.hok pt _ hp);obtain rfl:=zaZ hu rv;obtain ⟨cl,dd,dt,sl⟩:=o;simp only at h2 h3;subst h2 h3;exact PySem.W.kia_tup Z I.kIn p h1 e nx λ tk=>⟨.bl b,H,I.tok tk,rfl,q⟩
def zdC {t:Ao} {D:Addr} {b:Bool} (h1:hasDictIn K D=true) (h2:typeIn K (.ref D)=some (.type "type")) (h3:subIn K t (.ref D)=some b):kitCls K t (.ref D)=some b:=by
 obtain ⟨cd,hcd,_⟩:=fY h1;simp [kitCls,hcd,h2,h3]
structure FK (K:A0) (C:Addr) (qual:Str) (st:Stmt) (ps:Aa):Prop where
 ex:∃ f fd,Fun K "__init__" qual st f fd/\Mk K C f/\Binds K fd ps []
structure FM (K:A0) (C:Addr) (m qual:Str) (st:Stmt) (ps:Aa):Prop where
 ex:∃ f fd,Fun K m qual st f fd/\Meth K C m f/\Binds K fd ps []
def FK.cal {P:Ah} {w:World} {mg:A6} {base:Heap} {x:Str} {qual:Str} {k:Nat} {sp:Sp} (h:FK K C qual st ps) (gl:mg x=some (.ref C))
  (ok:∀ {f fd},Fun K "__init__" qual st f fd->FnOk P w K mg base (CXr P w) k f fd ps sp):KCal P w K mg base x C k ps [] sp:=by
 obtain ⟨f,fd,F,m,b⟩:=h.ex;exact ⟨gl,f,fd,[],ok F,m,b,.nil⟩
def FM.cal {P:Ah} {w:World} {mg:A6} {base:Heap} {m qual:Str} {k:Nat} {sp:Sp} (h:FM K C m qual st ps) (cl:Cls K C)
  (ok:∀ {f fd},Fun K m qual st f fd->FnOk P w K mg base (CXr P w) k f fd ps sp):MCal P w K mg base C m k ps [] sp:=by
 obtain ⟨f,fd,F,mm,b⟩:=h.ex;exact ⟨cl,f,fd,[],ok F,mm,b,.nil⟩
def zij {qual:Str} {f:Addr} {oc:Ao} {od an:Ac} {osl:Ag} {kV doc pm cdv ct:Ao} (mk:makesIn K C=true) (kc:keepIn K (.ref C)=true)
  (a:findIn K (.ref C) "__init__"=some (some (.ref f))) (i:isFn K (.ref f)=true) (l:K.lookup f=some ⟨oc,od,.func (fnOf "__init__" qual (z6 st) (zV st) (ze st) .none kV doc pm an cdv ct),osl⟩)
  (c:codeIn K cdv qual=true) (k:keepIn K (.ref f)=true)
  (hb:∀ (kV doc pm:Ao) (an:Ac) (cdv ct:Ao) (us:A9),us.length=ps.length->bindArgs (fnOf "__init__" qual (z6 st) (zV st) (ze st) .none kV doc pm an cdv ct) ⟨us,[]⟩=pure (ps.zip us)):FK K C qual st ps :=
 ⟨f,_,wS l c k,⟨mk,a,i,kc⟩,(wS l c k).binds hb⟩
def zii {m qual:Str} {f:Addr} {oc:Ao} {od an:Ac} {osl:Ag} {kV doc pm cdv ct:Ao}
  (a:findIn K (.ref C) m=some (some (.ref f))) (i:isFn K (.ref f)=true) (l:K.lookup f=some ⟨oc,od,.func (fnOf m qual (z6 st) (zV st) (ze st) .none kV doc pm an cdv ct),osl⟩)
  (c:codeIn K cdv qual=true) (k:keepIn K (.ref f)=true)
  (hb:∀ (kV doc pm:Ao) (an:Ac) (cdv ct:Ao) (us:A9),us.length=ps.length->bindArgs (fnOf m qual (z6 st) (zV st) (ze st) .none kV doc pm an cdv ct) ⟨us,[]⟩=pure (ps.zip us)):FM K C m qual st ps :=
 ⟨f,_,wS l c k,⟨a,i,k⟩,(wS l c k).binds hb⟩
structure WI (K:A0) (C:Addr):Prop where
 c:findIn K (.ref C) "__class__"=some (some (.builtin "object.__class__"))
 m:mroIn K C (.type "object")=some true
 g:specialIn K (.builtin "object.__class__") "__get__"=some (some (.builtin "getset_descriptor.__get__"))
 t:takesIn K (.builtin "object.__class__")=some true
def WI.ty {H:Hp} {a C dx:Addr} {fs:At} (f:WI K C) (cl:Cls K C) (h:H a=some (.ins C dx fs)):TyX K H (.ref a) (.ref C):=.old (.ins h cl f.c f.g f.t f.m)
end L2
namespace L2
open PySem PySem.Spec PySem.Calls PyProof.Rows
section
variable {prog:Ah} {w:World} {A:Aq} {E:A5} {s:Ap}
end
section
variable {X:Cx} {a e:Expr} {ta:TA} {te:TE} {pos p kp:Pos}
def Qk:SlR X (zg0 X.K):=zfE
def vX:CallR X (.type "list") (λ xs H Q=>∃ p ys,xs=[.ref p]/\(SqL X.K H p ys\/SqT X.K H p ys)/\∀ l,H l=none->Q (.ref l) (upd H l (.lst ys))):=VL
end
end L2
namespace L2
open PySem PySem.Spec PySem.Calls PyProof.Rows
section
variable {X:Cx} {v v1 v2:Expr} {es:List Expr} {te:TE} {pos p:Pos}
def zhW (t u:TS):TS:=λ D σ H=>∃ M:St->Hp->Prop,t { D with nx:=M } σ H/\∀ σ' H',M σ' H'->u D σ' H'
def qd {st:Stmt} {rest:List Stmt} {t u:TS} (h1:PS X st t) (h2:PSs X rest u):PSs X (st :: rest) (zhW t u):=by
 intro m5 s σ H D I ⟨M,ht,hu⟩;refine ff (thn (h1 m5 s σ H _ I ht) λ f s1 q=>?_);cases f with
 | next=>exact let ⟨σ',H',I',q⟩:=q;h2 m5 s1 σ' H' D I' (hu σ' H' q)
 | _=>exact q
def zgw (t u:TS):TS:=λ D σ H=>tSeq t u D σ H
def zh {st:Stmt} {rest:List Stmt} {t u:TS} (h1:PS X st t) (h2:PSs X rest u):PSs X (st :: rest) (zgw t u):=show PSs X (st :: rest) (tSeq t u) from zg h1 h2
structure Nx (N:St->Hp->Prop) (u:TS) (D:Ends):Prop where
 h:∀ σ H,u D σ H->N σ H
def nxt {t u:TS} {D:Ends} {σ:St} {H:Hp} (k:∀ N,Nx N u D->t { D with nx:=N } σ H):zgw t u D σ H:=k (u D) ⟨λ _ _ h=>h⟩
def useN {N:St->Hp->Prop} {u:TS} {D:Ends} {σ:St} {H:Hp} (n:Nx N u D) (q:u D σ H):N σ H:=n.h σ H q
def cut {t u:TS} {D:Ends} {σ:St} {H:Hp} (M:St->Hp->Prop) (h1:t { D with nx:=M } σ H) (h2:∀ σ' H',M σ' H'->u D σ' H'):zhW t u D σ H:=⟨M,h1,h2⟩
end
end L2
namespace L2
open PySem PySem.Spec PySem.Calls PyProof.Rows
section
variable {X:Cx} {k:Nat} {x m:Str} {p pos apos:Pos} {e o:Expr} {es:List Expr} {ta:TE} {t:TA}
def passF:zch (CXr X.prog X.w) X (λ _ _ _=>False):=λ _ _ _ _ _ _ _ h=>let ⟨_,_,_,_,_,_,_,_,_,z⟩:=h;z.elim
def tClN (X:Cx) (k:Nat) (x:Str) (t:TA):TE:=λ σ H Q=>∃ ps dvs sp,Cal X.prog X.w X.K X.mg X.base x k ps dvs sp/\t σ H λ vs H1=>sp (vs ++ dvs) H1 Q (λ _ _ _=>False)
def vv (hr:Room k X.A) (ha:PA X (e :: es) t) (hg:Gl X x:=by rfl) (hdb:(x == ("__debug__":Str))=false:=by decide)
  (he:starEach (e :: es) X.env=(false,eval e X.env) :: starEach es X.env:=by rfl) (hpl:(backTo pos (starEach es X.env)).any (·.1)=false:=by rfl) :
  PE X (.Call (.Name x p) (e :: es) [] pos) (tClN X k x t):=by
 intro m5 s σ H Q I h;obtain ⟨ps,dvs,sp,⟨f,fd,ds,F,hm,hk,hb,hd⟩,h⟩:=h;refine bw (xR I hg hm ?_ hdb);refine dB (h₀:=X.base) I.ok.mod.kin hk (w6 (ha pos m5 s σ H _ I h) λ us s1 vs H1 I1 r q=>⟨I1.kIn,?_⟩) he hpl;exact zbA F hr hb hd passF I1 r q
def tMkN (X:Cx) (k:Nat) (x:Str) (t:TA):TE:=λ σ H Q=>∃ C ps dvs sp,KCal X.prog X.w X.K X.mg X.base x C k ps dvs sp/\t σ H λ vs H1=>∀ y dx,H1 y=none->H1 dx=none->dx≠y ->
 sp (.ref y :: (vs ++ dvs)) (upd (upd H1 dx (.own y)) y (.ins C dx [])) (λ v H2=>v=.non/\Q (.ref y) H2) (λ _ _ _=>False)
def zg8 (hr:Room (k + 1) X.A) (ha:PA X (e :: es) t) (hg:Gl X x:=by rfl) (hdb:(x == ("__debug__":Str))=false:=by decide)
  (he:starEach (e :: es) X.env=(false,eval e X.env) :: starEach es X.env:=by rfl) (hpl:(backTo pos (starEach es X.env)).any (·.1)=false:=by rfl) :
  PE X (.Call (.Name x p) (e :: es) [] pos) (tMkN X k x t):=by
 intro m5 s σ H Q I h;obtain ⟨C,ps,dvs,sp,⟨hm,f,fd,ds,F,M,hb,hd⟩,h⟩:=h;refine bw (xR I hg hm ?_ hdb);refine dB (h₀:=X.base) I.ok.mod.kin M.kp (w6 (ha pos m5 s σ H _ I h) λ us s1 vs H1 I1 r q=>⟨I1.kIn,?_⟩) he hpl;exact zes M F hr hb hd passF I1 r q
def tMthN (X:Cx) (k:Nat) (m:Str) (ta:TE) (t:TA):TE:=λ σ H Q=>ta σ H λ y H1=>∃ a C dx fs ps dvs sp,y=.ref a/\H1 a=some (.ins C dx fs)/\fs.lookup m=none /\
 MCal X.prog X.w X.K X.mg X.base C m k ps dvs sp/\t σ H1 λ vs H2=>sp (.ref a :: (vs ++ dvs)) H2 Q (λ _ _ _=>False)
def zfX {pl:Sem Bool} (hr:Room k X.A) (he:PE X o ta) (ha:PA X (e :: es) t)
  (hst:starEach (e :: es) X.env=(false,eval e X.env) :: starEach es X.env:=by rfl) (hpl:(backTo pos (starEach es X.env)).any (·.1)=false:=by rfl)
  (ht:eval (.Call (.Attribute o m apos) (e :: es) [] pos) X.env=(do
   let ov <- eval o X.env
   standAt apos.atName
   let (f,first) <- holding [ov] (getMethod ov m pl)
   callWith pos f first (backTo pos (starEach (e :: es) X.env)) (backToKw pos (keywordEach [] X.env))):=by rfl) :
  PE X (.Call (.Attribute o m apos) (e :: es) [] pos) (tMthN X k m ta t):=by
 intro m5 s σ H Q I h;refine dL (pl:=pl) (thn (he m5 s σ H _ I h) λ u s1 hz=>?_) ht;obtain ⟨x,H1,I1,rx,a,C,dx,fs,ps,dvs,sp,ex,ea,l,⟨c,f,fd,ds,F,hm,hb,hd⟩,q⟩:=hz;subst ex;obtain rfl:u=Value.ref a:=rx;refine wR I1 ea c hm l ?_;refine dB (first:=[.ref a]) (h₀:=X.base) I.ok.mod.kin hm.kp (w6 (ha pos m5 s1 σ H1 _ I1 q) λ us s2 vs H2 I2 r q2=>⟨I2.kIn,?_⟩) hst hpl;exact zbA (us:=.ref a :: us) (vs:=.ref a :: vs) F hr hb hd passF I2 (.cons rfl r) q2
def zeB {pl:Sem Bool} (hr:Room k X.A) (he:PE X o ta)
  (ht:eval (.Call (.Attribute o m apos) [] [] pos) X.env=(do
   let ov <- eval o X.env
   standAt apos.atName
   let (f,first) <- holding [ov] (getMethod ov m pl)
   callWith pos f first (backTo pos (starEach [] X.env)) (backToKw pos (keywordEach [] X.env))):=by rfl) :
  PE X (.Call (.Attribute o m apos) [] [] pos) (tMthN X k m ta tNil):=by
 intro m5 s σ H Q I h;refine dL (pl:=pl) (thn (he m5 s σ H _ I h) λ u s1 hz=>?_) ht;obtain ⟨x,H1,I1,rx,a,C,dx,fs,ps,dvs,sp,ex,ea,l,⟨c,f,fd,ds,F,hm,hb,hd⟩,q⟩:=hz;subst ex;obtain rfl:u=Value.ref a:=rx;refine wR I1 ea c hm l ?_;exact fO (first:=[.ref a]) I1.kIn hm.kp (zbA (us:=[.ref a]) (vs:=[.ref a]) F hr hb hd passF I1 (.cons rfl .nil) q)
end
noncomputable def jg (cells:List (Str × Addr)):List (Str × NameKind)->List (Str × Addr)->List (Str × Addr)
 | [],cs=>cs
 | (n,k) :: r,cs=>if k=.free then jg cells r ((n,(cells.lookup n).getD 0) :: cs) else jg cells r cs
def zdR (cells:List (Str × Addr)) (ns:List (Str × NameKind)):Prop:=∀ y∈ns,y.2=.free->∃ c,cells.lookup y.1=some c
def Zj {scope:Scope} {env:Env} (h:zdR env.cells scope.names):closureFor scope env=pure (jg env.cells scope.names []):=by
 simp only [closureFor];have key:∀ (ns:List (Str × NameKind)) (cs:List (Str × Addr)),zdR env.cells ns ->
   (forIn ns cs λ x r=>if (x.2 == NameKind.free)=true then do let c <- cellOf env x.1;pure (ForInStep.yield ((x.1,c) :: r)) else pure (ForInStep.yield r):Sem (List (Str × Addr)))=pure (jg env.cells ns cs):=by
  intro ns
  induction ns with
  | nil=>intro cs _;rfl
  | cons y r ih =>
   intro cs hc;obtain ⟨n,k⟩:=y;have hr:zdR env.cells r:=λ z hz=>hc z (aF _ hz);rw [fA];by_cases hk:k=.free
   ·subst hk;obtain ⟨c,e⟩:=hc (n,.free) bX rfl;have e':cellOf env n=pure c:=by unfold cellOf;simp only at e;rw [e]
    simp only [beq_self_eq_true,d8,e',pure_bind];rw [ih _ hr];simp only at e;simp [jg,e]
   ·have hb:(k == NameKind.free)=false:=by simpa using hk
    simp only [hb,cA,dM,pure_bind];rw [ih _ hr];simp [jg,hk]
 have:=key scope.names [] h
 first
  | exact this
  | (simp only [bind_pure] at *;exact this)
theorem ZG {cells:List (Str × Addr)} {x:Str} {c:Addr}:∀ {ns:List (Str × NameKind)} {cs:List (Str × Addr)},zdR cells ns->(∀ c,cs.lookup x=some c->cells.lookup x=some c)->(jg cells ns cs).lookup x=some c->cells.lookup x=some c
 | [],_,_,hs,h=>hs c h
 | (n,k) :: r,cs,hc,hs,h=>by
  have hr:zdR cells r:=λ z hz=>hc z (aF _ hz);unfold jg at h
  split at h
  ·rename_i hk;obtain ⟨d,e⟩:=hc (n,k) bX hk;refine ZG hr (λ c' hc'=>?_) h;rw [cH] at hc'
   split at hc'
   ·rename_i hx;have hx:x=n:=by simpa using hx
    subst hx;simp only at e;rw [e] at hc' ⊢;exact hc'
   ·exact hs c' hc'
  ·exact ZG hr hs h
theorem vG {cells:List (Str × Addr)} {x:Str}:∀ {ns:List (Str × NameKind)} {cs:List (Str × Addr)},(∃ c,cs.lookup x=some c)->∃ c,(jg cells ns cs).lookup x=some c
 | [],_,h=>h
 | (n,k) :: r,cs,h=>by
  unfold jg
  split
  ·refine vG ?_;rw [cH]
   split
   ·exact ⟨_,rfl⟩
   ·exact h
  ·exact vG h
theorem ZF {cells:List (Str × Addr)} {x:Str}:∀ {ns:List (Str × NameKind)} {cs:List (Str × Addr)},(x,NameKind.free)∈ns->∃ c,(jg cells ns cs).lookup x=some c
 | [],_,h=>by simp at h
 | (n,k) :: r,cs,h=>by
  unfold jg;rcases az.mp h with h|h
  ·cases h;rw [ar rfl];exact vG ⟨(cells.lookup x).getD 0,by rw [cH];simp⟩
  ·split <;> exact ZF h
noncomputable def zet (scope osc:Scope):Scope :=
 { scope with names:=scope.names.map λ (n,k)=>if (k == .free && osc.kind == .function && osc.names.lookup n == some .cell) then (n,.cell) else (n,k) }
def zbE {scope osc:Scope} {x:Str} (hcell:∀ y∈scope.names,y.2≠.cell) (h:(zet scope osc).names.lookup x=some .cell\/(zet scope osc).names.lookup x=some .free):(x,NameKind.free)∈scope.names:=by
 have key:∀ k,(k=.cell\/k=.free)->(zet scope osc).names.lookup x=some k->(x,NameKind.free)∈scope.names:=λ k hk hl=>by
  have hm:=bF hl;obtain ⟨⟨n,k'⟩,hm',e⟩:=be.mp hm;simp only at e
  split at e
  ·rename_i hc;simp only [cO,bA] at hc;cases e;rw [<- hc.1.1];exact hm'
  ·cases e;rcases hk with rfl|rfl
   ·exact absurd rfl (hcell _ hm')
   ·exact hm'
 rcases h with h|h
 ·exact key _ (.inl rfl) h
 ·exact key _ (.inr rfl) h
noncomputable def cxC (X:Cx) (N:Aa) (scope:Scope) (s:Ap) (H:Hp) (fp:Ae) (m5:A4):Cx where
 prog:=X.prog
 w:=X.w
 K:=X.K
 mg:=X.mg
 base:=X.base
 A:=X.A
 N:=N
 s₀:=s
 H₀:=H
 env:=compEnvC scope (jg X.env.cells scope.names []) s.heap.objs.size X.env
 outer:=X.stack
 stack:=X.stack
 ex:=fp
 fn:=λ _=>false
 calm:=X.calm
 pn:=X.pn ++ m5
 xe:=λ _ _=>False
noncomputable def stC (nv:Nat) (caps:Al) (σ:St):St:=List.replicate nv none ++ caps.map λ k=>(σ[k]?).getD none
structure CompOk (osc scope:Scope) (ON:Aa) (vars:Aa) (caps:Al):Prop where
 kind:scope.kind=.function
 cell:∀ y∈scope.names,y.2≠.cell
 loc:∀ y∈scope.names,y.2=.local->scope.names.lookup y.1=some .local
 free:∀ y∈scope.names,y.2=.free->osc.names.lookup y.1=some .cell\/osc.names.lookup y.1=some .free
 caps:∀ k∈caps,k < ON.length/\scope.names.lookup (ON.getD k Str.empty)=some .free
noncomputable def zcR (osc scope:Scope) (ON:Aa) (caps:Al):Bool :=
 scope.kind == .function && scope.names.all (λ y=>y.2 != .cell) && scope.names.all (λ y=>y.2 != .local || scope.names.lookup y.1 == some .local) &&
 scope.names.all (λ y=>y.2 != .free || (osc.names.lookup y.1 == some .cell || osc.names.lookup y.1 == some .free)) && caps.all λ k=>decide (k < ON.length) && scope.names.lookup (ON.getD k Str.empty) == some .free
def zaX {osc scope:Scope} {ON vars:Aa} {caps:Al} (h:zcR osc scope ON caps=true):CompOk osc scope ON vars caps:=by
 simp only [zcR,cO,bM,bA,bne_iff_ne,Bool.or_eq_true,di] at h;obtain ⟨⟨⟨⟨h1,h2⟩,h3⟩,h4⟩,h5⟩:=h;refine ⟨h1,h2,λ y hy e=>(h3 y hy).resolve_left (λ z=>z e),λ y hy e=>(h4 y hy).resolve_left (λ z=>z e),λ k hk=>h5 k hk⟩
theorem JV {osc:Scope} {x:Str}:∀ {ns:List (Str × NameKind)},ns.lookup x=some .free ->
  (ns.map λ (n,k)=>if (k == NameKind.free && osc.kind == .function && osc.names.lookup n == some .cell) then (n,NameKind.cell) else (n,k)).lookup x=some .cell \/
  (ns.map λ (n,k)=>if (k == NameKind.free && osc.kind == .function && osc.names.lookup n == some .cell) then (n,NameKind.cell) else (n,k)).lookup x=some .free
 | [],h=>by simp at h
 | (n,k) :: r,h=>by
  have ih:=@JV osc x r;rw [bR];show List.lookup x ((if (k == NameKind.free && osc.kind == .function && osc.names.lookup n == some .cell)=true then (n,NameKind.cell) else (n,k)) :: _)=_\/List.lookup x ((if (k == NameKind.free && osc.kind == .function && osc.names.lookup n == some .cell)=true then (n,NameKind.cell) else (n,k)) :: _)=_
  cases hx:x == n with
  | true =>
   simp only [cH,hx] at h;cases h
   split
   ·exact .inl (by simp [cH,hx])
   ·exact .inr (by simp [cH,hx])
  | false =>
   simp only [cH,hx] at h
   split <;> (simp only [cH,hx];exact ih h)
section
variable {X:Cx} {m5:A4} {σ:St} {H:Hp} {s:Ap} {fp:Ae} {N vars:Aa} {caps:Al} {scope osc:Scope}
theorem ze2 (I:Inv X m5 σ H s) (hosc:X.env.scope=osc) (C:CompOk osc scope X.N vars caps) (hN:N=vars ++ caps.map λ k=>X.N.getD k Str.empty)
  (hf:∀ b∈fp,QQ X m5 H b) (hfo:∀ b∈fp,∃ o,s.heap.get? b=some o)
  {h':Heap} {tk:Nat} {mm:A6} (hns:h'.Ns s.heap.objs.size mm) (hk:∀ b o,s.heap.get? b=some o->h'.get? b=some o) :
  Inv (cxC X N scope s H fp m5) [] (stC vars.length caps σ) H { s with heap:=h',toks:=tk }:=by
 have hkf:∀ y∈scope.names,y.2=.free->X.env.kindOf y.1=some .cell\/X.env.kindOf y.1=some .free:=λ y hy e=>by
  have z:=C.free y hy e;rw [<- hosc] at z;exact z
 have hcl:zdR X.env.cells scope.names:=λ y hy e=>I.ok.has y.1 (hkf y hy e);have get:∀ x c,(jg X.env.cells scope.names []).lookup x=some c->X.env.cells.lookup x=some c:=λ x c h=>ZG hcl (λ c h=>by simp at h) h;refine ⟨⟨I.ok.mod,C.kind,I.ok.glob,I.ok.blt,au _,λ x y c h1 h2=>I.ok.inj x y c (get x c h1) (get y c h2),λ x hx=>ZF (zbE (osc:=X.env.scope) C.cell hx),λ _ _ h _=>Bool.noConfusion h,I.ok.hd,I.ok.frames,.inl rfl,
   λ b hb=>⟨?_,λ x c h=>(hf b hb).2.2.2.2.1 x c (get x c h)⟩,I.bs,ba I.ok.bsz I.sz,λ b o e hb=>?_,λ b hb z=>(az.mp (I.stkSub b z)).elim (hf b hb).2.1 (hf b hb).2.2.1,I.stack,I.stkFree⟩,
  rfl,I.bare,Un.kept hk,⟨_,hns,λ i x v e1 e2 e3=>?_⟩,λ x c h=>?_,I.hok.fresh (au _),λ x c h=>I.freeC x c (get x c h),λ p hp=>?_,I.hok.kept hk,?_⟩
 ·obtain ⟨o,e⟩:=hfo b hb;exact aP (aA e)
 ·rcases (hf b hb).2.2.2.1 with z|z
  ·exact I.ok.noex b o e z
  ·exact absurd (aM (aA (I.ok.bs b o e).1) z) (cR _)
 ·have hi:¬ i < vars.length:=λ hi=>by
   unfold stC at e2;rw [aO (by simpa using hi),dn] at e2
   split at e2 <;> cases e2
  have e1':(vars ++ caps.map λ k=>X.N.getD k Str.empty)[i]?=some x:=by rw [<- hN];exact e1
  unfold stC at e2;rw [aI (by simpa using hi),bd,am] at e2;rw [aI (by lia),am] at e1';cases ek:caps[i - vars.length]? with
  | none=>rw [ek] at e2;cases e2
  | some k =>
   rw [ek] at e1' e2;obtain ⟨hkl,hlk⟩:=C.caps k (ah ek);have ex:X.N.getD k Str.empty=x:=by simpa using e1'
   have es:σ[k]?.getD none=some v:=by simpa using e2
   have es':σ[k]?=some (some v):=by
    cases q:σ[k]? with
    | none=>rw [q] at es;cases es
    | some z=>rw [q] at es;simp only [aK] at es;rw [es]
   have eN:X.N[k]?=some x:=by
    rw [<- ex,ae,ac hkl];rfl
   rw [ex] at hlk;have hm:(x,NameKind.free)∈scope.names:=bF hlk;have hkx:=hkf _ hm rfl;obtain ⟨m,_,hl⟩:=I.loc;obtain ⟨u,r,L⟩:=hl k x v eN es' (hkx.elim (λ z=>.inr (.inl z)) λ z=>.inr (.inr z));refine ⟨u,r,.inr ⟨JV (osc:=X.env.scope) hlk,?_⟩⟩;obtain ⟨c',ec⟩:=ZF (cells:=X.env.cells) (cs:=[]) hm;rcases L with ⟨z,_⟩|⟨_,c,ec2,o,ho,hd⟩
   ·rcases hkx with y|y <;> (simp only at y;rw [y] at z;cases z)
   ·have z:=get x c' ec;rw [ec2] at z;obtain rfl:c=c':=aT z;exact ⟨c,ec,o,hk _ _ ho,hd⟩
 ·obtain ⟨v,o,ho,hd⟩:=I.cell x c (get x c h);exact ⟨v,o,hk _ _ ho,hd⟩
 ·have hp':p∈X.pn ++ m5:=by simpa [cxC] using hp
  obtain ⟨e,n,ne,nf,d⟩:=I.pin p hp';exact ⟨hk _ _ e,n,aP (aA e),λ z=>(az.mp (I.stkSub _ z)).elim ne nf,d⟩
 ·show (stC vars.length caps σ).length=N.length
  rw [hN];simp [stC]
def zbZ {σ':St} {H':Hp} {s':Ap} (I:Inv X m5 σ H s) (hf:∀ b∈fp,QQ X m5 H b) (I':Inv (cxC X N scope s H fp m5) [] σ' H' s'):Inv X m5 σ H' s' :=
 I.call' (ch:=fp) I'.os I'.base I'.hok I'.bare λ b hb=>⟨(hf b hb).2.2.2.1,(hf b hb).2.1,(hf b hb).2.2.2.2.1,(hf b hb).2.2.2.2.2⟩
end
section
variable {prog:Ah} {w:World} {A:Aq} {R:Result->Shared->Prop} {s:Ap}
abbrev NoX:Value->Shared->Prop:=λ _ _=>False
theorem zdQ {elt target iter:Expr} {ifs:List Expr} {scope:Scope} {pos:Pos} {it mQ:Ao} {env:Env} (I:Nat->Shared->Prop)
  (turn:∀ n s,I n s->wpAny (model prog w) A (pyNext it) (λ r s₁=>match r with
   | none=>R (.ok .next) s₁
   | some v=>wpAny (model prog w) A (letOwnedTupleGo target it v) (λ _ s₁'=>wpAny (model prog w) A (assign target env v) (λ _ s₂ =>
     wpAny (model prog w) A (forIn ifs true λ c r=>if r=true then do let ok <- isTrue c env (eval c env);pure (ForInStep.yield ok) else pure (ForInStep.yield r)) (λ ok s₃ =>
      if ok=true then wpAny (model prog w) A (eval elt env) (λ x s₄ =>
       wpAny (model prog w) A (call (.builtin "list.append") [mQ,x]) (λ _ s₅=>∃ m,m < n/\I m s₅) NoX s₄) NoX s₃
      else ∃ m,m < n/\I m s₃) NoX s₂) NoX s₁') NoX s₁) NoX s)
  (n:Nat) (h:I n s) :
  codeAny (model prog w) A (.compLoop (.ListComp elt [⟨target,iter,ifs,0⟩] scope pos) 0 it mQ env) R s:=by
 refine codeAny_loop rfl I (λ n s hI=>?_) n h;show wpAny _ A ((compTurn (.ListComp elt [⟨target,iter,ifs,0⟩] scope pos) 0 it mQ env).onRaise (λ x=>do noteFrame x env;theTreesLotGoes x)) _ _ s
 refine wpAny_noted ?_;rw [compTurn_list];refine af (fU (af (aV (turn n s hI) (λ r s₁ h₁=>?_) λ _ _ h'=>h'.elim)));cases r with
 | none=>exact aD h₁
 | some v =>
  refine af (aV h₁ (λ _ s₁' h₁'=>?_) λ _ _ h'=>h'.elim);refine af (aV h₁' (λ _ s₂ h₂=>af (aV h₂ (λ ok s₃ h₃=>?_) λ _ _ h'=>h'.elim)) λ _ _ h'=>h'.elim);cases ok with
  | false=>exact aD ⟨rfl,h₃⟩
  | true =>
   exact af (af (aV h₃ (λ x s₄ h₄=>af (aV h₄ (λ _ s₅ h₅=>aD (aD ⟨rfl,h₅⟩)) λ _ _ h'=>h'.elim)) λ _ _ h'=>h'.elim))
end
def zfv (X:Cx) (ifs:List Expr) (t:TT):Prop :=
 ∀ (m5:A4) (s:Ap) (σ:St) (H:Hp) (Q:Bool->Hp->Prop),Inv X m5 σ H s->t σ H Q ->
  wpAny (model X.prog X.w) X.A (forIn ifs true λ c r=>if r=true then do let ok <- isTrue c X.env (eval c X.env);pure (ForInStep.yield ok) else pure (ForInStep.yield r)) (TP X m5 σ Q) X.xe s
def tYes:TT:=λ _ H Q=>Q true H
def qe {X:Cx}:zfv X [] tYes:=λ _ _ _ H _ I h=>wpAny_tests_nil ⟨H,I,h⟩
def zcn {X:Cx} {c:Expr} {t:TT} (h:PT X c t):zfv X [c] t:=λ m5 s σ H Q I hw=>wpAny_tests_one (h m5 s σ H Q I hw)
abbrev CB (α:Type):=Shared->Hp->List Addr->List (Addr × Obj)->α
def tLc (wi:TI) (nv:Nat) (caps:Al) (g:CB TG) (tt:CB TT) (te:CB TE):TE:=λ σ H Q=>wi σ H λ J H1=>∀ (s3:Ap) (H3:Hp) (fp:Ae) (pns:A4) mQ,H1 mQ=none ->
 ∃ W:Nat->Nat->St->Hp->Prop,(∃ m,W 0 m (stC nv caps σ) (upd H1 mQ (.lst [])))/\∀ i m σ' H',W i m σ' H' ->
  (J.stop i H'/\Q (.ref mQ) H')\/(J.go i H'/\∃ N:St->Hp->Prop,(∀ σ'' H'',N σ'' H''->∃ m',m' < m/\W (i + 1) m' σ'' H'')/\∀ x H'',J.yld i H' x H''->g s3 H3 fp pns x σ' H'' λ σ2 H2=>tt s3 H3 fp pns σ2 H2 λ b H5 =>
   if b=true then te s3 H3 fp pns σ2 H5 λ y H4=>∃ ys,H4 mQ=some (.lst ys)/\ys.length < sizeLine/\N σ2 (upd H4 mQ (.lst (ys ++ [y]))) else N σ2 H5)
section
variable {X:Cx} {elt target iter:Expr} {ifs:List Expr} {scope osc:Scope} {pos:Pos} {wi:TI} {g:CB TG} {tt:CB TT} {te:CB TE} {N vars:Aa} {caps:Al}
theorem Xy {m5:A4} {σ:St} {H2:Hp} {s2:Ap} {it:Addr} {fp:Ae} {tn:Nat->Heap->Prop} {J:It} {Q:VK} {RR:Value->Addr->Result->Shared->Prop} {E:A5}
  (hosc:X.env.scope=osc) (C:CompOk osc scope X.N vars caps) (hN:N=vars ++ caps.map λ k=>X.N.getD k Str.empty) (hc:X.calm=true)
  (hg:∀ s H fp m5,PG (cxC X N scope s H fp m5) target (g s H fp m5)) (ht:∀ s H fp m5,zfv (cxC X N scope s H fp m5) ifs (tt s H fp m5)) (he:∀ s H fp m5,PE (cxC X N scope s H fp m5) elt (te s H fp m5))
  (I2:Inv X m5 σ H2 s2) (T:Turn X.prog X.w X.K target J fp it tn) (st2:tn 0 s2.heap) (hf:∀ b∈fp,QQ X m5 H2 b)
  (h:∀ (s3:Ap) (H3:Hp) (fp:Ae) (pns:A4) mQ,H2 mQ=none->∃ W:Nat->Nat->St->Hp->Prop,(∃ m,W 0 m (stC vars.length caps σ) (upd H2 mQ (.lst [])))/\∀ i m σ' H',W i m σ' H' ->
   (J.stop i H'/\Q (.ref mQ) H')\/(J.go i H'/\∃ N:St->Hp->Prop,(∀ σ'' H'',N σ'' H''->∃ m',m' < m/\W (i + 1) m' σ'' H'')/\∀ x H'',J.yld i H' x H''->g s3 H3 fp pns x σ' H'' λ σ2 H2=>tt s3 H3 fp pns σ2 H2 λ b H5 =>
    if b=true then te s3 H3 fp pns σ2 H5 λ y H4=>∃ ys,H4 mQ=some (.lst ys)/\ys.length < sizeLine/\N σ2 (upd H4 mQ (.lst (ys ++ [y]))) else N σ2 H5))
  (hRR:∀ mQ C s' H' m,Inv X m5 σ H' s'->Q (.ref mQ) H'->s'.heap.Ns C m->H' C=none->C≠X.env.locals->X.s₀.heap.objs.size<=C->(∀ x c,X.env.cells.lookup x=some c->c≠C)->(∀ p∈X.pn ++ m5,p.1≠C)->RR (.ref mQ) C (.ok .next) s') :
  wpAny (model X.prog X.w) X.A (newList []) (λ mQ s₃=>wpAny (model X.prog X.w) X.A (newFunctionEnv scope X.env.globals (jg X.env.cells scope.names []) [] X.env.qual none .none (some X.env)) (λ cenv s₄ =>
   codeAny (model X.prog X.w) X.A (.compStart (.ListComp elt [⟨target,iter,ifs,0⟩] scope pos) 0 (.ref it) mQ { cenv with scope:=relabel scope X.env }) (RR mQ cenv.locals) s₄) E s₃) E s2:=by
 refine dC (wpAny_newFunctionEnv C.cell (by intro y hy;simp at hy) (λ h₁ hns₁ hsb₁=>?_) C.kind);obtain ⟨W,⟨m0,w0⟩,turn⟩:=h { s2 with heap:=s2.heap.push { cls:=.type "list",dict:=none,data:=.seq ([]:A9).toArray } } (upd H2 s2.heap.objs.size (.lst [])) fp m5 s2.heap.objs.size I2.fresh;have I3:Inv X m5 σ (upd H2 s2.heap.objs.size (.lst [])) { s2 with heap:=s2.heap.push { cls:=.type "list",dict:=none,data:=.seq ([]:A9).toArray } }:=I2.lnew (mM:=[]) (t':=s2.toks) .nil (by decide);dsimp only at hns₁ hsb₁ ⊢;have hfo:∀ b∈fp,∃ o,s2.heap.get? b=some o:=λ b hb=>let ⟨o,e,_⟩:=T.obj _ _ st2 b hb;⟨o,e⟩
 have hf3:∀ b∈fp,QQ X m5 (upd H2 s2.heap.objs.size (.lst [])) b:=λ b hb=>by
  refine ⟨?_,(hf b hb).2⟩;obtain ⟨o,e⟩:=hfo b hb;rw [mX (aP (aA e))];exact (hf b hb).1
 generalize hs3:({ s2 with heap:=s2.heap.push { cls:=.type "list",dict:=none,data:=.seq ([]:A9).toArray } }:Ap)=s3 at I3 turn;have eh:s2.heap.push { cls:=.type "list",dict:=none,data:=.seq ([]:A9).toArray }=s3.heap:=by rw [<- hs3]
 have old:∀ b o,s2.heap.get? b=some o->s3.heap.get? b=some o:=λ b o e=>by rw [<- eh];exact aj _ e
 rw [eh] at hns₁ hsb₁ ⊢;have es:({ s2 with heap:=h₁,toks:=s2.toks + ([]:List (Str × Value)).length }:Ap)={ s3 with heap:=h₁,toks:=s2.toks }:=by rw [<- hs3];rfl
 rw [es];generalize hH3:upd H2 s2.heap.objs.size (.lst [])=H3 at *;have hk:∀ b o,s3.heap.get? b=some o->h₁.get? b=some o:=λ b o e=>hsb₁.extBut b o (aP (aA e)) (aj _ e);have I4:Inv (cxC X N scope s3 H3 fp m5) [] (stC vars.length caps σ) H3 { s3 with heap:=h₁,toks:=s2.toks }:=ze2 I3 hosc C hN hf3 (λ b hb=>let ⟨o,e⟩:=hfo b hb;⟨o,old b o e⟩) hns₁ hk;have st4:tn 0 h₁:=T.keep _ _ _ st2 λ b hb o e=>hk b o (old b o e);have stat:∀ {H':Hp},(∀ b∈fp,H' b=none)->∀ b∈fp,QQ (cxC X N scope s3 H3 fp m5) [] H' b:=λ hn b hb =>
  ⟨hn b hb,(I4.ok.exf b hb).1,I4.ok.exfs b hb,.inl hb,(I4.ok.exf b hb).2,λ p hp=>(hf b hb).2.2.2.2.2 p (by simpa [cxC] using hp)⟩
 have loop:∀ s4:Shared,s4={ s3 with heap:=h₁,toks:=s2.toks } ->
   codeAny (model X.prog X.w) X.A (.compLoop (.ListComp elt [⟨target,iter,ifs,0⟩] scope pos) 0 (.ref it) (.ref s2.heap.objs.size) (cxC X N scope s3 H3 fp m5).env) (RR (.ref s2.heap.objs.size) s3.heap.objs.size) s4:=by
  rintro s4 rfl;refine zdQ (λ n s'=>∃ i σ' H',Inv (cxC X N scope s3 H3 fp m5) [] σ' H' s'/\tn i s'.heap/\(∀ b∈fp,H' b=none)/\W i n σ' H') ?_ m0 ⟨0,_,H3,I4,st4,λ b hb=>(hf3 b hb).1,w0⟩;rintro n s5 ⟨i,σ5,H5,I5,st5,fr5,w5⟩;rcases turn i n σ5 H5 w5 with ⟨stop,qn⟩|⟨go,NN,hNN,step⟩
  ·refine thn (T.done (cxC X N scope s3 H3 fp m5) rfl rfl rfl hc i [] s5 σ5 H5 NoX I5 (stat fr5) st5 stop) λ r s6 ⟨hr,I6⟩=>?_;subst hr;obtain ⟨m,hn,_⟩:=I6.loc;have hlt:∀ b o,s3.heap.get? b=some o->b≠s3.heap.objs.size:=λ b o e=>aP (aA e);obtain ⟨m3,⟨oL,_,_,hoL,_⟩,_⟩:=I3.loc;refine hRR _ _ s6 H5 m (zbZ I3 hf3 I6) qn hn I6.free (λ z=>hlt _ _ hoL z.symm) I3.sz (λ x c ec z=>?_) λ p hp z=>hlt _ _ (I3.pin p hp).1 z;obtain ⟨v,o,ho,_⟩:=I3.cell x c ec;exact hlt _ _ ho z
  ·refine thn (T.item (cxC X N scope s3 H3 fp m5) rfl rfl rfl hc i [] s5 σ5 H5 NoX I5 (stat fr5) st5 go) λ r s6 ⟨u,hr,h6⟩=>?_;subst hr;refine thn h6 λ _ s7 ⟨x,H7,I7,r7,y7,st7,fr7⟩=>?_;have I7':=I7.pinned (stat fr7) (T.obj _ _ st7);have again:∀ {σ8:St} {H8:Hp} {s8:Ap},Inv (cxC X N scope s3 H3 fp m5) ([] ++ J1 fp s7.heap) σ8 H8 s8->NN σ8 H8->∃ m,m < n/\∃ i σ' H',Inv (cxC X N scope s3 H3 fp m5) [] σ' H' s8/\tn i s8.heap/\(∀ b∈fp,H' b=none)/\W i m σ' H':=λ {σ8 H8 s8} I8 n8=>by
    obtain ⟨m',hm,w8⟩:=hNN σ8 H8 n8;refine ⟨m',hm,i + 1,σ8,H8,I8.unpinned,T.keep _ _ _ st7 λ b hb o e=>(I8.pin (b,o) (aY _ (aY _ (wP hb e)))).1,λ b hb=>?_,w8⟩;obtain ⟨o,e,d⟩:=T.obj _ _ st7 b hb;exact (I8.pin (b,o) (aY _ (aY _ (wP hb e)))).2.1
   refine thn (hg s3 H3 fp m5 _ s7 σ5 H7 x u _ I7' r7 (step x H7 y7)) λ _ s8 ⟨σ8,H8,I8,q8⟩=>?_;refine thn (ht s3 H3 fp m5 _ s8 σ8 H8 _ I8 q8) λ b s9 ⟨H9,I9,q9⟩=>?_;cases b with
   | false=>exact again I9 q9
   | true =>
    refine qL (he s3 H3 fp m5 _ s9 σ8 H9 _ I9 q9) λ v s10 y H10 I10 r10 qq_=>?_;obtain ⟨ys,ea,hz,q10⟩:=qq_;refine thn (zK (X:=cxC X N scope s3 H3 fp m5) _ s10 σ8 H10 (.ref s2.heap.objs.size) [y] (.ref s2.heap.objs.size) [v] (λ _ H'=>NN σ8 H') I10 rfl (.cons r10 .nil) ⟨_,ys,y,rfl,rfl,ea,hz,q10⟩) λ _ s11 ⟨_,H11,I11,_,q11⟩=>?_;exact again I11 q11
 exact codeAny_compStart_list (loop _ rfl) (T.self X.A 0 _ _ _ st4 (loop _ rfl))
def jG {ON:Aa} (hosc:X.env.scope=osc) (hON:X.N=ON) (hB:zcR osc scope ON caps=true) (hN:N=vars ++ caps.map λ k=>ON.getD k Str.empty) (hc:X.calm=true) (hi:PI X target iter wi)
  (hg:∀ s H fp m5,PG (cxC X N scope s H fp m5) target (g s H fp m5)) (ht:∀ s H fp m5,zfv (cxC X N scope s H fp m5) ifs (tt s H fp m5)) (he:∀ s H fp m5,PE (cxC X N scope s H fp m5) elt (te s H fp m5))
  (hs:∀ x,foldedSetIterable iter X.env x=pure x:=by intro _;rfl):PE X (.ListComp elt [⟨target,iter,ifs,0⟩] scope pos) (tLc wi vars.length caps g tt te):=by
 subst hON;intro m5 s σ H Q I h;have C:CompOk osc scope X.N vars caps:=zaX hB;have hclos:closureFor scope X.env=pure (jg X.env.cells scope.names []):=Zj λ y hy e=>I.ok.has y.1 (by have z:=C.free y hy e;rw [<- hosc] at z;exact z);rw [eval_ListComp];refine fV (use:=none) rfl hs hclos C.kind C.loc (thn (hi m5 s σ H _ I h) λ v s1 h1=>thn h1 λ itv s2 h2=>?_);obtain ⟨it,fp,tn,J,H2,e,I2,T,st2,f2,hw⟩:=h2;subst e;refine Xy (N:=N) (RR:=λ mQ Cc=>compPost (model X.prog X.w) X.A X.xe none (EP X m5 σ Q) mQ Cc) hosc C hN hc hg ht he I2 T st2 f2 hw λ mQ Cc s' H' m I' q hn hC hL hsz hcc hpp=>?_;refine ⟨m,hn,λ h' hs'=>⟨.ref mQ,H',?_,rfl,q⟩⟩;exact I'.turned (t':=s'.toks) (it:=Cc) (λ b o hb e=>(hs'.2 b hb).trans e) hC (λ z=>hL z) (.inr hsz) hcc hpp
def JX {ON:Aa} {i:Nat} {x:Str} {pos' spos:Pos} (hNd:X.N.Nodup) (hix:X.N[i]?=some x) (hx:Loc X.env.scope x)
  (hosc:X.env.scope=osc) (hON:X.N=ON) (hB:zcR osc scope ON caps=true) (hN:N=vars ++ caps.map λ k=>ON.getD k Str.empty) (hc:X.calm=true) (hi:PI X target iter wi)
  (hg:∀ s H fp m5,PG (cxC X N scope s H fp m5) target (g s H fp m5)) (ht:∀ s H fp m5,zfv (cxC X N scope s H fp m5) ifs (tt s H fp m5)) (he:∀ s H fp m5,PE (cxC X N scope s H fp m5) elt (te s H fp m5))
  (hsw:swapsWith (.ListComp elt [⟨target,iter,ifs,0⟩] scope pos) (some (.Name x pos')) spos.line X.env=pure true:=by rfl)
  (hf:X.fn x=true\/X.env.scope.names.lookup x=some .local:=by walk_at "p")
  (hs:∀ x,foldedSetIterable iter X.env x=pure x:=by intro _;rfl):PS X (.Assign [.Name x pos'] (.ListComp elt [⟨target,iter,ifs,0⟩] scope pos) spos) (tAsg (tLc wi vars.length caps g tt te) (gName i)):=by
 subst hON;intro m5 s σ H D I h;have C:CompOk osc scope X.N vars caps:=zaX hB;have hclos:closureFor scope X.env=pure (jg X.env.cells scope.names []):=Zj λ y hy e=>I.ok.has y.1 (by have z:=C.free y hy e;rw [<- hosc] at z;exact z);rw [exec_Assign_Name_used _ _ _ _ hsw];refine af (fU (af ?_));show wpAny _ X.A (do let _ <- comprehension (.ListComp elt [⟨target,iter,ifs,0⟩] scope pos) scope X.env _ (newList []) false (eval iter X.env) (some (assign (.Name x pos') X.env))) _ _ s
 refine af (aV (fV (use:=some (assign (.Name x pos') X.env)) (Q:=λ _ s'=>SP X m5 D .next s') rfl hs hclos C.kind C.loc (thn (hi m5 s σ H _ I h) λ v s1 h1=>thn h1 λ itv s2 h2=>?_)) (λ _ s' hq=>aD (aD hq)) λ _ _ e=>e);obtain ⟨it,fp,tn,J,H2,e,I2,T,st2,f2,hw⟩:=h2;subst e;refine Xy (N:=N) (Q:=λ v H1=>gName i v σ H1 D.nx) (RR:=λ mQ Cc=>compPost (model X.prog X.w) X.A X.xe (some (assign (.Name x pos') X.env)) (λ _ s'=>SP X m5 D .next s') mQ Cc) hosc C hN hc hg ht he I2 T st2 f2 hw λ mQ Cc s' H' m I' q hn hC hL hsz hcc hpp=>?_;refine wpAny_assign_Name (We I' hNd hix hx (v:=.ref mQ) rfl (λ s3 I3 ⟨a,sb,ha⟩=>?_) hf);have hne:Cc≠a:=λ z=>by
  rcases ha with e|e
  ·exact hL (z.trans e)
  ·exact hcc x a e z.symm
 refine ⟨m,hn.sameBut sb hne,λ h' hs'=>⟨_,H',?_,q⟩⟩;exact I3.turned (t':=s3.toks) (it:=Cc) (λ b o hb e=>(hs'.2 b hb).trans e) hC (λ z=>hL z) (.inr hsz) hcc hpp
end
end L2
namespace L2
open PySem PySem.Spec PySem.Calls PyProof.Rows
variable {b:Bool} {Q:A5} {i:Nat} {X:Cx}
section
variable {X:Cx} {m5:A4} {σ:St} {H:Hp} {s:Ap} {h':Heap} {ch:Ae}
def Inv.turnNew {T:Addr} {o:HO} {t':Nat} (I:Inv X m5 σ H s) (hch:∀ b∈ch,QQ X m5 H b) (hT:s.heap.objs.size<=T) (keep:∀ b o,b ∉ ch->s.heap.get? b=some o->h'.get? b=some o)
  (new:ObjOk X.prog X.w (upd H T o) h' T o):Inv X m5 σ (upd H T o) { s with heap:=h',toks:=t' }:=by
 have hn:H T=none:=I.hok.fresh hT;have lt:∀ b u,s.heap.get? b=some u->b≠T:=λ b u e=>aP (aM (aA e) hT);have nch:∀ b u,H b=some u->b ∉ ch:=λ b u e z=>by rw [(hch b z).1] at e;cases e
 refine I.step (g':=s.gens) (d':=s.drawn) (ch:=ch) (λ b hb=>⟨(hch b hb).2.2.2.1,(hch b hb).2.1,(hch b hb).2.2.2.2.1,(hch b hb).2.2.2.2.2⟩) (λ b o _ _ hc e _=>keep b o hc e) (λ b o _ _ hc e _=>⟨o.slots,keep b o hc e⟩)
  (λ b o _ e n=>by rw [mX (lt b o e)];exact n) (λ b o hc e=>⟨o,keep b o hc e⟩) (λ b xs e=>by rw [mX (mY e hn)];exact e) (λ b o u e=>by rw [mX (mY e hn)];exact e)
  (λ b ps e=>⟨#[],by rw [mX (mY e hn),e];simp⟩) (λ m hm=>?_) (λ b u e=>?_) I.bare
 ·obtain ⟨o,es,ep,ho,r⟩:=hm;exact ⟨o,es,ep,keep _ o (λ z=>(hch _ z).2.1 rfl) ho,r⟩
 ·by_cases hb:b=T
  ·subst hb;rw [mW] at e;cases e;exact new
  ·rw [mX hb] at e;refine (I.hok b u e).stay (λ c v hc q=>keep c v ?_ q) (λ c q=>by rw [mX (mY q hn)];exact q) λ c xs q=>by rw [mX (mY q hn)];exact q
   rcases hc with z|z
   ·rw [z];exact nch b u e
   ·exact nch c _ z
def Inv.turnL {t':Nat} (I:Inv X m5 σ H s) (hch:∀ b∈ch,QQ X m5 H b) (keep:∀ b o,b ∉ ch->s.heap.get? b=some o->h'.get? b=some o):Inv X m5 σ H { s with heap:=h',toks:=t' }:=by
 have nch:∀ b u,H b=some u->b ∉ ch:=λ b u e z=>by rw [(hch b z).1] at e;cases e
 refine I.step (g':=s.gens) (d':=s.drawn) (ch:=ch) (λ b hb=>⟨(hch b hb).2.2.2.1,(hch b hb).2.1,(hch b hb).2.2.2.2.1,(hch b hb).2.2.2.2.2⟩) (λ b o _ _ hc e _=>keep b o hc e) (λ b o _ _ hc e _=>⟨o.slots,keep b o hc e⟩)
  (λ _ _ _ _ n=>n) (λ b o hc e=>⟨o,keep b o hc e⟩) (λ _ _ e=>e) (λ _ _ _ e=>e) (λ b ps e=>⟨#[],by rw [e];simp⟩) (λ m hm=>?_) (λ b u e=>?_) I.bare
 ·obtain ⟨o,es,ep,ho,r⟩:=hm;exact ⟨o,es,ep,keep _ o (λ z=>(hch _ z).2.1 rfl) ho,r⟩
 ·refine (I.hok b u e).stay (λ c v hc q=>keep c v ?_ q) (λ _ q=>q) λ _ _ q=>q;rcases hc with z|z
  ·rw [z];exact nch b u e
  ·exact nch c _ z
end
noncomputable def Ite (K:A0) (a:Addr):It :=
 ⟨λ i H=>∃ xs x,SqL K H a xs/\xs[i]?=some x,λ i H v H'=>∃ t x,H t=none/\v=.ref t/\(∀ xs,SqL K H a xs->xs[i]?=some x)/\H'=upd H t (.tup [.int i,x]),λ i H=>∃ xs,SqL K H a xs/\xs.length<=i⟩
def zc4 {P:Ah} {w:World} {K:A0} {elts:List Expr} {x1} {pos:Pos} (a e it:Addr) (hne:e≠it) :
  Turn P w K (.Tuple elts x1 pos) (Ite K a) [e,it] e (λ i h=>(∃ old,IsEnum h e it i old)/\h.IsListIter it a i) where
 mem:=by simp
 obj:=λ i h st b hb=>by
  obtain ⟨⟨old,he⟩,o,ho,c,d⟩:=st;rcases az.mp hb with rfl|hb
  ·exact ⟨_,he,λ v z=>by cases z⟩
  ·obtain rfl:b=it:=by simpa using hb
   exact ⟨o,ho,λ v z=>by rw [d] at z;cases z⟩
 keep:=λ i h h' st k=>by
  obtain ⟨⟨old,he⟩,hi⟩:=st;exact ⟨⟨old,k e (by simp) _ he⟩,hi.at λ o z=>k it (by simp) o z⟩
 item:=by
  intro X hP hw hK hc i m5 s σ H E I hf st hg;subst hP hw hK;obtain ⟨⟨old,he⟩,hi⟩:=st;obtain ⟨xs,x,hq,hx⟩:=hg;obtain ⟨mM,rv,p,hz⟩:=I.list hq;obtain ⟨u,hu,ru⟩:=rv.get hx;refine wpAny_pyNext_enum_item he hi p.isList (x:=u) (by simpa using hu) hne λ h' he' hi' hT hsz hk=>?_;refine ⟨_,rfl,?_⟩;have I1:Inv X m5 σ (upd H s.heap.objs.size (.tup [.int i,x])) { s with heap:=h',toks:=s.toks + 1 }:=I.turnNew hf (au _) (λ b o hb q=>hk b o (λ z=>hb (by simp [z])) (λ z=>hb (by simp [z])) q)
   ⟨by show 2<=sizeLine;decide,[.int i s.toks,u],.cons ⟨_,rfl⟩ (.cons ru .nil),⟨_,hT,rfl,_,rfl⟩⟩
  have hn:H s.heap.objs.size=none:=I.hok.fresh (au _);have ne:∀ b∈[e,it],b≠s.heap.objs.size:=λ b hb=>by
   rcases az.mp hb with rfl|hb
   ·exact aP (aA he)
   ·obtain rfl:b=it:=by simpa using hb
    obtain ⟨o,ho,_⟩:=hi;exact aP (aA ho)
  have fr:∀ b∈[e,it],(upd H s.heap.objs.size (.tup [.int i,x])) b=none:=λ b hb=>by rw [mX (ne b hb)];exact (hf b hb).1
  refine wpAny_letOwnedTupleGo_enum he' λ h'' he'' hs''=>?_;refine ⟨.ref s.heap.objs.size,_,I1.turnL (t':=s.toks + 1) (ch:=[e]) (λ b hb=>?_) (λ b o hb q=>(hs''.2 b (λ z=>hb (by simp [z]))).trans q),rfl,
   ⟨s.heap.objs.size,x,hn,rfl,λ ys hy=>by rw [I.list_inj hy hq];exact hx,rfl⟩,⟨⟨u,?_⟩,hi'.extBut hs''.extBut (aX hne)⟩,fr⟩
  ·obtain rfl:b=e:=by simpa using hb
   exact ⟨fr b (by simp),(hf b (by simp)).2⟩
  ·exact he''
 done:=by
  intro X hP hw hK hc i m5 s σ H E I hf st hg;subst hP hw hK;obtain ⟨⟨old,he⟩,hi⟩:=st;obtain ⟨xs,hq,hx⟩:=hg;obtain ⟨mM,rv,p,hz⟩:=I.list hq;have hl:=rv.length;exact wpAny_pyNext_enum_end (I.ok.hd hc) he hi p.isList (by simp;lia) λ h' eb=>⟨rfl,I.turnL (t':=s.toks) hf λ b o hb q=>eb b o (λ z=>hb (by simp [z])) q⟩
 self:=λ _ _ _ _ _ st h=>by
  obtain ⟨⟨old,he⟩,_⟩:=st;exact wpAny_pyIter_enum he h
def VP:bootBuiltins "enumerate"=some (.type "enumerate"):=by decide +kernel
def zhI:bootBuiltins "zip"=some (.type "zip"):=by decide +kernel
def iEnum (X:Cx) (ta:TA):TI:=λ σ H R=>X.mg "enumerate"=none/\ta σ H λ vs H1=>∃ a xs,vs=[.ref a]/\H1 a=some (.lst xs)/\R (Ite X.K a) H1
def qB {a:Expr} {elts:List Expr} {x1} {tp p pos:Pos} {ta:TA} (ha:PA X [a] ta) (hg:Gl X "enumerate":=by rfl)
  (hs:starEach [a] X.env=(false,eval a X.env) :: starEach [] X.env:=by rfl) (hpl:(backTo pos (starEach [] X.env)).any (·.1)=false:=by rfl) :
  PI X (.Tuple elts x1 tp) (.Call (.Name "enumerate" p) [a] [] pos) (iEnum X ta):=by
 intro m5 s σ H R I h;refine bw (wQ I hg h.1 VP ?_);refine a8 (w6 (ha pos m5 s σ H _ I h.2) λ us s1 vs H1 I1 r1 q1=>?_) hs hpl;obtain ⟨l,xs,rfl,hq,hR⟩:=q1;obtain ⟨u,rfl,rx⟩:=Jy r1;cases rx;obtain ⟨hz,mM,n,rv,hl,e⟩:=I1.lstM hq;refine call_enumerate_1 e λ h' he hi hsz hk=>wpAny_pyIter_enum he ?_;refine ⟨s1.heap.objs.size + 1,[s1.heap.objs.size + 1,s1.heap.objs.size],_,_,H1,rfl,I1.kept (t':=s1.toks) hk,zc4 l _ _ (Nat.succ_ne_self _),⟨⟨_,he⟩,hi⟩,λ b hb=>?_,hR⟩;rcases az.mp hb with rfl|hb
 ·exact I1.fpOk (cc _) (I1.hok.fresh (cc _))
 ·obtain rfl:b=s1.heap.objs.size:=by simpa using hb
  exact I1.fpOk (au _) (I1.hok.fresh (au _))
def ItAt (b:Bool) (h:Heap) (it a:Addr) (i:Nat):Prop:=if b=true then h.IsListIter it a i else h.IsTupleIter it a i
def SqAt (b:Bool) (h:Heap) (a:Addr) (items:Af):Prop:=if b=true then h.IsList a items else h.IsTuple a items
noncomputable def QK (b:Bool):String:=if b=true then "list_iterator" else "tuple_iterator"
def ItAt.at' {h h':Heap} {it a:Addr} (x:ItAt b h it a i) (hk:∀ o,h.get? it=some o->h'.get? it=some o):ItAt b h' it a i:=by
 cases b <;> exact let ⟨o,ho,r⟩:=x;⟨o,hk o ho,r⟩
def ItAt.obj {h:Heap} {it a:Addr} (x:ItAt b h it a i):∃ o,h.get? it=some o/\∀ v,o.data≠.cell v:=by
 cases b <;> exact let ⟨o,ho,_,hd⟩:=x;⟨o,ho,λ v z=>by rw [hd] at z;cases z⟩
def SqAt.at' {h h':Heap} {a:Addr} {items:Af} (x:SqAt b h a items) (hk:∀ o,h.get? a=some o->h'.get? a=some o):SqAt b h' a items:=by
 cases b <;> exact let ⟨o,ho,r⟩:=x;⟨o,hk o ho,r⟩
section
variable {prog:Ah} {w:World} {A:Aq} {E:A5} {s:Ap}
def ZX {it t:Addr} {items} {x:Ao} (hit:s.heap.IsTupleIter it t i) (ht:s.heap.IsTuple t items) (hx:items[i]?=some x)
  (hQ:∀ h',h'.IsTupleIter it t (i + 1)->Heap.SameBut it s.heap h'->Q x { s with heap:=h' }):wpAny (model prog w) A (Builtin.SmallTypes.nextOf (.ref it)) Q E s:=by
 obtain ⟨o,ho,hc,hd⟩:=id hit;obtain ⟨ol,hol,_,nl,hdl⟩:=ht;unfold Builtin.SmallTypes.nextOf;refine af (cJ (name:=Str.ofString "__next__") hit.typeIs ck
  (dJ ck hit.typeIs fF ?_ (fz _)))
 show wpAny _ _ (field (.ref it) 0 >>= _) _ _ s
 refine af (bh ho hd (x:=.ref t) rfl ?_);show wpAny _ _ (if (Value.ref t == Value.none)=true then _ else _) _ _ s
 rw [ap (show ¬ ((Value.ref t == Value.none)=true) from aC)];show wpAny _ _ (field (.ref it) 1 >>= _) _ _ s
 refine af (bh ho hd (x:=.int i 0) rfl ?_);show wpAny _ _ (seqItems? (.ref t) >>= _) _ _ s
 refine af (bE hol hdl ?_);simp only [aB,hx];refine af (dq ho hd (by simp) (aD ⟨x,rfl,aD (hQ _ ?_ (Heap.SameBut.update ..))⟩));exact ⟨_,bu _ ho (cf (bj hd _)),(Obj.cls_mapFields ..).trans hc,by
  rw [bj hd];simp [rawInt]⟩
def QE {it t:Addr} {items} (hh:A.handled=none) (hit:s.heap.IsTupleIter it t i) (ht:s.heap.IsTuple t items) (hx:items[i]?=none)
  (hE:∀ h' e,Heap.ExtBut it s.heap h'->(∃ o,h'.get? e=some o/\o.cls=.type "StopIteration")->E (.ref e) { s with heap:=h' }) :
  wpAny (model prog w) A (Builtin.SmallTypes.nextOf (.ref it)) Q E s:=by
 obtain ⟨o,ho,hc,hd⟩:=id hit;obtain ⟨ol,hol,_,nl,hdl⟩:=ht;unfold Builtin.SmallTypes.nextOf;refine af (cJ (name:=Str.ofString "__next__") hit.typeIs ck
  (dJ ck hit.typeIs fF ?_ (fz _)))
 show wpAny _ _ (field (.ref it) 0 >>= _) _ _ s
 refine af (bh ho hd (x:=.ref t) rfl ?_);show wpAny _ _ (if (Value.ref t == Value.none)=true then _ else _) _ _ s
 rw [ap (show ¬ ((Value.ref t == Value.none)=true) from aC)];show wpAny _ _ (field (.ref it) 1 >>= _) _ _ s
 refine af (bh ho hd (x:=.int i 0) rfl ?_);show wpAny _ _ (seqItems? (.ref t) >>= _) _ _ s
 refine af (bE hol hdl ?_);simp only [aB,hx];refine af (wpAny_rule (af (dq ho hd (by simp) ?_)));show wpAny _ _ (newExc (.type "StopIteration") [] >>= _) _ _ _
 refine af ?_;simp only [newExc,newTuple];refine af (dC ?_ (by size_fits));refine af (m:=firstArgMember _ _) (wpAny_of_eq (a:=Value.none) (by first|rfl|(simp only [firstArgMember];rfl)) ?_);refine dC ?_ (by size_fits);simp only [raiseNew];refine af (wpAny_handled ?_)
 first|rw [show A.in1.handled=none from hh] | rw [hh]
 refine af (aD (wpAny_throw ?_));exact hE _ _ (((Heap.SameBut.update ..).extBut.push _).push _) ⟨_,aE _ rfl,rfl⟩
def vz {it t:Addr} {items} {x:Ao} (hit:ItAt b s.heap it t i) (ht:SqAt b s.heap t items) (hx:items[i]?=some x)
  (hQ:∀ h',ItAt b h' it t (i + 1)->Heap.SameBut it s.heap h'->Q x { s with heap:=h' }):wpAny (model prog w) A (Builtin.SmallTypes.nextOf (.ref it)) Q E s:=by
 cases b
 ·exact ZX hit ht hx hQ
 ·exact wpAny_nextOf_list_item hit ht hx hQ
def Xb {it t:Addr} {items} (hh:A.handled=none) (hit:ItAt b s.heap it t i) (ht:SqAt b s.heap t items) (hx:items[i]?=none)
  (hE:∀ h' e,Heap.ExtBut it s.heap h'->(∃ o,h'.get? e=some o/\o.cls=.type "StopIteration")->E (.ref e) { s with heap:=h' }) :
  wpAny (model prog w) A (Builtin.SmallTypes.nextOf (.ref it)) Q E s:=by
 cases b
 ·exact QE hh hit ht hx hE
 ·exact wpAny_nextOf_list_end hh hit ht hx hE
def Wk {t:Addr} {items} (ht:SqAt b s.heap t items)
  (hQ:Q (.ref s.heap.objs.size) { s with heap:=s.heap.push { cls:=.type (QK b),data:=.fields #[.ref t,.int 0 0] } }):wpAny (model prog w) A (pyIter (.ref t)) Q E s:=by
 cases b
 ·exact wpAny_pyIter_tuple ht hQ
 ·exact wpAny_pyIter_list ht hQ
def zd3 {b1 b2:Bool} {z TI TO i1 i2 l1 l2:Addr} {k1 k2:Nat} {xs ys:Af} {x y a b:Ao} (D:ZipApart z TI TO i1 i2 l1 l2)
  (hz:IsZip s.heap z TI TO .none) (hTI:IsPair s.heap TI (.ref i1) (.ref i2)) (hTO:IsPair s.heap TO a b)
  (h1:ItAt b1 s.heap i1 l1 k1) (h2:ItAt b2 s.heap i2 l2 k2) (hl1:SqAt b1 s.heap l1 xs) (hl2:SqAt b2 s.heap l2 ys) (hx:xs[k1]?=some x) (hy:ys[k2]?=some y)
  (hQ:∀ h',IsZip h' z TI TO (rawInt s.heap.objs.size)->IsPair h' TO x y->ItAt b1 h' i1 l1 (k1 + 1)->ItAt b2 h' i2 l2 (k2 + 1)->IsPair h' s.heap.objs.size x y->h'.objs.size=s.heap.objs.size + 1 ->
   (∀ c o,c≠z->c≠TO->c≠i1->c≠i2->s.heap.get? c=some o->h'.get? c=some o)->Q (.ref s.heap.objs.size) { s with heap:=h' }) :
  wpAny (model prog w) A (Builtin.«zip.__next__» ⟨[.ref z],[]⟩) (λ fin s'=>∃ v,fin=.done (.ret v)/\Q v s') E s:=by
 show wpAny _ _ (field (.ref z) 2 >>= _) _ _ _
 refine af (bh hz rfl (x:=.bool false) rfl ?_);show wpAny _ _ (field (.ref z) 3 >>= _) _ _ _
 refine af (bh hz rfl (x:=.ref TI) rfl ?_);refine af (bE hTI rfl ?_);show wpAny _ _ (Builtin.SmallTypes.ownedTupleIsFree (.ref z) >>= _) _ _ _
 refine af ?_;unfold Builtin.SmallTypes.ownedTupleIsFree;refine af (bh hz rfl (x:=.none) rfl (aD ?_));simp only [d8];refine af (wpAny_rule ?_);refine af (bh hz rfl (x:=.ref TO) rfl ?_);refine af (b8 hz (by simp) λ h₁ hz₁ hs₁=>?_);replace hz₁:IsZip h₁ z TI TO .ellipsis:=hz₁;refine af ?_;simp only [List.zipIdx_cons,List.zipIdx_nil,fA,List.forIn_nil];refine af (af (eJ ?_));show wpAny _ _ (Builtin.SmallTypes.nextOf (.ref i1) >>= _) _ _ _
 refine af (vz (h1.at' λ o e=>hs₁.extBut _ _ D.i1z e) (hl1.at' λ o e=>hs₁.extBut _ _ D.l1z e) hx λ h₂ h1₂ hs₂=>aD ?_);have hTO₂:IsPair h₂ TO a b:=hs₂.extBut _ _ D.TOi1 (hs₁.extBut _ _ D.TOz hTO);refine af (bE hTO₂ rfl ?_);refine af (d7 hTO₂ λ h₃ hTO₃ hs₃=>?_);replace hTO₃:IsPair h₃ TO x b:=hTO₃;refine af (fk (aD ?_));refine af (af (eJ ?_));show wpAny _ _ (Builtin.SmallTypes.nextOf (.ref i2) >>= _) _ _ _
 refine af (vz (h2.at' λ o e=>hs₃.extBut _ _ D.TOi2.symm (hs₂.extBut _ _ D.i12.symm (hs₁.extBut _ _ D.i2z e)))
  (hl2.at' λ o e=>hs₃.extBut _ _ D.l2TO (hs₂.extBut _ _ D.l2i1 (hs₁.extBut _ _ D.l2z e))) hy λ h₄ h2₄ hs₄=>aD ?_)
 have hTO₄:IsPair h₄ TO x b:=hs₄.extBut _ _ D.TOi2 hTO₃;refine af (bE hTO₄ rfl ?_);refine af (d7 hTO₄ λ h₅ hTO₅ hs₅=>?_);replace hTO₅:IsPair h₅ TO x y:=hTO₅;refine af (fk (aD (aD ?_)));refine af (bE hTO₅ rfl ?_);refine af (wpAny_newTuple ?_);have hsz:h₅.objs.size=s.heap.objs.size:=by rw [hs₅.1,hs₄.1,hs₃.1,hs₂.1,hs₁.1]
 have hz₅:IsZip h₅ z TI TO .ellipsis:=hs₅.extBut _ _ D.TOz.symm (hs₄.extBut _ _ D.i2z.symm (hs₃.extBut _ _ D.TOz.symm (hs₂.extBut _ _ D.i1z.symm hz₁)));have hk₅:∀ c o,c≠z->c≠TO->c≠i1->c≠i2->s.heap.get? c=some o->h₅.get? c=some o:=λ c o c1 c2 c3 c4 e =>
  hs₅.extBut _ _ c2 (hs₄.extBut _ _ c4 (hs₃.extBut _ _ c2 (hs₂.extBut _ _ c3 (hs₁.extBut _ _ c1 e))))
 have h1₅:ItAt b1 h₅ i1 l1 (k1 + 1):=h1₂.at' λ o e=>hs₅.extBut _ _ D.TOi1.symm (hs₄.extBut _ _ D.i12 (hs₃.extBut _ _ D.TOi1.symm e));have h2₅:ItAt b2 h₅ i2 l2 (k2 + 1):=h2₄.at' λ o e=>hs₅.extBut _ _ D.TOi2.symm e;have hzlt:z < h₅.objs.size:=aA hz₅;show wpAny _ _ (Builtin.SmallTypes.ownedTupleHandOut (.ref z) (.ref h₅.objs.size) >>= _) _ _ _
 refine af ?_;unfold Builtin.SmallTypes.ownedTupleHandOut;have hz₆:IsZip (h₅.push { cls:=.type "tuple",data:=.seq #[x,y] }) z TI TO .ellipsis:=aj _ hz₅;refine af (b8 hz₆ (by simp) λ h₇ hz₇ hs₇=>?_);replace hz₇:IsZip h₇ z TI TO (rawInt h₅.objs.size):=hz₇;refine b8 hz₇ (by simp) λ h₈ hz₈ hs₈=>?_;replace hz₈:IsZip h₈ z TI TO (rawInt h₅.objs.size):=hz₈;have up:∀ c o,c≠z->h₅.get? c=some o->h₈.get? c=some o:=λ c o c1 e=>hs₈.extBut _ _ c1 (hs₇.extBut _ _ c1 (aj _ e));have hT₈:IsPair h₈ h₅.objs.size x y:=hs₈.extBut _ _ (cE hzlt) (hs₇.extBut _ _ (cE hzlt) (aE _ rfl));have hz8:h₈.objs.size=h₅.objs.size + 1:=by rw [hs₈.1,hs₇.1,bH]
 rw [hsz] at hz₈ hT₈ hz8;refine aD ⟨_,rfl,?_⟩;show Q (.ref h₅.objs.size) _
 rw [hsz];exact hQ h₈ hz₈ (up _ _ D.TOz hTO₅) (h1₅.at' λ o e=>up _ o D.i1z e) (h2₅.at' λ o e=>up _ o D.i2z e) hT₈ hz8 λ c o c1 c2 c3 c4 e=>up c o c1 (hk₅ c o c1 c2 c3 c4 e)
theorem zfw {b1 b2:Bool} {z TI TO i1 i2 l1 l2:Addr} {k1 k2:Nat} {xs ys:Af} {a b:Ao} {Q:Fin->Shared->Prop} (hh:A.handled=none) (D:ZipApart z TI TO i1 i2 l1 l2)
  (hz:IsZip s.heap z TI TO .none) (hTI:IsPair s.heap TI (.ref i1) (.ref i2)) (hTO:IsPair s.heap TO a b)
  (h1:ItAt b1 s.heap i1 l1 k1) (h2:ItAt b2 s.heap i2 l2 k2) (hl1:SqAt b1 s.heap l1 xs) (hl2:SqAt b2 s.heap l2 ys) (hend:xs[k1]?=none\/ys[k2]?=none)
  (hE:∀ h' e,(∀ c o,c≠z->c≠TO->c≠i1->c≠i2->s.heap.get? c=some o->h'.get? c=some o)->(∃ o,h'.get? e=some o/\o.cls=.type "StopIteration")->E (.ref e) { s with heap:=h' }) :
  wpAny (model prog w) A (Builtin.«zip.__next__» ⟨[.ref z],[]⟩) Q E s:=by
 show wpAny _ _ (field (.ref z) 2 >>= _) _ _ _
 refine af (bh hz rfl (x:=.bool false) rfl ?_);show wpAny _ _ (field (.ref z) 3 >>= _) _ _ _
 refine af (bh hz rfl (x:=.ref TI) rfl ?_);refine af (bE hTI rfl ?_);show wpAny _ _ (Builtin.SmallTypes.ownedTupleIsFree (.ref z) >>= _) _ _ _
 refine af ?_;unfold Builtin.SmallTypes.ownedTupleIsFree;refine af (bh hz rfl (x:=.none) rfl (aD ?_));simp only [d8];refine af (wpAny_rule ?_);refine af (bh hz rfl (x:=.ref TO) rfl ?_);refine af (b8 hz (by simp) λ h₁ hz₁ hs₁=>?_);replace hz₁:IsZip h₁ z TI TO .ellipsis:=hz₁;refine af ?_;simp only [List.zipIdx_cons,List.zipIdx_nil,fA,List.forIn_nil];refine af (af (eJ ?_));show wpAny _ _ (Builtin.SmallTypes.nextOf (.ref i1) >>= _) _ _ _
 cases hx:xs[k1]? with
 | none =>
  refine af (Xb hh (h1.at' λ o e=>hs₁.extBut _ _ D.i1z e) (hl1.at' λ o e=>hs₁.extBut _ _ D.l1z e) hx λ h₂ e hs₂ he=>?_);obtain ⟨oe,hoe,hce⟩:=he;have hz₂:IsZip h₂ z TI TO .ellipsis:=hs₂ _ _ D.i1z.symm hz₁;have hez:e≠z:=λ x=>by subst x;rw [hz₂] at hoe;cases hoe;simp at hce
  refine b8 hz₂ (by simp) λ h₃ _ hs₃=>hE h₃ e (λ c o c1 _ c3 _ x=>hs₃.extBut _ _ c1 (hs₂ _ _ c3 (hs₁.extBut _ _ c1 x))) ⟨oe,hs₃.extBut _ _ hez hoe,hce⟩
 | some x =>
  have hy:ys[k2]?=none:=by rcases hend with h|h;rw [hx] at h;cases h;exact h
  refine af (vz (h1.at' λ o e=>hs₁.extBut _ _ D.i1z e) (hl1.at' λ o e=>hs₁.extBut _ _ D.l1z e) hx λ h₂ h1₂ hs₂=>aD ?_);have hTO₂:IsPair h₂ TO a b:=hs₂.extBut _ _ D.TOi1 (hs₁.extBut _ _ D.TOz hTO);refine af (bE hTO₂ rfl ?_);refine af (d7 hTO₂ λ h₃ hTO₃ hs₃=>?_);refine af (fk (aD ?_));refine af (af (eJ ?_));show wpAny _ _ (Builtin.SmallTypes.nextOf (.ref i2) >>= _) _ _ _
  refine af (Xb hh (h2.at' λ o e=>hs₃.extBut _ _ D.TOi2.symm (hs₂.extBut _ _ D.i12.symm (hs₁.extBut _ _ D.i2z e)))
   (hl2.at' λ o e=>hs₃.extBut _ _ D.l2TO (hs₂.extBut _ _ D.l2i1 (hs₁.extBut _ _ D.l2z e))) hy λ h₄ e hs₄ he=>?_)
  obtain ⟨oe,hoe,hce⟩:=he;have hz₄:IsZip h₄ z TI TO .ellipsis:=hs₄ _ _ D.i2z.symm (hs₃.extBut _ _ D.TOz.symm (hs₂.extBut _ _ D.i1z.symm hz₁));have hez:e≠z:=λ x=>by subst x;rw [hz₄] at hoe;cases hoe;simp at hce
  refine b8 hz₄ (by simp) λ h₅ _ hs₅=>hE h₅ e (λ c o c1 c2 c3 c4 x=>hs₅.extBut _ _ c1 (hs₄ _ _ c4 (hs₃.extBut _ _ c2 (hs₂.extBut _ _ c3 (hs₁.extBut _ _ c1 x))))) ⟨oe,hs₅.extBut _ _ hez hoe,hce⟩
noncomputable abbrev zH1 (h:Heap) (b1:Bool) (l1:Addr):Heap:=h.push { cls:=.type (QK b1),data:=.fields #[.ref l1,.int 0 0] }
noncomputable abbrev zH2 (h:Heap) (b1 b2:Bool) (l1 l2:Addr):Heap:=(zH1 h b1 l1).push { cls:=.type (QK b2),data:=.fields #[.ref l2,.int 0 0] }
noncomputable abbrev zH3 (h:Heap) (b1 b2:Bool) (l1 l2:Addr):Heap:=(zH2 h b1 b2 l1 l2).push { cls:=.type "tuple",data:=.seq #[.ref h.objs.size,.ref (zH1 h b1 l1).objs.size] }
noncomputable abbrev zH4 (h:Heap) (b1 b2:Bool) (l1 l2:Addr):Heap:=(zH3 h b1 b2 l1 l2).push { cls:=.type "tuple",data:=.seq #[.none,.none] }
noncomputable abbrev zH5 (h:Heap) (b1 b2:Bool) (l1 l2:Addr):Heap:=(zH4 h b1 b2 l1 l2).push { cls:=.type "zip",data:=.fields #[.none,.bool false,.bool false,.ref (zH2 h b1 b2 l1 l2).objs.size,.ref (zH3 h b1 b2 l1 l2).objs.size] }
end
def zdz {b1 b2:Bool} (l1 l2:Addr) (xs ys:Af) :
  Meets (Builtin.«zip.__new__» ⟨[.type "zip",.ref l1,.ref l2],[]⟩) (λ _ R s=>SqAt b1 s.heap l1 xs/\SqAt b2 s.heap l2 ys /\
   R (.ok (.ret (.ref (zH4 s.heap b1 b2 l1 l2).objs.size))) { s with heap:=zH5 s.heap b1 b2 l1 l2 }) :=
 .of_wp λ prog w A R s h=>by
  obtain ⟨hp,g,d,tk,os⟩:=s;obtain ⟨hl1,hl2,h⟩:=h;have hsub:=sub_zip;have hL1:SqAt b1 (Shared.heap ⟨hp,g,d,tk,os⟩) l1 xs:=hl1;have hL2:SqAt b2 (Shared.heap ⟨hp.push { cls:=.type (QK b1),data:=.fields #[.ref l1,.int 0 0] },g,d,tk,os⟩) l2 ys:=hl2.at' λ o e=>aj _ e
  wp_walk using Wk hL1,Wk hL2
  exact ⟨_,rfl,h⟩
section
variable {prog:Ah} {w:World} {A:Aq} {E:A5} {s:Ap}
def ItAt.new {h:Heap} {it l:Addr} (e:h.get? it=some { cls:=.type (QK b),data:=.fields #[.ref l,.int 0 0] }):ItAt b h it l 0:=by
 cases b <;> exact ⟨_,e,rfl,rfl⟩
def zfj {b1 b2:Bool} {l1 l2:Addr} {xs ys:Af} (hl1:SqAt b1 s.heap l1 xs) (hl2:SqAt b2 s.heap l2 ys)
  (h:∀ h',IsZip h' (s.heap.objs.size + 4) (s.heap.objs.size + 2) (s.heap.objs.size + 3) .none->IsPair h' (s.heap.objs.size + 2) (.ref s.heap.objs.size) (.ref (s.heap.objs.size + 1)) ->
   IsPair h' (s.heap.objs.size + 3) .none .none->ItAt b1 h' s.heap.objs.size l1 0->ItAt b2 h' (s.heap.objs.size + 1) l2 0->h'.objs.size=s.heap.objs.size + 5 ->
   (∀ c o,s.heap.get? c=some o->h'.get? c=some o)->Q (.ref (s.heap.objs.size + 4)) { s with heap:=h' }) :
  wpAny (model prog w) A (call (.type "zip") [.ref l1,.ref l2]) Q E s:=by
 refine callType_new F.called_zip (by decide) (F.typeCall_zip_2 _ _) (F.newCall_zip_2 _ _) (λ obj=>F.args_object_init_3 obj _ _) F.entry_zip_new
  (zdz (b1:=b1) (b2:=b2) l1 l2 xs ys) ⟨hl1,hl2,?_⟩
 have z1:(zH1 s.heap b1 l1).objs.size=s.heap.objs.size + 1:=bH ..;have z2:(zH2 s.heap b1 b2 l1 l2).objs.size=s.heap.objs.size + 2:=by rw [bH,z1]
 have z3:(zH3 s.heap b1 b2 l1 l2).objs.size=s.heap.objs.size + 3:=by rw [bH,z2]
 have z4:(zH4 s.heap b1 b2 l1 l2).objs.size=s.heap.objs.size + 4:=by rw [bH,z3]
 have z5:(zH5 s.heap b1 b2 l1 l2).objs.size=s.heap.objs.size + 5:=by rw [bH,z4]
 have g5:(zH5 s.heap b1 b2 l1 l2).get? (zH4 s.heap b1 b2 l1 l2).objs.size=some _:=aE _ rfl;have g4:(zH5 s.heap b1 b2 l1 l2).get? (zH3 s.heap b1 b2 l1 l2).objs.size=some _:=aj _ (aE _ rfl);have g3:(zH5 s.heap b1 b2 l1 l2).get? (zH2 s.heap b1 b2 l1 l2).objs.size=some _:=aj _ (aj _ (aE _ rfl));have g2:(zH5 s.heap b1 b2 l1 l2).get? (zH1 s.heap b1 l1).objs.size=some _:=aj _ (aj _ (aj _ (aE _ rfl)));have g1:(zH5 s.heap b1 b2 l1 l2).get? s.heap.objs.size=some _:=aj _ (aj _ (aj _ (aj _ (aE _ rfl))));show _/\_
 rw [z2,z3,z4] at g5;rw [z1,z2] at g3;rw [z3] at g4;rw [z1] at g2;rw [z4];exact ⟨⟨_,g5,rfl⟩,h _ g5 g3 g4 (ItAt.new g1) (ItAt.new g2) z5 λ c o x =>
  aj _ (aj _ (aj _ (aj _ (aj _ x))))⟩
end
def SqB (b:Bool) (K:A0) (H:Hp) (a:Addr) (xs:Ar):Prop:=if b=true then SqL K H a xs else SqT K H a xs
def Inv.sqB {m5:A4} {σ:St} {H:Hp} {s:Ap} {a:Addr} {xs:Ar} (I:Inv X m5 σ H s) (h:SqB b X.K H a xs):∃ mM:List Value,Vals xs mM/\SqAt b s.heap a mM.toArray:=by
 cases b
 ·obtain ⟨mM,r,p,_⟩:=I.tuple (show SqT X.K H a xs from h);exact ⟨mM,r,p⟩
 ·obtain ⟨mM,r,p,_⟩:=I.list (show SqL X.K H a xs from h);exact ⟨mM,r,p.isList⟩
def Inv.sqB_inj {m5:A4} {σ:St} {H:Hp} {s:Ap} {a:Addr} {xs ys:Ar} (I:Inv X m5 σ H s) (h1:SqB b X.K H a xs) (h2:SqB b X.K H a ys):xs=ys:=by
 cases b
 ·exact I.tuple_inj (show SqT X.K H a xs from h1) (show SqT X.K H a ys from h2)
 ·exact I.list_inj (show SqL X.K H a xs from h1) (show SqL X.K H a ys from h2)
noncomputable def Itz (K:A0) (b1 b2:Bool) (a1 a2:Addr):It :=
 ⟨λ i H=>∃ xs ys x y,SqB b1 K H a1 xs/\SqB b2 K H a2 ys/\xs[i]?=some x/\ys[i]?=some y,
   λ i H v H'=>∃ t x y,H t=none/\v=.ref t/\(∀ xs,SqB b1 K H a1 xs->xs[i]?=some x)/\(∀ ys,SqB b2 K H a2 ys->ys[i]?=some y)/\H'=upd H t (.tup [x,y]),
   λ i H=>∃ xs ys,SqB b1 K H a1 xs/\SqB b2 K H a2 ys/\(xs.length<=i\/ys.length<=i)⟩
def SqB.there {m5:A4} {σ:St} {H:Hp} {s:Ap} {a:Addr} {xs:Ar} (I:Inv X m5 σ H s) (h:SqB b X.K H a xs):∃ o,s.heap.get? a=some o/\(o.cls=.type "list"\/o.cls=.type "tuple")/\∃ mM n,o.data=.seq mM n:=by
 obtain ⟨mM,_,p⟩:=I.sqB h;cases b
 ·obtain ⟨o,e,c,n,d⟩:=p;exact ⟨o,e,.inr c,_,n,d⟩
 ·obtain ⟨o,e,c,n,d⟩:=p;exact ⟨o,e,.inl c,_,n,d⟩
def zd7 {P:Ah} {w:World} {K:A0} {elts:List Expr} {x1} {pos:Pos} {b1 b2:Bool} (z TI TO i1 i2 l1 l2:Addr) (D:ZipApart z TI TO i1 i2 l1 l2) :
  Turn P w K (.Tuple elts x1 pos) (Itz K b1 b2 l1 l2) [z,TI,TO,i1,i2] z (λ i h=>IsZip h z TI TO .none/\IsPair h TI (.ref i1) (.ref i2)/\(∃ a b,IsPair h TO a b)/\ItAt b1 h i1 l1 i/\ItAt b2 h i2 l2 i) where
 mem:=by simp
 obj:=λ i h st b hb=>by
  obtain ⟨hz,hTI,⟨a,b',hTO⟩,h1,h2⟩:=st;simp only [az,bV,cB] at hb;rcases hb with rfl|rfl|rfl|rfl|rfl
  ·exact ⟨_,hz,λ v z=>by cases z⟩
  ·exact ⟨_,hTI,λ v z=>by cases z⟩
  ·exact ⟨_,hTO,λ v z=>by cases z⟩
  ·exact h1.obj
  ·exact h2.obj
 keep:=λ i h h' st k=>by
  obtain ⟨hz,hTI,⟨a,b',hTO⟩,h1,h2⟩:=st;exact ⟨k z (by simp) _ hz,k TI (by simp) _ hTI,⟨a,b',k TO (by simp) _ hTO⟩,h1.at' λ o e=>k i1 (by simp) o e,h2.at' λ o e=>k i2 (by simp) o e⟩
 item:=by
  intro X hP hw hK hc i m5 s σ H E I hf st hg;subst hP hw hK;obtain ⟨hz,hTI,⟨a,b',hTO⟩,h1,h2⟩:=st;obtain ⟨xs,ys,x,y,q1,q2,hx,hy⟩:=hg;obtain ⟨its1,r1,p1⟩:=I.sqB q1;obtain ⟨its2,r2,p2⟩:=I.sqB q2;obtain ⟨u1,hu1,ru1⟩:=r1.get hx;obtain ⟨u2,hu2,ru2⟩:=r2.get hy;have hT:s.TypeIs (.ref z) "zip":=⟨_,hz,rfl⟩;unfold pyNext;refine af (fW (cJ (name:=Str.ofString "__next__") hT dW (dJ dW hT F.entry_zip_next
   (zd3 D hz hTI hTO h1 h2 p1 p2 (x:=u1) (y:=u2) (by simpa using hu1) (by simpa using hu2) λ h' a1 a2 a3 a4 a5 a6 hk=>aD ?_) (F.args_zip_next_1 _))))
  refine ⟨_,rfl,?_⟩;have I1:Inv X m5 σ (upd H s.heap.objs.size (.tup [x,y])) { s with heap:=h' }:=I.turnNew (t':=s.toks) hf (au _) (λ b o hb q=>hk b o (λ z=>hb (by simp [z])) (λ z=>hb (by simp [z])) (λ z=>hb (by simp [z])) (λ z=>hb (by simp [z])) q)
   ⟨by show 2<=sizeLine;decide,[u1,u2],.cons ru1 (.cons ru2 .nil),⟨_,a5,rfl,_,rfl⟩⟩
  have hn:H s.heap.objs.size=none:=I.hok.fresh (au _);have ne:∀ b∈[z,TI,TO,i1,i2],b≠s.heap.objs.size:=λ b hb=>by
   have:∃ o,s.heap.get? b=some o:=by
    simp only [az,bV,cB] at hb;rcases hb with rfl|rfl|rfl|rfl|rfl
    ·exact ⟨_,hz⟩
    ·exact ⟨_,hTI⟩
    ·exact ⟨_,hTO⟩
    ·exact let ⟨o,e,_⟩:=h1.obj;⟨o,e⟩
    ·exact let ⟨o,e,_⟩:=h2.obj;⟨o,e⟩
   obtain ⟨o,e⟩:=this;exact aP (aA e)
  have fr:∀ b∈[z,TI,TO,i1,i2],(upd H s.heap.objs.size (.tup [x,y])) b=none:=λ b hb=>by rw [mX (ne b hb)];exact (hf b hb).1
  have hTI':IsPair h' TI (.ref i1) (.ref i2):=hk _ _ D.TIz D.TITO D.TIi1 D.TIi2 hTI;refine wpAny_letOwnedTupleGo_zip a1 λ h'' hz'' hs''=>?_;refine ⟨.ref s.heap.objs.size,_,I1.turnL (t':=s.toks) (ch:=[z]) (λ b hb=>?_) (λ b o hb q=>(hs''.2 b (λ z=>hb (by simp [z]))).trans q),rfl,
   ⟨s.heap.objs.size,x,y,hn,rfl,λ zs hy=>by rw [I.sqB_inj hy q1];exact hx,λ zs hz=>by rw [I.sqB_inj hz q2];exact hy,rfl⟩,
   ⟨hz'',hs''.extBut _ _ D.TIz hTI',⟨_,_,hs''.extBut _ _ D.TOz a2⟩,a3.at' λ o e=>hs''.extBut _ _ D.i1z e,a4.at' λ o e=>hs''.extBut _ _ D.i2z e⟩,fr⟩
  obtain rfl:b=z:=by simpa using hb
  exact ⟨fr b (by simp),(hf b (by simp)).2⟩
 done:=by
  intro X hP hw hK hc i m5 s σ H E I hf st hg;subst hP hw hK;obtain ⟨hz,hTI,⟨a,b',hTO⟩,h1,h2⟩:=st;obtain ⟨xs,ys,q1,q2,hx⟩:=hg;obtain ⟨its1,r1,p1⟩:=I.sqB q1;obtain ⟨its2,r2,p2⟩:=I.sqB q2;have e1:=r1.length;have e2:=r2.length;have hT:s.TypeIs (.ref z) "zip":=⟨_,hz,rfl⟩;have hend:its1.toArray[i]?=none\/its2.toArray[i]?=none:=by
   rcases hx with h|h
   ·exact .inl (by simp;lia)
   ·exact .inr (by simp;lia)
  unfold pyNext;refine af (fW (cJ (name:=Str.ofString "__next__") hT dW
   (dJ dW hT F.entry_zip_next (zfw (I.ok.hd hc) D hz hTI hTO h1 h2 p1 p2 hend λ h' e hk he=>?_) (F.args_zip_next_1 _))))
  obtain ⟨o,ho,hcl⟩:=he;refine af (fe (T:="StopIteration") (b:=true) ⟨o,ho,hcl⟩ isSubtype_stop ?_);exact aD ⟨rfl,I.turnL (t':=s.toks) hf λ b o hb q=>hk b o (λ z=>hb (by simp [z])) (λ z=>hb (by simp [z])) (λ z=>hb (by simp [z])) (λ z=>hb (by simp [z])) q⟩
 self:=λ _ _ _ _ _ st h=>wpAny_pyIter_zip st.1 h
def zc2 (n l1 l2:Nat) (h1:l1 < n) (h2:l2 < n):ZipApart (n + 4) (n + 2) (n + 3) n (n + 1) l1 l2:=by
 constructor <;> (show (_:Nat)≠_) <;> lia
def iZip (X:Cx) (ta:TA):TI:=λ σ H R=>X.mg "zip"=none/\ta σ H λ vs H1=>∃ b1 b2 l1 l2 xs ys,vs=[.ref l1,.ref l2]/\SqB b1 X.K H1 l1 xs/\SqB b2 X.K H1 l2 ys/\R (Itz X.K b1 b2 l1 l2) H1
def zbF {a b:Expr} {elts:List Expr} {x1} {tp p pos:Pos} {ta:TA} (ha:PA X [a,b] ta) (hg:Gl X "zip":=by rfl)
  (hs:starEach [a,b] X.env=(false,eval a X.env) :: starEach [b] X.env:=by rfl) (hpl:(backTo pos (starEach [b] X.env)).any (·.1)=false:=by rfl) :
  PI X (.Tuple elts x1 tp) (.Call (.Name "zip" p) [a,b] [] pos) (iZip X ta):=by
 intro m5 s σ H R I h;refine bw (wQ I hg h.1 zhI ?_);refine a8 (w6 (ha pos m5 s σ H _ I h.2) λ us s1 vs H1 I1 r1 q1=>?_) hs hpl;obtain ⟨b1,b2,l1,l2,xs,ys,rfl,q1,q2,hR⟩:=q1;obtain ⟨u1,u2,rfl,rx,ry⟩:=zgu r1;cases rx;cases ry;obtain ⟨its1,rv1,p1⟩:=I1.sqB q1;obtain ⟨its2,rv2,p2⟩:=I1.sqB q2;obtain ⟨o1,e1,_⟩:=SqB.there I1 q1;obtain ⟨o2,e2,_⟩:=SqB.there I1 q2;have n1:=aA e1;have n2:=aA e2;refine zfj p1 p2 λ h' hz hTI hTO h1 h2 hsz hk=>wpAny_pyIter_zip hz ?_;refine ⟨s1.heap.objs.size + 4,[s1.heap.objs.size + 4,s1.heap.objs.size + 2,s1.heap.objs.size + 3,s1.heap.objs.size,s1.heap.objs.size + 1],_,_,H1,rfl,I1.kept (t':=s1.toks) hk,
  zd7 _ _ _ _ _ l1 l2 (zc2 _ _ _ n1 n2),⟨hz,hTI,⟨_,_,hTO⟩,h1,h2⟩,λ b hb=>?_,hR⟩
 have ge:s1.heap.objs.size<=b:=by
  simp only [az,bV,cB] at hb;rcases hb with rfl|rfl|rfl|rfl|rfl
  ·exact dr _ _
  ·exact dr _ _
  ·exact dr _ _
  ·exact au _
  ·exact dr _ _
 exact I1.fpOk ge (I1.hok.fresh ge)
section
variable {K:A0} {σ:St} {H:Hp}
def QX {a:Addr} {xs:Ar} {DN:St->Hp->Prop} {B:(St->Hp->Prop)->V->St->Hp->Prop} (Pv:Nat->St->Hp->Prop) (h0:Pv 0 σ H) (hl:∀ i σ H,i<=xs.length->Pv i σ H->SqL K H a xs)
  (hs:∀ i x t σ H,xs[i]?=some x->H t=none->Pv i σ H->B (Pv (i + 1)) (.ref t) σ (upd H t (.tup [.int i,x]))) (hd:∀ σ H,Pv xs.length σ H->DN σ H) :
  ∃ W:Nat->Nat->St->Hp->Prop,(∃ m,W 0 m σ H)/\∀ i m σ H,W i m σ H ->
   ((Ite K a).stop i H/\DN σ H)\/((Ite K a).go i H/\∃ N:St->Hp->Prop,(∀ σ' H',N σ' H'->∃ m',m' < m/\W (i + 1) m' σ' H')/\∀ x H',(Ite K a).yld i H x H'->B N x σ H'):=by
 refine ⟨λ i m σ H=>m=xs.length - i/\i<=xs.length/\Pv i σ H,⟨xs.length,by simp,bU _,h0⟩,?_⟩;rintro i m σ H ⟨rfl,hi,p⟩;have q:=hl i σ H hi p;by_cases hlt:i < xs.length
 ·refine .inr ⟨⟨xs,xs[i],q,by simp [hlt]⟩,Pv (i + 1),λ σ' H' p'=>⟨xs.length - (i + 1),by lia,rfl,hlt,p'⟩,λ v H' y=>?_⟩;obtain ⟨t,x,ht,rfl,hx,rfl⟩:=y;exact hs i x t σ _ (hx xs q) ht p
 ·have e:i=xs.length:=by lia
  subst e;exact .inl ⟨⟨xs,q,au _⟩,hd σ H p⟩
def zfa {b1 b2:Bool} {a1 a2:Addr} {xs ys:Ar} {DN:St->Hp->Prop} {B:(St->Hp->Prop)->V->St->Hp->Prop} (Pv:Nat->St->Hp->Prop) (h0:Pv 0 σ H) (hl:∀ i σ H,i<=min xs.length ys.length->Pv i σ H->SqB b1 K H a1 xs/\SqB b2 K H a2 ys)
  (hs:∀ i x y t σ H,xs[i]?=some x->ys[i]?=some y->H t=none->Pv i σ H->B (Pv (i + 1)) (.ref t) σ (upd H t (.tup [x,y]))) (hd:∀ σ H,Pv (min xs.length ys.length) σ H->DN σ H) :
  ∃ W:Nat->Nat->St->Hp->Prop,(∃ m,W 0 m σ H)/\∀ i m σ H,W i m σ H ->
   ((Itz K b1 b2 a1 a2).stop i H/\DN σ H)\/((Itz K b1 b2 a1 a2).go i H/\∃ N:St->Hp->Prop,(∀ σ' H',N σ' H'->∃ m',m' < m/\W (i + 1) m' σ' H')/\∀ x H',(Itz K b1 b2 a1 a2).yld i H x H'->B N x σ H'):=by
 refine ⟨λ i m σ H=>m=min xs.length ys.length - i/\i<=min xs.length ys.length/\Pv i σ H,⟨min xs.length ys.length,by simp,bU _,h0⟩,?_⟩;rintro i m σ H ⟨rfl,hi,p⟩;obtain ⟨q1,q2⟩:=hl i σ H hi p;by_cases hlt:i < min xs.length ys.length
 ·have l1:i < xs.length:=by lia
  have l2:i < ys.length:=by lia
  refine .inr ⟨⟨xs,ys,xs[i],ys[i],q1,q2,by simp [l1],by simp [l2]⟩,Pv (i + 1),λ σ' H' p'=>⟨min xs.length ys.length - (i + 1),by lia,rfl,hlt,p'⟩,λ v H' y=>?_⟩;obtain ⟨t,x,y,ht,rfl,hx,hy,rfl⟩:=y;exact hs i x y t σ _ (hx xs q1) (hy ys q2) ht p
 ·have e:i=min xs.length ys.length:=by lia
  subst e;exact .inl ⟨⟨xs,ys,q1,q2,by lia⟩,hd σ H p⟩
end
section
variable {X:Cx} {N:Aa} {scope:Scope} {s:Ap} {H:Hp} {fp:Ae} {m5:A4}
def cxC_K:(cxC X N scope s H fp m5).K=X.K:=rfl
def cxC_mg:(cxC X N scope s H fp m5).mg=X.mg:=rfl
def cxC_prog:(cxC X N scope s H fp m5).prog=X.prog:=rfl
def cxC_w:(cxC X N scope s H fp m5).w=X.w:=rfl
def cxC_base:(cxC X N scope s H fp m5).base=X.base:=rfl
end
end L2
namespace L2
open PySem PySem.Spec PySem.Calls PyProof.Rows
structure BCal (P:Ah) (w:World) (K:A0) (mg:A6) (base:Heap) (x m:Str) (k:Nat) (ps:Aa) (dvs:Ar) (sp:Sp):Prop where
 ex:∃ C f fd ds,mg x=some (.ref C)/\specialIn K (.ref C) "__getattribute__"=some (some (.builtin "type.__getattribute__"))/\readsIn K C (.type "type")=true /\
  findCls K (.ref C) (.type "type") m=some (.val (.ref f))/\handedIn (.ref f)=true/\FnOk P w K mg base (CXr P w) k f fd ps sp/\keepIn K (.ref f)=true/\Binds K fd ps ds/\Vals dvs ds
def BCal.mono {P:Ah} {w:World} {K:A0} {mg:A6} {base:Heap} {x m:Str} {j k:Nat} {ps:Aa} {dvs:Ar} {sp:Sp} (c:BCal P w K mg base x m j ps dvs sp) (h:j<=k:=by decide):BCal P w K mg base x m k ps dvs sp:=by
 obtain ⟨C,f,fd,ds,a,b,c,d,e,g,r⟩:=c.ex;exact ⟨C,f,fd,ds,a,b,c,d,e,g.mono h,r⟩
section
variable {X:Cx} {G:GK} {k:Nat} {x m:Str} {p pos apos:Pos} {e:Expr} {es:List Expr} {t:TA}
def tBase (X:Cx) (k:Nat) (x m:Str) (G:GK) (t:TA):TE:=λ σ H Q=>∃ ps dvs sp,BCal X.prog X.w X.K X.mg X.base x m k ps dvs sp/\t σ H λ vs H1=>sp (vs ++ dvs) H1 Q (λ cls _ H'=>G cls σ H')
def vR {pl:Sem Bool} (B:Bod X) (hr:Room k X.A) (ha:PA (X.exg G) (e :: es) t) (hg:Gl X x:=by rfl) (hdb:(x == ("__debug__":Str))=false:=by decide)
  (hst:starEach (e :: es) X.env=(false,eval e X.env) :: starEach es X.env:=by rfl) (hpl:(backTo pos (starEach es X.env)).any (·.1)=false:=by rfl)
  (ht:eval (.Call (.Attribute (.Name x p) m apos) (e :: es) [] pos) X.env=(do
   let ov <- eval (.Name x p) X.env
   standAt apos.atName
   let (f,first) <- holding [ov] (getMethod ov m pl)
   callWith pos f first (backTo pos (starEach (e :: es) X.env)) (backToKw pos (keywordEach [] X.env))):=by rfl) :
  PE (X.exg G) (.Call (.Attribute (.Name x p) m apos) (e :: es) [] pos) (tBase X k x m G t):=by
 intro m5 s σ H Q I h;obtain ⟨ps,dvs,sp,⟨C,f,fd,ds,hm,hga,hrd,hfc,hhd,F,hk,hb,hd⟩,h⟩:=h;refine dL (pl:=pl) (xR I hg hm ?_ hdb) ht;refine PySem.W.method_cls I.kIn hga (PySem.W.cls_value I.kIn hrd hfc hhd ?_);have I0:=I.tok (s.toks + 1);refine dB (first:=[]) (h₀:=X.base) I.ok.mod.kin hk (w6 (ha pos m5 _ σ H _ I0 h) λ us s1 vs H1 I1 r q=>⟨I1.kIn,?_⟩) hst hpl;exact Jl B F hr hb hd I1 r q
end
structure FB (K:A0) (mg:A6) (x m qual:Str) (st:Stmt) (ps:Aa):Prop where
 ex:∃ C f fd,mg x=some (.ref C)/\specialIn K (.ref C) "__getattribute__"=some (some (.builtin "type.__getattribute__"))/\readsIn K C (.type "type")=true /\
  findCls K (.ref C) (.type "type") m=some (.val (.ref f))/\Fun K m qual st f fd/\keepIn K (.ref f)=true/\Binds K fd ps []
def FB.cal {P:Ah} {w:World} {K:A0} {mg:A6} {base:Heap} {x m qual:Str} {st:Stmt} {ps:Aa} {k:Nat} {sp:Sp} (h:FB K mg x m qual st ps)
  (ok:∀ {f fd},Fun K m qual st f fd->FnOk P w K mg base (CXr P w) k f fd ps sp):BCal P w K mg base x m k ps [] sp:=by
 obtain ⟨C,f,fd,a,b,c,d,F,kp,bi⟩:=h.ex;exact ⟨C,f,fd,[],a,b,c,d,rfl,ok F,kp,bi,.nil⟩
def zik {K:A0} {mg:A6} {C:Addr} {x m qual:Str} {st:Stmt} {ps:Aa} {f:Addr} {oc:Ao} {od an:Ac} {osl:Ag} {kV doc pm cdv ct:Ao} (gl:mg x=some (.ref C))
  (ga:specialIn K (.ref C) "__getattribute__"=some (some (.builtin "type.__getattribute__"))) (rd:readsIn K C (.type "type")=true) (fc:findCls K (.ref C) (.type "type") m=some (.val (.ref f)))
  (l:K.lookup f=some ⟨oc,od,.func (fnOf m qual (z6 st) (zV st) (ze st) .none kV doc pm an cdv ct),osl⟩)
  (c:codeIn K cdv qual=true) (k:keepIn K (.ref f)=true)
  (hb:∀ (kV doc pm:Ao) (an:Ac) (cdv ct:Ao) (us:A9),us.length=ps.length->bindArgs (fnOf m qual (z6 st) (zV st) (ze st) .none kV doc pm an cdv ct) ⟨us,[]⟩=pure (ps.zip us)):FB K mg x m qual st ps :=
 ⟨C,f,_,gl,ga,rd,fc,wS l c k,k,(wS l c k).binds hb⟩
section
variable {X:Cx} {a b:Expr} {ta:TA} {p pos lp lpos:Pos}
noncomputable def rgL (lo:Int) (n:Nat):List V:=(List.range n).map λ (i:Nat)=>V.int (lo + (i:Int))
def zbg {lo:Int} {n:Nat} {mQ:Af} (h:ItemsOf (λ i v=>∃ t,v=.int (lo + i * 1) t) mQ n):Vals (rgL lo n) mQ.toList:=by
 have key:∀ (k:Nat) (l:A9) (m:Nat),l.length=m->(∀ i v,l[i]?=some v->∃ t,v=Value.int (lo + ((k + i:Nat):Int)) t)->Vals ((List.range' k m).map λ (i:Nat)=>V.int (lo + (i:Int))) l:=by
  intro k l
  induction l generalizing k with
  | nil=>intro m hm _;simp at hm;subst hm;exact .nil
  | cons x r ih =>
   intro m hm hv;obtain ⟨m,rfl⟩:∃ m',m=m' + 1:=⟨r.length,by simpa using hm.symm⟩;rw [List.range'_succ,bR];refine .cons ?_ (ih (k + 1) m (by simpa using hm) λ i v e=>?_)
   ·obtain ⟨t,e⟩:=hv 0 x rfl;exact ⟨t,by simpa using e⟩
   ·obtain ⟨t,e'⟩:=hv (i + 1) v (by simpa using e);exact ⟨t,by rw [e'];congr 2;lia⟩
 have:=key 0 mQ.toList n (by simpa using h.1) λ i v e=>by
  obtain ⟨t,e'⟩:=h.2 i v (by simpa using e);exact ⟨t,by rw [e'];simp⟩
 rw [rgL,List.range_eq_range'];exact this
def tRg1 (X:Cx) (ta:TA):TE:=λ σ H Q=>X.mg "range"=none/\ta σ H λ vs H1=>lq vs λ v=>iq v λ j=>∀ p,H1 p=none->Q (.ref p) (upd H1 p (.rng 0 j))
def zg7 (ha:PA X [a] ta) (hg:Gl X "range":=by rfl) (hs:starEach [a] X.env=[(false,eval a X.env)]:=by rfl):PE X (.Call (.Name "range" p) [a] [] pos) (tRg1 X ta):=by
 intro m5 s σ H Q I h;refine Call_ (wQ I hg h.1 boot_range (a8 (w6 (ha pos m5 s σ H _ I h.2) λ us s1 vs H1 I1 r1 q1=>?_) hs rfl));obtain ⟨j,e,q⟩:=zhj q1;subst e;cases r1 with
 | cons r rr =>
  cases rr;obtain ⟨t,rfl⟩:=r;exact call_range_1 ⟨.ref _,_,I1.laid (o:=.rng 0 j) (λ b o e=>aj _ e) (au _) ⟨_,_,_,aE _ rfl⟩,rfl,q _ I1.fresh⟩
def zbB {lo:Int} {n:Nat}:(rgL lo n).length=n:=by simp [rgL]
def zfp (hc:X.calm=true):CallR X (.type "list") (λ xs H Q=>∃ p lo hi,xs=[.ref p]/\H p=some (.rng lo hi)/\(-(2 ^ 62)<=lo/\lo < 2 ^ 62/\-(2 ^ 62)<=hi/\hi < 2 ^ 62/\(hi - lo).toNat<=1000)/\∀ l,H l=none->Q (.ref l) (upd H l (.lst (rgL lo (hi - lo).toNat)))):=by
 intro m5 s σ H xs us Q I r h;obtain ⟨p,lo,hi,rfl,hq,⟨h1,h2,h3,h4,h5⟩,q⟩:=h;obtain ⟨u,rfl,rx⟩:=Jy r;cases rx;obtain ⟨t,u,v,e⟩:=I.hok p _ hq;refine call_list_range (n:=(hi - lo).toNat) (I.ok.hd hc) e (small_one h1 h2 h3 h4) (by rw [rangeSize_one];split <;> lia) (by lia) λ h' tk acc' c' hk hS hit=>?_;exact ⟨.ref _,_,I.laid (o:=.lst (rgL lo (hi - lo).toNat)) (t':=tk) hk (au _) ⟨by rw [zbB];exact bI (zk h5),acc'.toList,c',zbg hit,by simpa using hS⟩,rfl,q _ I.fresh⟩
end
end L2
namespace L2
open PySem PySem.Spec PyProof.Rows
noncomputable def Itd (lo:Int) (n:Nat):It:=⟨λ i _=>i < n,λ i H x H'=>H'=H/\x=.int (lo - i),λ i _=>n<=i⟩
def zc5 {P:Ah} {w:World} {K:A0} {tg:Expr} (it:Addr) (lo:Int) (n:Nat):Turn P w K tg (Itd lo n) [it] it (λ i h=>IsRangeIter h it (lo + (i:Nat) * (-1)) ((n:Int) - (i:Nat)) (-1)) where
 mem:=by simp
 obj:=λ i h st b hb=>by
  have e:b=it:=by simpa using hb
  subst e;exact ⟨_,st,λ v z=>by
   have z':Data.fields _=Data.cell v:=z;cases z'⟩
 keep:=λ i h h' st k=>k it (by simp) _ st
 item:=by
  intro X hP hw hK hc i m5 s σ H E I hf st hg;subst hP hw hK;obtain ⟨f0,f1,f2,f3,f4,f5⟩:=hf it (by simp);have W:=Walks.range (prog:=X.prog) (w:=X.w) (I.ok.hd hc) it lo (-1) n;refine W.item i s _ _ hg st λ v h' tk hv st' kk=>?_;obtain ⟨t,rfl⟩:=hv;have I1:Inv X m5 σ H { s with heap:=h',toks:=tk }:=I.turned (λ b o hb e=>kk b o (by simpa using hb) e) f0 f1 f3 f4 f5;refine ⟨_,rfl,zcC (s:={ s with heap:=h',toks:=tk }) (n:="range_iterator") st' rfl rfl (by decide) ⟨.int (lo - i),H,I1,⟨t,?_⟩,⟨rfl,rfl⟩,st',λ b hb=>(hf b hb).1⟩⟩
  congr 1;lia
 done:=by
  intro X hP hw hK hc i m5 s σ H E I hf st hg;subst hP hw hK;obtain ⟨f0,f1,f2,f3,f4,f5⟩:=hf it (by simp);exact wpAny_pyNext_range_end (I.ok.hd hc) st (by have:n<=i:=hg;lia) λ h' eb=>⟨rfl,I.turned (t':=s.toks) (λ b o hb e=>eb b o hb e) f0 f1 f3 f4 f5⟩
 self:=λ _ _ _ _ _ st h=>wpAny_pyIter_rangeiter st h
def vp (a b:Int):Builtin.Range.rangeSize a b (-1)=((a - b).toNat:Int):=by
 unfold Builtin.Range.rangeSize;rw [ap (by decide),show (- (-1:Int))=1 from rfl,Int.ediv_one]
 split <;> lia
def zbo {a b:Int} (ha:-(2 ^ 62)<=a) (ha':a < 2 ^ 62) (hb:-(2 ^ 62)<=b) (hb':b < 2 ^ 62):Builtin.Range.small a b (-1)=true:=by
 unfold Builtin.Range.small;rw [vp];simp only [Builtin.Range.rangeFitsLong,cO,Bool.or_eq_true,di,bA,show ¬ ((-1:Int) > 0) by decide,dM]
 lia
section
variable {X:Cx} {tg:Expr}
def zgg {m5:A4} {σ:St} {H:Hp} {s:Ap} {R:It->Hp->Prop} {E:A5} {lo hi:Int} {t u v:Tok} {tk:Nat} (I:Inv X m5 σ H s) (h1:-(2 ^ 62)<=lo) (h2:lo < 2 ^ 62) (h3:-(2 ^ 62)<=hi) (h4:hi < 2 ^ 62)
  (q:R (Itd lo (lo - hi).toNat) H):wpAny (model X.prog X.w) X.A (pyIter (.ref s.heap.objs.size)) (PIE X m5 σ tg R) E { s with heap:=s.heap.push { cls:=.type "range",data:=.fields #[.int lo t,.int hi u,.int (-1) v] },toks:=tk }:=by
 refine wpAny_pyIter_range (IsRange.new ..) (zbo h1 h2 h3 h4) ?_;have I1:Inv X m5 σ H { s with heap:=s.heap.push { cls:=.type "range",data:=.fields #[.int lo t,.int hi u,.int (-1) v] },toks:=tk }:=I.kept λ b o e=>aj _ e;refine ⟨(s.heap.push { cls:=.type "range",data:=.fields #[.int lo t,.int hi u,.int (-1) v] }).objs.size,[(s.heap.push { cls:=.type "range",data:=.fields #[.int lo t,.int hi u,.int (-1) v] }).objs.size],_,_,H,rfl,
  I1.kept (t':=tk) λ b o e=>aj _ e,zc5 _ lo (lo - hi).toNat,?_,λ b hb=>?_,q⟩
 ·have e1:lo + ((0:Nat):Int) * (-1)=lo:=by simp
  have e2:(((lo - hi).toNat:Nat):Int) - ((0:Nat):Int)=Builtin.Range.rangeSize lo hi (-1):=by rw [vp];lia
  show IsRangeIter _ _ (lo + ((0:Nat):Int) * (-1)) ((((lo - hi).toNat:Nat):Int) - ((0:Nat):Int)) (-1)
  rw [e1,e2];exact aE _ rfl
 ·have e:b=(s.heap.push { cls:=.type "range",data:=.fields #[.int lo t,.int hi u,.int (-1) v] }).objs.size:=by simpa using hb
  subst e;exact I1.fpOk (au _) (I1.hok.fresh (au _))
def iRng3 (X:Cx) (ta:TA):TI:=λ σ H R=>X.mg "range"=none/\ta σ H λ vs H1=>∃ i j:Int,vs=[.int i,.int j,.int (-1)]/\(-1000<=i/\i < 1000/\-1000<=j/\j < 1000)/\R (Itd i (i - j).toNat) H1
theorem zg5 {a b c:Expr} {ta:TA} {p pos:Pos} (ha:PA X [a,b,c] ta) (hg:Gl X "range":=by rfl) (hs:starEach [a,b,c] X.env=[(false,eval a X.env),(false,eval b X.env),(false,eval c X.env)]:=by rfl) (hs2:starEach [b,c] X.env=[(false,eval b X.env),(false,eval c X.env)]:=by rfl) :
  PI X tg (.Call (.Name "range" p) [a,b,c] [] pos) (iRng3 X ta):=by
 intro m5 s σ H R I h;refine Call_ (wQ I hg h.1 boot_range (a8 (w6 (ha pos m5 s σ H _ I h.2) λ us s1 vs H1 I1 r1 q1=>?_) (by rw [hs,hs2]) (by rw [hs2];rfl)));obtain ⟨i,j,e,⟨q1,q2,q3,q4⟩,q⟩:=q1;subst e;cases r1 with
 | cons r rr =>
  cases rr with
  | cons r' rr =>
   cases rr with
   | cons r'' rr =>
    cases rr;obtain ⟨t,rfl⟩:=r;obtain ⟨t',rfl⟩:=r';obtain ⟨t'',rfl⟩:=r'';exact call_range_3 (by decide) (zgg I1 (by lia) (by lia) (by lia) (by lia) q) (Or.inl (fu (by lia)))
def zih {K:A0} {σ:St} {H:Hp} {lo:Int} {n:Nat} {DN:St->Hp->Prop} {B:(St->Hp->Prop)->V->St->Hp->Prop} (Pv:Nat->St->Hp->Prop) (h0:Pv 0 σ H)
  (hs:∀ i σ H,i < n->Pv i σ H->B (Pv (i + 1)) (.int (lo - i)) σ H) (hd:∀ σ H,Pv n σ H->DN σ H) :
  ∃ W:Nat->Nat->St->Hp->Prop,(∃ m,W 0 m σ H)/\∀ i m σ H,W i m σ H ->
   ((Itd lo n).stop i H/\DN σ H)\/((Itd lo n).go i H/\∃ N:St->Hp->Prop,(∀ σ' H',N σ' H'->∃ m',m' < m/\W (i + 1) m' σ' H')/\∀ x H',(Itd lo n).yld i H x H'->B N x σ H'):=by
 refine ⟨λ i m σ H=>m=n - i/\i<=n/\Pv i σ H,⟨n,by simp,bU _,h0⟩,?_⟩;rintro i m σ H ⟨rfl,hi,p⟩;by_cases hlt:i < n
 ·refine .inr ⟨hlt,Pv (i + 1),λ σ' H' p'=>⟨n - (i + 1),by lia,rfl,hlt,p'⟩,λ x H' y=>?_⟩;obtain ⟨e,y⟩:=y;subst e y;exact hs i σ _ hlt p
 ·have e:i=n:=by lia
  subst e;exact .inl ⟨au _,hd σ H p⟩
end
section
variable {X:Cx} {tg:Expr}
end
end L2
namespace L2
open PySem PySem.Spec PySem.Calls PyProof.Rows
variable {st:Stmt}
theorem ZJ:∀ {us:A9} {ns:A8},IntsAre us ns->Vals (ns.map V.int) us
 | _,_,.nil=>.nil
 | _,_,.cons n t h=>.cons ⟨t,rfl⟩ (ZJ h)
section
variable {X:Cx}
def zdZ:CallR X (.builtin "sorted") (λ xs H Q=>∃ p,∃ ns:List Int,xs=[.ref p]/\SqL X.K H p (ns.map V.int)/\ns.length < 64 /\
  ∀ (ms:A8) l,ms.Perm ns->ms.Pairwise (·<=·)->H l=none->Q (.ref l) (upd H l (.lst (ms.map V.int)))):=by
 intro m5 s σ H xs us Q I r h;obtain ⟨p,ns,rfl,hp,h64,q⟩:=h;obtain ⟨u,rfl,rx⟩:=Jy r;cases rx;obtain ⟨mM,rv,hl,hz⟩:=I.list hp;have hlen:mM.length=ns.length:=by have:=rv.length;rw [ai] at this;exact this.symm
 refine sorted_ints hl.isList (zb0 rv) (by lia) λ out ms a1 a2 a3=>?_;obtain ⟨e,he⟩:=sortedAll_at s.heap mM out;exact ⟨.ref _,_,I.laid (a:=s.heap.objs.size + 1) (o:=.lst (ms.map V.int)) (t':=s.toks) (λ b o h=>sortedAll_old h) (cc _) ⟨by rw [ai,a2.length_eq];exact bI (zk (by lia)),out.toList,e,ZJ a1,by simpa using he⟩,rfl,q ms _ a2 a3 (I.hok.fresh (cc _))⟩
end
structure FunD (K:A0) (x qual:Str) (st:Stmt) (f:Addr) (fd:FuncData):Prop where
 ex:∃ (oc:Ao) (od:Ac) (dV kV doc pm:Ao) (an:Ac) (cdv ct:Ao) (osl:Ag),
  fd=fnOf x qual (z6 st) (zV st) (ze st) dV kV doc pm an cdv ct/\K.lookup f=some ⟨oc,od,.func fd,osl⟩/\codeIn K cdv qual=true
 kp:keepIn K (.ref f)=true
section
variable {P:Ah} {w:World} {K:A0} {mg:A6} {base:Heap}
def FunD.okx {x qual:Str} {f:Addr} {fd:FuncData} {N ps:Aa} {k:Nat} {sp:Sp} (F:FunD K x qual st f fd) (S:FnScope N ps (ze st)) (len:∀ vs H Q E,sp vs H Q E->vs.length=ps.length)
  (hbody:∀ (cdv:Ao) (A:Aq) (outer:List Env) (s:Ap) (H:Hp) (vs:Ar) (Q:VK) (E:XK),Room k (A.deeper (envOfC qual (ze st) s.heap.objs.size f cdv))->sp vs H Q E ->
   ∃ t,PSs ((cxR P w K mg base N qual (ze st) f cdv A outer s H E).exg λ cls _ H'=>E cls none H') (zV st) t/\t { nx:=λ _ H'=>Q .non H',rt:=Q } (start N vs) H):FnOk P w K mg base (CXr P w) (k + 1) f fd ps sp:=by
 obtain ⟨oc,od,dV,kV,doc,pm,an,cdv,ct,osl,rfl,lk,hcd⟩:=F.ex;refine zfb lk hcd S len λ A outer s H vs Q E hr hsp=>?_;obtain ⟨t,h,q⟩:=hbody cdv A outer s H vs Q E hr hsp;refine ⟨t,λ m5 s σ H' D I hw=>?_,q⟩;refine aV (h m5 s σ H' D (I.wish _) hw) (λ _ _ z=>z.unwish) λ e s' z=>?_;refine af (aV (show wpAny _ _ _ _ _ _ from z) (λ _ s1 y1=>aV y1 (λ _ s'' y=>?_) λ _ _ y=>y.elim) λ _ _ y=>y.elim);obtain ⟨a,cls,σ2,H2,rfl,J,xx,g⟩:=y;exact ⟨a,cls,H2,rfl,J.os,J.bare,J.base,J.hok,xx.less (λ p hp=>absurd hp (by simp)),g⟩
structure FD (K:A0) (mg:A6) (x:Str) (st:Stmt) (ps:Aa) (dvs:Ar):Prop where
 ex:∃ f fd ds,FunD K x x st f fd/\mg x=some (.ref f)/\Binds K fd ps []/\Binds K fd ps ds/\Vals dvs ds
def FD.cal {x:Str} {ps:Aa} {dvs:Ar} {k:Nat} {sp:Sp} (h:FD K mg x st ps dvs) (ok:∀ {f fd},FunD K x x st f fd->FnOk P w K mg base (CXr P w) k f fd ps sp) :
  Cal P w K mg base x k ps [] sp:=by
 obtain ⟨f,fd,_,F,m,b,_⟩:=h.ex;exact ⟨f,fd,[],ok F,m,F.kp,b,.nil⟩
def FD.cald {x:Str} {ps:Aa} {dvs:Ar} {k:Nat} {sp:Sp} (h:FD K mg x st ps dvs) (ok:∀ {f fd},FunD K x x st f fd->FnOk P w K mg base (CXr P w) k f fd ps sp) :
  Cal P w K mg base x k ps dvs sp:=by
 obtain ⟨f,fd,ds,F,m,_,b,v⟩:=h.ex;exact ⟨f,fd,ds,ok F,m,F.kp,b,v⟩
def zgG {h:Heap} {x:Str} {ps:Aa} {dvs:Ar} {f dT:Addr} {oc toc:Ao} {od an tod:Ac} {osl tsl:Ag} {items:Af} {tn:Nat} {kV doc pm cdv ct:Ao} (X:K.In h) (G:h.Ns mainGlobals mg)
  (a:nsIn K mainGlobals x=some (some (.ref f))) (l:K.lookup f=some ⟨oc,od,.func (fnOf x x (z6 st) (zV st) (ze st) (.ref dT) kV doc pm an cdv ct),osl⟩)
  (c:codeIn K cdv x=true) (k:keepIn K (.ref f)=true) (lt:K.lookup dT=some ⟨toc,tod,.seq items tn,tsl⟩) (hv:Vals dvs items.toList)
  (hb:∀ (s:Ap) (us:A9),K.In s.heap->us.length=ps.length->BindsTo s (fnOf x x (z6 st) (zV st) (ze st) (.ref dT) kV doc pm an cdv ct) ⟨us,[]⟩ (ps.zip us))
  (hd:∀ (s:Ap) (us:A9),K.In s.heap->(us ++ items.toList).length=ps.length->BindsTo s (fnOf x x (z6 st) (zV st) (ze st) (.ref dT) kV doc pm an cdv ct) ⟨us,[]⟩ (ps.zip (us ++ items.toList))):FD K mg x st ps dvs :=
 ⟨f,_,items.toList,⟨⟨oc,od,.ref dT,kV,doc,pm,an,cdv,ct,osl,rfl,l,c⟩,k⟩,cu X G a,(λ s us hK hl=>by rw [bY] at hl ⊢;exact hb s us hK hl),hd,hv⟩
end
end L2
namespace L2
open PySem PySem.Spec PySem.Calls PyProof.Rows
variable {items:Af}
def zbS:typeLookup (.type "list_reverseiterator") "__len__"=pure none:=by rw [typeLookup_type,builtinLookup_eq_fast];kernel_rfl
def zeR:typeLookup (.type "list_reverseiterator") "__length_hint__"=pure (some (.builtin "list_reverseiterator.__length_hint__")):=by rw [typeLookup_type,builtinLookup_eq_fast];kernel_rfl
def WV:isSubtype (.type "list_reverseiterator") (.type "list_reverseiterator")=pure true:=by rw [isSubtype_type];kernel_rfl
section
variable {prog:Ah} {w:World} {A:Aq} {E:A5} {s:Ap} {R:Result->Shared->Prop}
def ze4 {D l:Addr} {i:Int} {Q:Bool->Shared->Prop} (hit:s.heap.IsRevIter D l i) (h:Q false s):wpAny (model prog w) A (Builtin.List.listLengthHint (.ref D)) Q E s:=by
 unfold Builtin.List.listLengthHint;refine af (dR hit.typeIs zbS ?_);show wpAny _ _ (specialOf (Value.ref D) (Str.ofString "__length_hint__") >>= _) _ _ _
 refine af (dR hit.typeIs zeR ?_);generalize hid:("list_reverseiterator.__length_hint__":String)=id0
 wp_delta
 rw [show splitId id0=some ("list_reverseiterator","__length_hint__") from by subst hid;decide +kernel];subst hid;refine af (fe (T:="list_reverseiterator") (b:=true) hit.typeIs WV ?_);refine dS (λ hab=>absurd hab (by decide)) (λ _=>?_);refine dS (λ _=>?_) (λ hab=>absurd (by decide +kernel) hab);exact dS (λ hab=>absurd hab (by decide +kernel)) (λ _=>aD h)
def zb7 {D l:Addr} (hh:A.handled=none) (hne:l≠D) (hn:items.size<=sizeLine) (S:Addr) (res:Ao) (c₀:Nat) (hit:s.heap.IsRevIter D l ((items.size:Int) - 1)) (hl:s.heap.IsList l items) (hSD:S≠D) (hSl:S≠l)
  (hS:s.heap.get? S=some { cls:=.type "list",data:=.seq #[] c₀ })
  (hR:∀ h' tk acc' c',(∀ b o,b≠S->b≠D->s.heap.get? b=some o->h'.get? b=some o)->h'.get? S=some { cls:=.type "list",dict:=none,data:=.seq acc' c',slots:=#[] }->ItemsOf (λ i v=>items[items.size - 1 - i]?=some v) acc' items.size->R (.ok (.ret res)) { s with heap:=h',toks:=tk }) :
  wpAny (model prog w) A.in1 (Builtin.List.listExtendWith (.ref S) (.ref D) res)
   (λ fin s'=>match fin with | .done f=>R (.ok f) s' | .again c'=>c'.quiet=true/\codeAny (model prog w) A c' R s') (λ e s'=>R (.error e) s') s:=by
 have W:=(Walks.listRev (prog:=prog) (w:=w) (A:=A.in1) hh D l hne items).toS;have hSf:S ∉ [D,l]:=λ hm=>by
  rcases az.mp hm with e|hm
  ·exact hSD e
  ·exact hSl (ay.mp hm)
 unfold Builtin.List.listExtendWith;refine af (wpAny_typeOf hit.typeIs ?_);have h1:Builtin.List.listSameRef (.ref S) (.ref D)=false:=by simp [Builtin.List.listSameRef,hSD]
 have h2:(Value.type "list_reverseiterator" == Value.type "list")=false:=by decide
 have h3:(Value.type "list_reverseiterator" == Value.type "tuple")=false:=by decide
 simp only [h1,h2,h3,Bool.or_false,cA,dM];refine af (wpAny_pyIter_revIter hit ?_);refine af (dF (ze4 hit ?_));refine dS (λ hab=>absurd hab (by decide)) (λ _=>aD ⟨plainId_quiet F.plain_extend_loop _,?_⟩);have hit0:s.heap.IsRevIter D l ((items.size:Int) - 1 - ((0:Nat):Int)):=by simpa using hit
 refine codeAny_extend_loopS W hn S hSf res items.size 0 _ #[] c₀ rfl (bU _) ⟨bU _,hit0,hl⟩ hS (ItemsOf.nil _) λ s' acc' c' hm hS' hacc=>?_;rw [Moved.eq_with hm];refine hR s'.heap s'.toks acc' c' (λ b o hb hd e=>hm.heap b o (λ hmem=>?_) e) hS' hacc;rcases az.mp hmem with e'|hmem
 ·exact hb e'
 ·exact hd (ay.mp hmem)
def X6 {D l:Addr} (hh:A.handled=none) (hne:l≠D) (hn:items.size<=sizeLine) (S:Addr) (hit:s.heap.IsRevIter D l ((items.size:Int) - 1)) (hl:s.heap.IsList l items) (hSD:S≠D) (hSl:S≠l)
  (hS:s.heap.get? S=some { cls:=.type "list",data:=.seq #[] })
  (hR:∀ h' tk acc' c',(∀ b o,b≠S->b≠D->s.heap.get? b=some o->h'.get? b=some o)->h'.get? S=some { cls:=.type "list",dict:=none,data:=.seq acc' c',slots:=#[] }->ItemsOf (λ i v=>items[items.size - 1 - i]?=some v) acc' items.size->R (.ok (.ret .none)) { s with heap:=h',toks:=tk }) :
  wpAny (model prog w) A.in1 (Builtin.«list.__init__» ⟨[.ref S,.ref D],[]⟩)
   (λ fin s'=>match fin with | .done f=>R (.ok f) s' | .again c'=>c'.quiet=true/\codeAny (model prog w) A c' R s') (λ e s'=>R (.error e) s') s:=by
 show wpAny _ A.in1 (do let old <- Builtin.List.listItems (.ref S);Builtin.List.listUpdate (.ref S) (λ _=>#[]);letGo old.toList.reverse;Builtin.List.listExtendWith (.ref S) (.ref D) .none) _ _ s
 refine af ?_;unfold Builtin.List.listItems;refine af (bE hS rfl (aD ?_));show wpAny _ A.in1 (updateSeq S (λ _=>#[]) >>= λ _=>letGo (#[]:Af).toList.reverse >>= λ _=>Builtin.List.listExtendWith (.ref S) (.ref D) .none) _ _ s
 refine af (wpAny_updateSeq hS rfl ?_);have hS₂:=bu (Obj.mapSeq (λ _=>(#[]:Af))) hS rfl;have oth:∀ b o,b≠S->s.heap.get? b=some o->(s.heap.update S (Obj.mapSeq (λ _=>(#[]:Af)))).get? b=some o :=
  λ b o hb e=>(bc _ _ (aX hb)).trans e
 refine af (fk ?_);refine zb7 (items:=items) (l:=l) hh hne hn S .none _ (hit.at λ o e=>oth _ _ (aX hSD) e) (hl.at λ o e=>oth _ _ (aX hSl) e) hSD hSl hS₂ λ h' tk acc' c' hk hS' hacc=>?_;exact hR h' tk acc' c' (λ b o hb hd e=>hk b o hb hd (oth b o hb e)) hS' hacc
def X9 {D l:Addr} {Q:A5} (hh:A.handled=none) (hne:l≠D) (hn:items.size<=sizeLine) (hit:s.heap.IsRevIter D l ((items.size:Int) - 1)) (hl:s.heap.IsList l items)
  (hQ:∀ h' tk acc' c',(∀ b o,b≠D->s.heap.get? b=some o->h'.get? b=some o)->h'.get? s.heap.objs.size=some { cls:=.type "list",dict:=none,data:=.seq acc' c',slots:=#[] }->ItemsOf (λ i v=>items[items.size - 1 - i]?=some v) acc' items.size->Q (.ref s.heap.objs.size) { s with heap:=h',toks:=tk }) :
  wpAny (model prog w) A (call (.type "list") [.ref D]) Q E s:=by
 have hlD:D < s.heap.objs.size:=by obtain ⟨o,e,_⟩:=hit;exact aA e
 have hll:l < s.heap.objs.size:=by obtain ⟨o,e,_⟩:=hl;exact aA e
 refine callType_codes (Q₁:=λ obj s₁=>obj=.ref s.heap.objs.size/\s₁={ s with heap:=s.heap.push { cls:=.type "list",data:=.seq #[] } }) F.called_list (F.typeCall_list_1 _) F.entry_list_init
  (code_list_new _ ⟨rfl,rfl⟩) λ obj s₁ h₁=>?_
 obtain ⟨rfl,rfl⟩:=h₁;have hS:(s.heap.push { cls:=.type "list",data:=.seq #[] }).get? s.heap.objs.size=some { cls:=.type "list",data:=.seq #[] }:=aE _ rfl;refine ⟨⟨_,hS,rfl⟩,F.args_list_init_2 _ _,X6 (A:=A.in1) (l:=l) hh hne hn _ (hit.at λ o e=>aj _ e) (hl.at λ o e=>aj _ e) (cE hlD) (cE hll) hS λ h' tk acc' c' hk hS' hacc=>?_⟩;exact ⟨rfl,hQ h' tk acc' c' (λ b o hb e=>hk b o (aP (aA e)) hb (aj _ e)) hS' hacc⟩
end
section
variable {X:Cx} {a:Expr} {ta:TA} {p p2 pos pos2:Pos}
def zd5 {xs:Ar} {mM:A9} {mQ:Af} (r:Vals xs mM) (h:ItemsOf (λ i v=>mM.toArray[mM.toArray.size - 1 - i]?=some v) mQ mM.toArray.size):Vals xs.reverse mQ.toList:=by
 have e:mQ.toList=mM.reverse:=by
  apply eT;intro i;have hsz:mQ.toList.length=mM.length:=by simpa using h.1
  by_cases hi:i < mM.length
  ·have hi':i < mQ.toList.length:=by lia
   rw [ac hi',eV hi];have:=h.2 i (mQ.toList[i]) (by rw [<- cM,ac hi']);simp at this;exact this.symm
  ·rw [aZ (by lia),aZ (by simp;lia)]
 rw [e];exact r.reverse
def zhV (X:Cx) (ta:TA):TE:=λ σ H Q=>X.mg "list"=none/\X.mg "reversed"=none/\ta σ H λ vs H1=>∃ l xs,vs=[.ref l]/\SqL X.K H1 l xs/\∀ q,H1 q=none->Q (.ref q) (upd H1 q (.lst xs.reverse))
def za9:bootBuiltins "reversed"=some (.type "reversed"):=by decide +kernel
def zfY (hc:X.calm=true) (ha:PA X [a] ta) (hg:Gl X "list":=by rfl) (hg2:Gl X "reversed":=by rfl)
  (hs:starEach [Expr.Call (.Name "reversed" p2) [a] [] pos2] X.env=[(false,eval (Expr.Call (.Name "reversed" p2) [a] [] pos2) X.env)]:=by rfl) (hs2:starEach [a] X.env=[(false,eval a X.env)]:=by rfl) :
  PE X (.Call (.Name "list" p) [.Call (.Name "reversed" p2) [a] [] pos2] [] pos) (zhV X ta):=by
 intro m5 s σ H Q I h;refine Call_ (wQ I hg h.1 xU (a8 ?_ hs rfl));rw [hs];refine Calls.spliced_cons (Call_ (wQ I hg2 h.2.1 za9 (a8 (w6 (ha pos2 m5 s σ H _ I h.2.2) λ us s1 vs H1 I1 r1 q1=>?_) hs2 rfl)));obtain ⟨l,xs,e,hq,q⟩:=q1;subst e;obtain ⟨u,rfl,rx⟩:=Jy r1;cases rx;obtain ⟨mM,rv,hl,hz⟩:=I1.list hq;have hll:l < s1.heap.objs.size:=by obtain ⟨o,e,_⟩:=hl.isList;exact aA e
 have hlen:=rv.length;refine call_reversed_list hl.isList ?_;refine Calls.spliced_nil ?_;refine X9 (l:=l) (items:=mM.toArray) (I1.ok.hd hc) (aP hll) (by rw [av,<- hlen];exact hz) ⟨_,aE _ rfl,rfl,rfl⟩ (hl.isList.push _) λ h' tk acc' c' hk hS hit=>?_;refine ⟨.ref _,_,I1.laid (o:=.lst xs.reverse) (t':=tk) (λ b o e=>hk b o (aP (aA e)) (aj _ e)) ?_ ⟨?_,acc'.toList,c',zd5 rv hit,by simpa using hS⟩,rfl,q _ (I1.hok.fresh ?_)⟩
 ·simp only [bH];exact cc _
 ·rw [d5];exact hz
 ·simp only [bH];exact cc _
end
section
variable {X:Cx}
end
end L2
namespace L2
open PySem PySem.Spec PyProof.Rows
variable {H:Hp} {mK:Au} {v:V} {b l:Addr} {w:World} {u:Ao} {i:Nat}
inductive D where
 | non|bl (b:Bool)|int (i:Int)|str (x:Str)|lst (xs:List D)|tup (xs:List D)|ob (C:Addr) (fs:List (Str × D))
inductive Rep (H:Hp) (p:A7):V->D->Prop where
 | non:Rep H p .non .non
 | bl {b:Bool}:Rep H p (.bl b) (.bl b)
 | int {i:Int}:Rep H p (.int i) (.int i)
 | str {x:Str}:Rep H p (.str x) (.str x)
 | lst {l:Addr} {vs:Ar} {ds:List D}:p l->H l=some (.lst vs)->vs.length=ds.length->(∀ (i:Nat) v d,vs[i]?=some v->ds[i]?=some d->Rep H p v d)->Rep H p (.ref l) (.lst ds)
 | tup {l:Addr} {vs:Ar} {ds:List D}:p l->H l=some (.tup vs)->vs.length=ds.length->(∀ (i:Nat) v d,vs[i]?=some v->ds[i]?=some d->Rep H p v d)->Rep H p (.ref l) (.tup ds)
 | ob {l C dx:Addr} {fs:At} {ds:List (Str × D)}:p l->H l=some (.ins C dx fs)->fs.map (·.1)=ds.map (·.1)->(∀ (i:Nat) f g,fs[i]?=some f->ds[i]?=some g->Rep H p f.2 g.2)->Rep H p (.ref l) (.ob C ds)
def Rep.keep {H H':Hp} {p q:A7} (s:∀ b o,p b->H b=some o->q b/\H' b=some o) {d:D} (h:Rep H p v d):Rep H' q v d:=by
 induction h with
 | non=>exact .non
 | bl=>exact .bl
 | int=>exact .int
 | str=>exact .str
 | lst pl hl e _ ih=>exact .lst (s _ _ pl hl).1 (s _ _ pl hl).2 e ih
 | tup pl hl e _ ih=>exact .tup (s _ _ pl hl).1 (s _ _ pl hl).2 e ih
 | ob pl hl e _ ih=>exact .ob (s _ _ pl hl).1 (s _ _ pl hl).2 e ih
structure Reps (H:Hp) (p:A7) (vs:Ar) (ds:List D):Prop where
 len:vs.length=ds.length
 g:∀ (i:Nat) v d,vs[i]?=some v->ds[i]?=some d->Rep H p v d
section
variable {H H':Hp} {p q:A7} {vs us:Ar} {ds es:List D} {v:V} {d:D}
def Reps.keep (s:∀ b o,p b->H b=some o->q b/\H' b=some o) (h:Reps H p vs ds):Reps H' q vs ds:=⟨h.len,λ i v d a b=>(h.g i v d a b).keep s⟩
def Reps.nil:Reps H p [] []:=⟨rfl,λ i v d h=>by simp at h⟩
theorem Reps.cons (h:Rep H p v d) (k:Reps H p vs ds):Reps H p (v :: vs) (d :: ds):=⟨by simp [k.len],λ i u e a b=>by
 cases i with
 | zero =>
  have a:v=u:=by simpa using a
  have b:d=e:=by simpa using b
  rw [<- a,<- b];exact h
 | succ i=>exact k.g i u e (by simpa using a) (by simpa using b)⟩
def Reps.one (h:Rep H p v d):Reps H p [v] [d]:=.cons h .nil
def Reps.append (h:Reps H p vs ds) (k:Reps H p us es):Reps H p (vs ++ us) (ds ++ es):=by
 refine ⟨by rw [aQ,aQ,h.len,k.len],λ i v r e1 e2=>?_⟩;by_cases hi:i < vs.length
 ·rw [aO hi] at e1;rw [aO (by rw [<- h.len];exact hi)] at e2;exact h.g i v r e1 e2
 ·rw [aI (by lia)] at e1;rw [aI (by rw [<- h.len];lia),<- h.len] at e2;exact k.g _ v r e1 e2
def Reps.at (h:Reps H p vs ds) (e:vs[i]?=some v):∃ d,ds[i]?=some d/\Rep H p v d:=by
 have hi:=(aa.mp e).1;have e2:ds[i]?=some (ds[i]'(by rw [<- h.len];exact hi)):=ac _;exact ⟨_,e2,h.g i v _ e e2⟩
def Reps.of (h:Reps H p vs ds) (e:ds[i]?=some d):∃ v,vs[i]?=some v/\Rep H p v d:=by
 have hi:=(aa.mp e).1;have e2:vs[i]?=some (vs[i]'(by rw [h.len];exact hi)):=ac _;exact ⟨_,e2,h.g i _ d e2 e⟩
def Reps.take (h:Reps H p vs ds) (n:Nat):Reps H p (vs.take n) (ds.take n):=⟨by rw [aS,aS,h.len],λ i v d a b=>by
 rw [List.getElem?_take] at a b;by_cases hn:i < n
 ·rw [ar hn] at a b;exact h.g i v d a b
 ·rw [ap hn] at a;cases a⟩
def Reps.drop (h:Reps H p vs ds) (n:Nat):Reps H p (vs.drop n) (ds.drop n):=⟨by rw [dA,dA,h.len],λ i v d a b=>by
 rw [List.getElem?_drop] at a b;exact h.g _ v d a b⟩
def Reps.reverse (h:Reps H p vs ds):Reps H p vs.reverse ds.reverse:=⟨by rw [d5,d5,h.len],λ i v d a b=>by
 have hi:i < vs.length:=by have:=(aa.mp a).1;rw [d5] at this;exact this
 rw [eV hi] at a;rw [eV (by rw [<- h.len];exact hi),<- h.len] at b;exact h.g _ v d a b⟩
def Reps.mk' (h:Reps H p vs ds) (pl:p l) (e:H l=some (.lst vs)):Rep H p (.ref l) (.lst ds):=.lst pl e h.len h.g
def Reps.mkT (h:Reps H p vs ds) (pl:p l) (e:H l=some (.tup vs)):Rep H p (.ref l) (.tup ds):=.tup pl e h.len h.g
def Rep.lst' (h:Rep H p v (.lst ds)):∃ l us,v=.ref l/\p l/\H l=some (.lst us)/\Reps H p us ds:=by
 cases h with|lst a b c e=>exact ⟨_,_,rfl,a,b,c,e⟩
def Rep.tup' (h:Rep H p v (.tup ds)):∃ l us,v=.ref l/\p l/\H l=some (.tup us)/\Reps H p us ds:=by
 cases h with|tup a b c e=>exact ⟨_,_,rfl,a,b,c,e⟩
theorem ZC {f:Str}:∀ {fs:At} {gs:List (Str × D)},fs.map (·.1)=gs.map (·.1)->(∀ (i:Nat) x y,fs[i]?=some x->gs[i]?=some y->Rep H p x.2 y.2) ->
  (∀ d,gs.lookup f=some d->∃ u,fs.lookup f=some u/\Rep H p u d)/\(gs.lookup f=none->fs.lookup f=none)
 | [],[],_,_=>⟨λ d h=>by simp at h,λ _=>rfl⟩
 | [],_ :: _,e,_=>by simp at e
 | _ :: _,[],e,_=>by simp at e
 | (a,u) :: fs,(b,c) :: gs,e,r=>by
  have e1:a=b:=by simpa using (List.cons.inj e).1
  subst e1;have ih:=ZC (f:=f) (fs:=fs) (gs:=gs) (List.cons.inj e).2 λ i x y hx hy=>r (i + 1) x y (by simpa using hx) (by simpa using hy);by_cases hf:f=a
  ·have hb:(f == a)=true:=bA.mpr hf;refine ⟨λ d h=>?_,λ h=>?_⟩
   ·simp only [List.lookup,hb] at h ⊢;cases h;exact ⟨_,rfl,r 0 (a,u) (a,c) rfl rfl⟩
   ·simp only [List.lookup,hb] at h;cases h
  ·have hb:(f == a)=false:=a9.mpr hf;simp only [List.lookup,hb];exact ih
def Rep.ob' {C:Addr} {gs:List (Str × D)} (h:Rep H p v (.ob C gs)):∃ l dx fs,v=.ref l/\p l/\H l=some (.ins C dx fs)/\(∀ f d,gs.lookup f=some d->∃ u,fs.lookup f=some u/\Rep H p u d)/\(∀ f,gs.lookup f=none->fs.lookup f=none):=by
 cases h with|ob a b c e=>exact ⟨_,_,_,rfl,a,b,λ f=>(ZC c e).1,λ f=>(ZC c e).2⟩
noncomputable abbrev D.ints (ns:A8):D:=.lst (ns.map D.int)
theorem reps_ints:∀ {ns:A8},Reps H p (ns.map V.int) (ns.map D.int)
 | []=>.nil
 | _ :: _=>.cons .int reps_ints
theorem Js:∀ {ns:A8} {vs:Ar},Reps H p vs (ns.map D.int)->vs=ns.map V.int
 | [],[],_=>rfl
 | [],_ :: _,h=>by have:=h.len;simp at this
 | _ :: _,[],h=>by have:=h.len;simp at this
 | n :: ns,v :: vs,h=>by
  have h1:=h.g 0 v (.int n) rfl rfl;have h2:Reps H p vs (ns.map D.int):=⟨by have:=h.len;simpa using this,λ i u d a b=>h.g (i + 1) u d (by simpa using a) (by simpa using b)⟩;cases h1;rw [bR,Js h2]
def Rep.ints' {ns:A8} (h:Rep H p v (.ints ns)):∃ l,v=.ref l/\p l/\H l=some (.lst (ns.map V.int)):=by
 obtain ⟨l,us,e,a,b,c⟩:=h.lst';rw [Js c] at b;exact ⟨l,e,a,b⟩
def qj {ns:A8} (pl:p l) (e:H l=some (.lst (ns.map V.int))):Rep H p (.ref l) (.ints ns):=reps_ints.mk' pl e
end
def Off (ms:Ae):Addr->Prop:=λ b=>b ∉ ms
def Fr (ms:Ae) (H H':Hp):Prop:=∀ b o,b ∉ ms->H b=some o->H' b=some o
section
variable {H H' H2:Hp} {ms ns:Ae} {x:Addr} {o:HO} {v:V} {d:D} {vs:Ar} {ds:List D}
def Fr.refl:Fr ms H H:=λ _ _ _ h=>h
def Fr.trans (a:Fr ms H H') (b:Fr ms H' H2):Fr ms H H2:=λ c o n h=>b c o n (a c o n h)
def Fr.more (a:Fr ms H H') (s:∀ b,b∈ms->b∈ns):Fr ns H H':=λ b o n h=>a b o (λ z=>n (s b z)) h
def Same.fr (a:Same H H'):Fr ms H H':=λ b o _ h=>a b o h
def qA (h:x∈ms):Fr ms H (upd H x o):=λ b u n hb=>by
 rw [mX (λ z=>n (by rw [z];exact h))];exact hb
def zb3 (h:H x=none):Fr ms H (upd H x o):=(same_upd' h).fr where
 same_upd' {H:Hp} {x:Addr} {o:HO} (h:H x=none):Same H (upd H x o):=λ b u hb=>by rw [mX (mY hb h)];exact hb
def Fr.same (a:Fr ms H H') (h:∀ m∈ms,H m=none):Same H H':=λ b o hb=>a b o (λ z=>by rw [h b z] at hb;cases hb) hb
def Rep.fr (h:Rep H (Off ms) v d) (s:Fr ms H H'):Rep H' (Off ms) v d:=h.keep λ b o pb hb=>⟨pb,s b o pb hb⟩
def Reps.fr (h:Reps H (Off ms) vs ds) (s:Fr ms H H'):Reps H' (Off ms) vs ds:=h.keep λ b o pb hb=>⟨pb,s b o pb hb⟩
def Rep.more (h:Rep H (Off ms) v d) (s:∀ b,b∈ns->b∈ms\/H b=none):Rep H (Off ns) v d:=h.keep λ b o pb hb=>⟨λ z=>(s b z).elim pb (λ q=>by rw [q] at hb;cases hb),hb⟩
def Reps.more (h:Reps H (Off ms) vs ds) (s:∀ b,b∈ns->b∈ms\/H b=none):Reps H (Off ns) vs ds:=h.keep λ b o pb hb=>⟨λ z=>(s b z).elim pb (λ q=>by rw [q] at hb;cases hb),hb⟩
def Rep.same (h:Rep H (Off ms) v d) (s:Same H H'):Rep H' (Off ms) v d:=h.fr s.fr
def Reps.same (h:Reps H (Off ms) vs ds) (s:Same H H'):Reps H' (Off ms) vs ds:=h.fr s.fr
def Rep.ahead (h:Rep H (Off []) v d) (s:Same H H') (n:∀ m∈ms,H m=none):Rep H' (Off ms) v d:=h.keep λ b o _ hb=>⟨(λ z=>nomatch (n b z).symm.trans hb),s b o hb⟩
def Reps.ahead (h:Reps H (Off []) vs ds) (s:Same H H') (n:∀ m∈ms,H m=none):Reps H' (Off ms) vs ds:=h.keep λ b o _ hb=>⟨(λ z=>nomatch (n b z).symm.trans hb),s b o hb⟩
def Rep.all {p:A7} (h:Rep H p v d):Rep H (Off []) v d:=h.keep λ b o _ hb=>⟨(λ z=>nomatch z),hb⟩
def Reps.all {p:A7} (h:Reps H p vs ds):Reps H (Off []) vs ds:=h.keep λ b o _ hb=>⟨(λ z=>nomatch z),hb⟩
end
def fd_small {i j:Int} (h1:0 < j) (h2:j < 1000000):CFd i j:=fd_ok h1 (aM (show j.natAbs < 2 ^ 20 by lia) (Nat.pow_le_pow_right (by decide) (by decide)))
def JZ {α:Type} {xs:List α} {k:Int} (h0:0<=k) (h1:k < xs.length):seqIndex? k xs.length=some k.toNat:=by
 unfold seqIndex?;have:¬ k < 0:=by lia
 simp [this,h0,h1]
def JB {K:A0} {H H':Hp} {xs:Ar} (s:Same H H') (h:SqL K H l xs):SqL K H' l xs:=s.seq h
noncomputable def del (H:Hp) (x:Addr):Hp:=λ b=>if b=x then none else H b
section
variable {K:A0} {H:Hp} {Q:VK} {p:A7} {v:V} {d:D} {ds:List D} {f:Str}
def zfN {C:Addr} {gs:List (Str × D)} {R:V->Prop} (h:Rep H p v (.ob C gs)) (c:Cls K C) (n:NoAttr K C f) (e:gs.lookup f=some d) (q:∀ u,Rep H p u d->R u) :
  ∃ a C dx fs u,v=.ref a/\H a=some (.ins C dx fs)/\Cls K C/\NoAttr K C f/\fs.lookup f=some u/\R u:=by
 obtain ⟨l,dx,fs,rfl,_,a,b,_⟩:=h.ob';obtain ⟨u,e1,r⟩:=b f d e;exact ⟨l,C,dx,fs,u,rfl,a,c,n,e1,q u r⟩
def zgK {vs:Ar} {i:Int} (h:Reps H p vs ds) (e:atI ds i=some d):∃ u,atI vs i=some u/\Rep H p u d:=by
 unfold atI at e ⊢;rw [h.len];cases z:ixN ds.length i with
 | none=>rw [z] at e;cases e
 | some j=>rw [z] at e;exact h.of (i:=j) e
end
def jb {H H':Hp} {p:A7} {d:D} (h:Rep H p v d) (s:Same H H'):Rep H' p v d:=h.keep λ b o pb hb=>⟨pb,s b o hb⟩
section
variable {X:Cx}
def zh6 (K:A0):R2:=λ x y H Q=>∃ p xs i v,x=.ref p/\y=.int i/\SqL K H p xs/\0<=i/\atI xs i=some v/\Q v H
def ze8:ziu X (zh6 X.K):=by
 intro m5 s σ H x y v u Q I rx ry h;obtain ⟨p,xs,i,z,rfl,rfl,hq,h0,he,q⟩:=h;cases rx;obtain ⟨t,rfl⟩:=ry;obtain ⟨mM,r,pl,hz⟩:=I.list hq;obtain ⟨j,h1,h2,h3,h4,h5⟩:=Jx he;obtain ⟨w,ew,rw'⟩:=r.get h2;have hl:=r.length;have hn:=ZD;have hj:i.toNat=j:=by
  rw [fq h0 h5] at h1;exact aT h1
 exact wpAny_getItem_list pl.isList h0 (by lia) (by rw [hj];simpa using ew) ⟨z,H,I,rw',q⟩
end
inductive Hard:D->Prop where
 | non:Hard .non
 | bl {b:Bool}:Hard (.bl b)
 | int {i:Int}:Hard (.int i)
 | str {x:Str}:Hard (.str x)
 | tup {ds:List D}:(∀ (i:Nat) d,ds[i]?=some d->Hard d)->Hard (.tup ds)
def Rep.hard {p q:A7} {d:D} (h:Rep H p v d) (hd:Hard d) (k:∀ b xs,p b->H b=some (.tup xs)->q b):Rep H q v d:=by
 induction h with
 | non=>exact .non
 | bl=>exact .bl
 | int=>exact .int
 | str=>exact .str
 | lst pl hl e _ ih=>cases hd
 | tup pl hl e _ ih =>
  cases hd with
  | tup hd=>exact .tup (k _ _ pl hl) hl e λ i v d a b=>ih i v d a b (hd i d b)
 | ob pl hl e _ ih=>cases hd
def zeL {as:Ae} (nd:as.Nodup) {i j:Nat} (h1:as[i]?=some b) (h2:as[j]?=some b):i=j:=by
 obtain ⟨hi,e1⟩:=aa.mp h1;obtain ⟨hj,e2⟩:=aa.mp h2;have P:=List.pairwise_iff_getElem.mp nd;rcases eu i j with h|h|h
 ·exact absurd (e1.trans e2.symm) (P i j hi hj h)
 ·exact h
 ·exact absurd (e2.trans e1.symm) (P j i hj hi h)
structure NL (H:Hp) (p:A7) (G:Addr) (as:Ae) (xss:List (List D)):Prop where
 out:H G=some (.lst (as.map V.ref))
 len:as.length=xss.length
 nd:as.Nodup
 nG:G ∉ as
 g:∀ (i:Nat) b xs,as[i]?=some b->xss[i]?=some xs->∃ vs,H b=some (.lst vs)/\Reps H p vs xs
section
variable {H H':Hp} {p q:A7} {G:Addr} {as:Ae} {xss:List (List D)}
def NL.keep (h:NL H p G as xss) (s:∀ b o,(b=G\/b∈as\/p b)->H b=some o->H' b=some o) (sp:∀ b,p b->H b≠none->q b):NL H' q G as xss:=by
 refine ⟨s _ _ (.inl rfl) h.out,h.len,h.nd,h.nG,λ i b xs e1 e2=>?_⟩;obtain ⟨vs,h1,h2⟩:=h.g i b xs e1 e2;exact ⟨vs,s _ _ (.inr (.inl (ah e1))) h1,h2.keep λ c o pc hc=>⟨sp c pc (by rw [hc];intro z;cases z),s c o (.inr (.inr pc)) hc⟩⟩
def NL.same (h:NL H p G as xss) (s:Same H H'):NL H' p G as xss:=h.keep (λ b o _ hb=>s b o hb) λ _ hp _=>hp
def NL.at (h:NL H p G as xss) {xs:List D} (e:xss[i]?=some xs):∃ b vs,as[i]?=some b/\H b=some (.lst vs)/\Reps H p vs xs:=by
 have hi:=(aa.mp e).1;have e2:as[i]?=some (as[i]'(by rw [h.len];exact hi)):=ac _;obtain ⟨vs,h1,h2⟩:=h.g i _ xs e2 e;exact ⟨_,vs,e2,h1,h2⟩
def zbM {H:Hp} {p:A7} {G:Addr} (h:H G=some (.lst [])):NL H p G [] []:=⟨h,rfl,nodup_nil,by simp,λ i b xs e=>by simp at e⟩
def NL.rep (h:NL H p G as xss):Rep H (Off []) (.ref G) (.lst (xss.map D.lst)):=by
 refine .lst (λ z=>nomatch z) h.out (by rw [ai,ai,h.len]) λ i v d e1 e2=>?_;rw [am,ao] at e1 e2;obtain ⟨b,e1,rfl⟩:=e1;obtain ⟨xs,e2,rfl⟩:=e2;obtain ⟨vs,h1,h2⟩:=h.g i b xs e1 e2;exact h2.all.mk' (λ z=>nomatch z) h1
def NL.put {vs:Ar} {ys:List D} (h:NL H p G as xss) (e:as[i]?=some b) (np:¬ p b) (r:Reps H p vs ys):NL (upd H b (.lst vs)) p G as (xss.set i ys):=by
 have hb:=ah e;have nG:G≠b:=λ z=>h.nG (by rw [z];exact hb);have rk:∀ {us:Ar} {zs:List D},Reps H p us zs->Reps (upd H b (.lst vs)) p us zs:=λ r=>r.keep λ c o pc hc=>⟨pc,by rw [mX (λ z=>np (by rw [<- z];exact pc))];exact hc⟩;refine ⟨by rw [mX nG];exact h.out,by rw [bS,h.len],h.nd,h.nG,λ j c xs e1 e2=>?_⟩;by_cases hj:j=i
 ·subst hj;rw [e] at e1;cases e1;have hl:j < xss.length:=by rw [<- h.len];exact (aa.mp e).1
  rw [a7 hl] at e2;cases e2;exact ⟨vs,mW,rk r⟩
 ·rw [bK (aX hj)] at e2;have nc:c≠b:=λ z=>by
   subst z;exact hj (zeL h.nd e1 e)
  obtain ⟨us,h1,h2⟩:=h.g j c xs e1 e2;exact ⟨us,by rw [mX nc];exact h1,rk h2⟩
def NL.push {vs:Ar} {ys:List D} (h:NL H p G as xss) (hb:H b=some (.lst vs)) (nb:b ∉ as) (nG:b≠G) (np:¬ p G) (r:Reps H p vs ys):NL (upd H G (.lst (as.map V.ref ++ [.ref b]))) p G (as ++ [b]) (xss ++ [ys]):=by
 have rk:∀ {us:Ar} {zs:List D},Reps H p us zs->Reps (upd H G (.lst (as.map V.ref ++ [.ref b]))) p us zs:=λ r=>r.keep λ c o pc hc=>⟨pc,by rw [mX (λ z=>np (by rw [<- z];exact pc))];exact hc⟩;refine ⟨by rw [mW,bg];rfl,by simp [h.len],?_,?_,λ j c xs e1 e2=>?_⟩
 ·rw [nodup_append];refine ⟨h.nd,by simp,?_⟩;intro x hx y hy z;rw [ay.mp hy] at z;exact nb (by rw [<- z];exact hx)
 ·intro z;rcases aH.mp z with z|z
  ·exact h.nG z
  ·exact nG (ay.mp z).symm
 ·by_cases hj:j < as.length
  ·rw [aO hj] at e1;rw [aO (by rw [<- h.len];exact hj)] at e2;obtain ⟨us,h1,h2⟩:=h.g j c xs e1 e2;have nc:c≠G:=λ z=>h.nG (by rw [<- z];exact ah e1);exact ⟨us,by rw [mX nc];exact h1,rk h2⟩
  ·rw [aI (by lia)] at e1;rw [aI (by rw [<- h.len];lia),<- h.len] at e2;have hj0:j - as.length=0:=by have:=(aa.mp e1).1;simp at this;lia
   rw [hj0] at e1 e2;have e1:b=c:=by simpa using e1
   have e2:ys=xs:=by simpa using e2
   subst e1 e2;exact ⟨vs,by rw [mX nG];exact hb,rk r⟩
end
def z7 (H:Hp):Addr->Prop:=λ b=>∃ xs,H b=some (.tup xs)
def NL.tup {H H':Hp} {G:Addr} {as:Ae} {xss:List (List D)} (h:NL H (z7 H) G as xss) (s:∀ b o,(b=G\/b∈as\/z7 H b)->H b=some o->H' b=some o):NL H' (z7 H') G as xss :=
 h.keep s λ b hb _=>by
  obtain ⟨xs,hx⟩:=hb;exact ⟨xs,s b _ (.inr (.inr ⟨xs,hx⟩)) hx⟩
def NL.isl {G:Addr} {as:Ae} {p:A7} {xss:List (List D)} (h:NL H p G as xss) (hb:b∈G :: as):∃ vs,H b=some (.lst vs):=by
 rcases az.mp hb with rfl|hb
 ·exact ⟨_,h.out⟩
 ·obtain ⟨j,hj⟩:=br hb;obtain ⟨vs,h1,_⟩:=h.g j b _ hj (ac (by rw [<- h.len];exact (aa.mp hj).1));exact ⟨vs,h1⟩
def uc {P:Ah} {K:A0} {mg:A6} {base:Heap} {x:Str} {k:Nat} {G:List V->Sp->Prop} {ps:Aa} {dvs:Ar} {sp:Sp} (c:Cal P w K mg base x k ps dvs sp) (h:G dvs sp):∃ ps dvs sp,Cal P w K mg base x k ps dvs sp/\G dvs sp:=⟨ps,dvs,sp,c,h⟩
def un2 {K:A0} {t:Addr} {x y:V} {G:V->V->Prop} (h:H t=some (.tup [x,y])) (q:G x y):∃ a xs,V.ref t=.ref a/\SqT K H a xs/\xs.length=2/\∃ v r,xs=v :: r/\∃ v' r',r=v' :: r'/\r'=[]/\G v v':=⟨t,_,rfl,SqT.of h,rfl,x,_,rfl,y,_,rfl,rfl,q⟩
def ra {K:A0} {a C dx:Addr} {fs:At} {f:Str} {G:V->Prop} (h:H a=some (.ins C dx fs)) (c:Cls K C) (n:NoAttr K C f) (e:fs.lookup f=some v) (q:G v):∃ a' C dx fs v,V.ref a=.ref a'/\H a'=some (.ins C dx fs)/\Cls K C/\NoAttr K C f/\fs.lookup f=some v/\G v:=⟨a,C,dx,fs,v,rfl,h,c,n,e,q⟩
section
variable {prog:Ah} {w:World} {A:Aq} {E:A5} {s:Ap}
noncomputable abbrev lit (l:Addr):Obj:={ cls:=.type (QK true),data:=.fields #[.ref l,.int 0 0] }
end
section
variable {prog:Ah} {w:World} {A:Aq} {E:A5} {s:Ap}
end
section
variable {X:Cx} {pos pos':Pos} {x:Str}
def zp (i:Nat) {e:Expr} {te:TE} (hN:X.N.Nodup) (he:PE X e te) (hi:X.N[i]?=some x:=by rfl) (hx:Loc X.env.scope x:=by exact Or.inl rfl) (hs:swapsWith e (some (.Name x pos')) pos.line X.env=pure false:=by rfl)
  (hf:Or (X.fn x=true) (X.env.scope.names.lookup x=some .local):=by walk_at "p"):PS X (.Assign [.Name x pos'] e pos) (tAsg te (gName i)):=JW hN hi hx he hs hf
def qg (i:Nat) (hN:X.N.Nodup) (hi:X.N[i]?=some x:=by rfl) (hx:Loc X.env.scope x:=by exact Or.inl rfl) (hf:Or (X.fn x=true) (X.env.scope.names.lookup x=some .local):=by walk_at "p"):PG X (.Name x pos) (gName i):=vQ hN hi hx hf
def zo {a b:Expr} {ta tb:TE} (ha:PE X a ta) (hb:PE X b tb) (hs:zc1 b:=by intro _ _;rfl):PE X (.Subscript a b pos) (tOp (rIx X.K) ta tb):=zh7 zhu ha hb hs
end
section
variable {X:Cx}
end
section
variable {X:Cx} {G:GK} {x y:Str} {np mp pos hpos gpos:Pos} {body su sv:List Stmt} {b₀ c₀:Stmt} {tb:List (Addr × Obj)->GK->TS} {th ti:List (Addr × Obj)->Addr->TS}
end
section
variable {X:Cx}
end
section
variable {X:Cx}
def ziG (K:A0):R2:=λ x y H Q=>∃ p q xs,x=.ref p/\y=.ref q/\SqL K H p xs/\SqL K H q []/\Q (.bl (decide (xs.length=0))) H
def zhg (hu:X.A.units + 100 < cLine):OpR X (compareOp .Eq) (ziG X.K):=by
 intro m5 s σ H x y v u Q I rx ry h;obtain ⟨p,q,xs,rfl,rfl,h1,h2,k⟩:=h;by_cases hl:xs.length=0
 ·have e:xs=[]:=bz.mp hl;subst e;exact Wp (by lia) m5 s σ H _ _ _ _ Q I rx ry ⟨p,q,[],[],rfl,rfl,.inl ⟨h1,h2⟩,rfl,rfl,k⟩
 ·rw [aW hl] at k;cases rx;cases ry;obtain ⟨mM,r,p,_⟩:=I.list h1;obtain ⟨its2,r2,p2,_⟩:=I.list h2;have e1:=r.length;have e2:=r2.length;exact dG p.isList p2.isList (by simp only [av];simp at e2 ⊢;lia) (by lia) _ _ _ _ ⟨.bl false,H,I,rfl,k⟩
end
section
variable {κ:Type} [DecidableEq κ]
noncomputable def jX (mK:List (κ × V)) (k:κ):Option V:=(mK.find? λ kv=>decide (kv.1=k)).map (·.2)
noncomputable def vb (mK:List (κ × V)) (k:κ) (v:V):List (κ × V) :=
 if (mK.any λ kv=>decide (kv.1=k))=true then mK.map (λ kv=>if kv.1=k then (kv.1,v) else kv) else mK ++ [(k,v)]
noncomputable def zgH (mK:List (κ × V)) (k:κ):List (κ × V):=mK.filter λ kv=>decide (kv.1≠k)
def qW {p:κ × V} {r:List (κ × V)} {k:κ} (e:p.1=k):jX (p :: r) k=some p.2:=by simp [jX,cX,e]
def qX {p:κ × V} {r:List (κ × V)} {k:κ} (e:¬ p.1=k):jX (p :: r) k=jX r k:=by simp [jX,cX,e]
theorem ZK (k:κ):∀ mK:List (κ × V),(mK.any λ kv=>decide (kv.1=k))=(jX mK k).isSome
 | []=>rfl
 | p :: r=>by
  rw [any_cons];by_cases e:p.1=k
  ·simp only [qW e,bp e,Bool.true_or,Option.isSome_some]
  ·rw [qX e,aW e,Bool.false_or];exact ZK k r
theorem VV (k j:κ) (y:V):∀ mK:List (κ × V),jX (mK.map λ kv=>if kv.1=k then (kv.1,y) else kv) j=(jX mK j).map λ x=>if j=k then y else x
 | []=>rfl
 | p :: r=>by
  have ih:=VV k j y r;rw [bR];by_cases h:p.1=k
  ·rw [ar h];by_cases e:p.1=j
   ·rw [qW (p:=(p.1,y)) e,qW e,b5,ar (e.symm.trans h)]
   ·rw [qX (p:=(p.1,y)) e,qX e,ih]
  ·rw [ap h];by_cases e:p.1=j
   ·rw [qW (p:=p) e,qW e,b5,ap (λ z=>h (e.trans z))]
   ·rw [qX (p:=p) e,qX e,ih]
theorem Wb (k j:κ) (y:V):∀ mK:List (κ × V),jX mK k=none->jX (mK ++ [(k,y)]) j=if j=k then some y else jX mK j
 | [],_=>by
  by_cases e:k=j
  ·rw [ar e.symm];exact qW (p:=(k,y)) e
  ·rw [ap (λ z=>e z.symm)];exact qX (p:=(k,y)) e
 | p :: r,hn=>by
  rw [List.cons_append];have hk:¬ p.1=k:=λ z=>by rw [qW z] at hn;cases hn
  rw [qX hk] at hn;have ih:=Wb k j y r hn;by_cases e:p.1=j
  ·rw [qW e,qW e,ap (λ z=>hk (e.trans z))]
  ·rw [qX e,qX e,ih]
def VU (mK:List (κ × V)) (k j:κ) (y:V):jX (vb mK k y) j=if j=k then some y else jX mK j:=by
 unfold vb;by_cases a:(mK.any λ kv=>decide (kv.1=k))=true
 ·rw [ar a,VV];rw [ZK] at a;by_cases e:j=k
  ·obtain ⟨x,hx⟩:=fh.mp a;rw [ar e,e,hx,b5,ar rfl]
  ·rw [ap e];cases jX mK j with
   | none=>rfl
   | some x=>rw [b5,ap e]
 ·rw [ap a];refine Wb k j y mK ?_;rw [ZK] at a;cases q:jX mK k with
  | none=>rfl
  | some x=>rw [q] at a;exact (a rfl).elim
def QU (mK:List (κ × V)) (k:κ) (v:V):(vb mK k v).length<=mK.length + 1:=by
 unfold vb
 split
 ·rw [ai];lia
 ·rw [aQ,bB,cW];lia
def RelO.isSome_eq {o:As} {u:Option Value} (r:RelO o u):o.isSome=u.isSome:=by
 cases o with
 | none=>cases u with
  | none=>rfl
  | some _=>exact (show False from r).elim
 | some _=>cases u with
  | none=>exact (show False from r).elim
  | some _=>rfl
def RelO.getD {o:As} {u:Option Value} {d:V} {d':Ao} (r:RelO o u) (rd:RelV d d'):RelV (o.getD d) (u.getD d'):=by
 cases o with
 | none=>cases u with
  | none=>exact rd
  | some _=>exact (show False from r).elim
 | some _=>cases u with
  | none=>exact (show False from r).elim
  | some _=>exact r
def KV.val {mK:List (κ × V)} {vs:List (κ × Value)} (r:KV mK vs) (k:κ):RelO (jX mK k) (valueAt vs k):=by
 unfold KV at r
 induction r with
 | nil=>exact True.intro
 | @cons p q ps qs h t ih =>
  obtain ⟨h1,h2⟩:=h;by_cases e:p.1=k
  ·have e':q.1=k:=h1.symm.trans e;have b:valueAt (q :: qs) k=some q.2:=by simp [valueAt,cX,e']
   rw [qW e,b];exact h2
  ·have e':¬ q.1=k:=λ z=>e (h1.trans z);have b:valueAt (q :: qs) k=valueAt qs k:=by simp [valueAt,cX,e']
   rw [qX e,b];exact ih
def KV.any {mK:List (κ × V)} {vs:List (κ × Value)} (r:KV mK vs) (k:κ):(mK.any λ kv=>decide (kv.1=k))=vs.any λ kv=>decide (kv.1=k):=by
 unfold KV at r
 induction r with
 | nil=>rfl
 | cons h t ih=>rw [any_cons,any_cons,ih,h.1]
theorem KV.repl {mK:List (κ × V)} {vs:List (κ × Value)} (r:KV mK vs) (k:κ) {y:V} (ry:RelV y u) :
  KV (mK.map λ kv=>if kv.1=k then (kv.1,y) else kv) (vs.map λ kv=>if kv.1=k then (kv.1,u) else kv):=by
 unfold KV at r ⊢
 induction r with
 | nil=>exact .nil
 | @cons p q ps qs h t ih =>
  rw [bR,bR];refine .cons ?_ ih;obtain ⟨h1,h2⟩:=h;by_cases e:p.1=k
  ·rw [ar e,ar (h1.symm.trans e)];exact ⟨h1,ry⟩
  ·rw [ap e,ap (λ z=>e (h1.trans z))];exact ⟨h1,h2⟩
def KV.put {mK:List (κ × V)} {vs:List (κ × Value)} (r:KV mK vs) (k:κ) {y:V} (ry:RelV y u):KV (vb mK k y) (stored vs k u):=by
 unfold vb stored;rw [r.any k];by_cases e:(vs.any λ kv=>decide (kv.1=k))=true
 ·rw [ar e,ar e];exact r.repl k ry
 ·rw [ap e,ap e];exact Paired.snoc r ⟨rfl,ry⟩
def KV.drop {mK:List (κ × V)} {vs:List (κ × Value)} (r:KV mK vs) (k:κ):KV (zgH mK k) (without vs k):=by
 unfold KV at r ⊢;unfold zgH without
 induction r with
 | nil=>exact .nil
 | @cons p q ps qs h t ih =>
  obtain ⟨h1,h2⟩:=h;rw [List.filter_cons,List.filter_cons];by_cases e:p.1=k
  ·have a:¬ decide (p.1≠k)=true:=by simp [e]
   have b:¬ decide (q.1≠k)=true:=by simp [h1.symm.trans e]
   rw [ap a,ap b];exact ih
  ·have e':¬ q.1=k:=λ z=>e (h1.trans z);have a:decide (p.1≠k)=true:=by simp [e]
   have b:decide (q.1≠k)=true:=by simp [e']
   rw [ar a,ar b];exact .cons ⟨h1,h2⟩ ih
def KV.keys {mK:List (κ × V)} {vs:List (κ × Value)} (r:KV mK vs):mK.map (·.1)=vs.map (·.1):=by
 unfold KV at r
 induction r with
 | nil=>rfl
 | cons h t ih=>rw [bR,bR,ih,h.1]
def KV.length {mK:List (κ × V)} {vs:List (κ × Value)} (r:KV mK vs):mK.length=vs.length:=cC r
end
def zcx {P:Ah} {k:Key} (r:RelV (kV k) u):(qT P w).is k u=true:=by
 cases k with
 | inl i=>obtain ⟨t,e⟩:=(show ∃ t,u=Value.int i t from r);subst e;exact zaF P w i t
 | inr x=>obtain ⟨t,e⟩:=(show ∃ t,u=Value.str x t from r);subst e;exact zaE P w x t
theorem WC {P:Ah} {w:World}:∀ {ks:List Key} {us:A9},Vals (ks.map kV) us->ItemsAre (qT P w) ks us
 | [],_,r=>by rw [map_nil] at r;cases r;exact .nil
 | k :: ks,_,r=>by
  rw [bR] at r;cases r with
  | cons h t=>exact .cons (zcx h) (WC t)
abbrev KT (H:Hp):List (List Key × V)->List (List Key × Addr × Value)->Prop:=Paired λ p q=>p.1=q.1/\H q.2.1=some (.tup (p.1.map kV))/\RelV p.2 q.2.2
def KT.val {xs:List (List Key × Addr × Value)} (r:KT H mK xs) (k:List Key):RelO (jX mK k) ((atKey xs k).map (·.2)):=by
 induction r with
 | nil=>exact True.intro
 | @cons p q ps qs h t ih =>
  obtain ⟨h1,_,h2⟩:=h;by_cases e:p.1=k
  ·have e':q.1=k:=h1.symm.trans e;have b:atKey (q :: qs) k=some q.2:=by simp [atKey,cX,e']
   rw [qW e,b];exact h2
  ·have e':¬ q.1=k:=λ z=>e (h1.trans z);have b:atKey (q :: qs) k=atKey qs k:=by simp [atKey,cX,e']
   rw [qX e,b];exact ih
theorem KT.repl {xs:List (List Key × Addr × Value)} (r:KT H mK xs) (k:List Key) {y:V} (ry:RelV y u) :
  KT H (mK.map λ kv=>if kv.1=k then (kv.1,y) else kv) (xs.map (putAt k u)):=by
 induction r with
 | nil=>exact .nil
 | @cons p q ps qs h t ih =>
  rw [bR,bR];refine .cons ?_ ih;obtain ⟨h1,h2,h3⟩:=h;unfold putAt;by_cases e:p.1=k
  ·rw [ar e,ar (h1.symm.trans e)];exact ⟨h1,h2,ry⟩
  ·rw [ap e,ap (λ z=>e (h1.trans z))];exact ⟨h1,h2,h3⟩
def KT.put {xs:List (List Key × Addr × Value)} (r:KT H mK xs) (k:List Key) {y:V} (hb:H b=some (.tup (k.map kV))) (ry:RelV y u) :
  KT H (vb mK k y) (storedH xs k b u):=by
 have e:(mK.any λ kv=>decide (kv.1=k))=(atKey xs k).isSome:=by
  rw [ZK,(r.val k).isSome_eq,dj]
 unfold vb storedH;rw [e];by_cases q:(atKey xs k).isSome=true
 ·rw [ar q,ar q];exact r.repl k ry
 ·rw [ap q,ap q];exact Paired.snoc r ⟨rfl,hb,ry⟩
def KT.keeps {H H':Hp} {xs:List (List Key × Addr × Value)} (r:KT H mK xs) (ht:∀ b ys,H b=some (.tup ys)->H' b=some (.tup ys)):KT H' mK xs :=
 Paired.mapP r λ _ _ z=>⟨z.1,ht _ _ z.2.1,z.2.2⟩
section
variable {P:Ah} {w:World} {H:Hp} {h:Heap} {a:Addr}
def zgA {u:HO} (ok:HOk P w H h) (e:Rd H a u):ObjOk P w H h a u:=e.ok ok
def zcK {mK:List (Key × V)} (ok:HOk P w H h) (e:Rd H a (.dK mK)):mK.length<=sizeLine/\(a == sysModules)=false/\∃ vs,KV mK vs/\h.DictOf (qT P w) a vs :=
 show ObjOk P w H h a (.dK mK) from zgA ok e
def ziq {mK:List (Key × V)} (ok:HOk P w H h) (e:H a=some (.dK mK)):mK.length<=sizeLine/\(a == sysModules)=false/\∃ vs,KV mK vs/\h.DictOf (qT P w) a vs:=zcK ok (.inl e)
def VA {ks:List Key} (ok:HOk P w H h) (e:H a=some (.tup (ks.map kV))):(tupleKind (qT P w)).is h ks a:=by
 obtain ⟨_,mM,r,o,h1,h2,n,h3⟩:=(show ObjOk P w H h a (.tup (ks.map kV)) from ok a _ e);exact ⟨o,mM.toArray,n,h1,h2,h3,by simpa using WC r⟩
theorem zcI (ok:HOk P w H h) (e:Rd H a (.dT mK)):mK.length<=sizeLine/\(a == sysModules)=false /\
  ∃ xs,KT H mK xs/\h.DictOfH (tupleKind (qT P w)) a xs:=by
 obtain ⟨z,y,xs,r,o,es,ep,h1,h2,h3,h4,h5⟩:=(show ObjOk P w H h a (.dT mK) from zgA ok e);refine ⟨z,y,xs,r,o,es,ep,h1,h2,h3,h4,λ x hx=>?_,h5⟩;have all:∀ {l:Au} {m:List (List Key × Addr × Value)},KT H l m->∀ x∈m,(tupleKind (qT P w)).is h x.1 x.2.1:=by
  intro l m q
  induction q with
  | nil=>intro x hx;exact nomatch hx
  | @cons p q ps qs hq t ih =>
   intro x hx;rcases az.mp hx with e|hx
   ·subst e;exact VA ok (by rw [<- hq.1];exact hq.2.1)
   ·exact ih x hx
 exact all r x hx
def zio (ok:HOk P w H h) (e:H a=some (.dT mK)):mK.length<=sizeLine/\(a == sysModules)=false /\
  ∃ xs,KT H mK xs/\h.DictOfH (tupleKind (qT P w)) a xs:=zcI ok (.inl e)
end
def DGet (H:Hp) (a:Addr) (y:V) (r:As):Prop :=
 (∃ mK k,Rd H a (.dK mK)/\y=kV k/\r=jX mK k)\/∃ mK k b,Rd H a (.dT mK)/\y=.ref b/\H b=some (.tup (k.map kV))/\r=jX mK k
def DPut (H:Hp) (a:Addr) (y v:V) (H':Hp):Prop :=
 (∃ mK k,H a=some (.dK mK)/\y=kV k/\mK.length < sizeLine/\H'=upd H a (.dK (vb mK k v))) \/
 ∃ mK k b,H a=some (.dT mK)/\y=.ref b/\H b=some (.tup (k.map kV))/\mK.length < sizeLine/\H'=upd H a (.dT (vb mK k v))
def DGet.k {a:Addr} {mK:List (Key × V)} {k:Key} (e:H a=some (.dK mK)):DGet H a (kV k) (jX mK k):=.inl ⟨mK,k,.inl e,rfl,rfl⟩
def DGet.t {a b:Addr} {k:List Key} (e:H a=some (.dT mK)) (eb:H b=some (.tup (k.map kV))):DGet H a (.ref b) (jX mK k):=.inr ⟨mK,k,b,.inl e,rfl,eb,rfl⟩
def DPut.k {a:Addr} {mK:List (Key × V)} {k:Key} (e:H a=some (.dK mK)) (hl:mK.length < sizeLine):DPut H a (kV k) v (upd H a (.dK (vb mK k v))):=.inl ⟨mK,k,e,rfl,hl,rfl⟩
def DPut.t {a b:Addr} {k:List Key} (e:H a=some (.dT mK)) (eb:H b=some (.tup (k.map kV))) (hl:mK.length < sizeLine) :
  DPut H a (.ref b) v (upd H a (.dT (vb mK k v))):=.inr ⟨mK,k,b,e,rfl,eb,hl,rfl⟩
section
variable {X:Cx} {m5:A4} {σ:St} {H:Hp} {s:Ap} {a:Addr} {y v:V} {u r:Ao} {o:As} {A:Aq} {E:A5}
def Inv.big (I:Inv X m5 σ H s):sysModules < s.heap.objs.size:=by
 have h:mainGlobals < s.heap.objs.size:=(I.mod.glob.keeps I.bk).lt;exact Nat.lt_trans (by decide) h
def zdO {Q:A5} (hu:A.units + 1 < cLine) (I:Inv X m5 σ H s) (g:DGet H a y (some v)) (ry:RelV y u) (h:∀ w' s',Inv X m5 σ H s'->RelV v w'->Q w' s') :
  wpAny (model X.prog X.w) A (getItem (.ref a) u) Q E s:=by
 rcases g with ⟨mK,k,e,ey,l⟩|⟨mK,k,b,e,ey,eb,l⟩
 ·subst ey;obtain ⟨z,hd,vs,rel,dd⟩:=zcK I.hok e;obtain ⟨w',hw,rw'⟩:=RelO.some_of (v:=v) (o:=valueAt vs k) (by rw [l];exact rel.val k);exact wpAny_getItem_of (zcx ry) dd.mapOf hw (h w' _ (I.tok _) rw')
 ·subst ey;cases (show u=Value.ref b from ry);obtain ⟨z,hd,xs,rel,dd⟩:=zcI I.hok e;obtain ⟨w',hw,rw'⟩:=RelO.some_of (v:=v) (o:=(atKey xs k).map (·.2)) (by rw [l];exact rel.val k);obtain ⟨p,hp,hp2⟩:=ao.mp hw;refine wpAny_getItem_heap (eK hu) (VA I.hok eb) dd hp ?_;rw [hp2];exact h w' _ (I.tok _) rw'
def ziL {Q:A5} (hu:A.units + 1 < cLine) (I:Inv X m5 σ H s) (g:DGet H a y o) (ry:RelV y u) (h:∀ s',Inv X m5 σ H s'->Q (.bool o.isSome) s') :
  wpAny (model X.prog X.w) A (compareOp .In u (.ref a)) Q E s:=by
 rcases g with ⟨mK,k,e,ey,l⟩|⟨mK,k,b,e,ey,eb,l⟩
 ·subst ey;obtain ⟨z,hd,vs,rel,dd⟩:=zcK I.hok e;refine wpAny_in_of (zcx ry) hd dd.mapOf ?_;rw [<- (rel.val k).isSome_eq,<- l];exact h _ (I.tok _)
 ·subst ey;cases (show u=Value.ref b from ry);obtain ⟨z,hd,xs,rel,dd⟩:=zcI I.hok e;refine wpAny_in_heap (eK hu) (VA I.hok eb) hd dd ?_;have q:=(rel.val k).isSome_eq;rw [dj] at q;rw [<- q,<- l];exact h _ (I.tok _)
def VI {h':Heap} {t':Nat} {ob:HO} (I:Inv X m5 σ H s) (mu:Mut (H a)) (hs:Heap.SameBut a s.heap h') (he:∃ q,h'.get? a=some q) (new:ObjOk X.prog X.w (upd H a ob) h' a ob) :
  Inv X m5 σ (upd H a ob) { s with heap:=h',toks:=t' } :=
 I.write (x:=a) (e:=a) mu (.inl rfl) (λ b q hb z=>(hs.2 b hb).trans z) he new
def zhA {P:Ah} {H':Hp} {h':Heap} {mK:List (Key × V)} {vs:List (Key × Value)} (z:mK.length<=sizeLine) (hd:(a == sysModules)=false) (rel:KV mK vs) (dd:h'.DictOf (qT P w) a vs) :
  ObjOk P w H' h' a (.dK mK):=⟨z,hd,vs,rel,dd⟩
def zdN {H':Hp} {Q:Ai} (hu:A.units + 1 < cLine) (I:Inv X m5 σ H s) (g:DPut H a y v H') (ry:RelV y u) (rv:RelV v r) (h:∀ s',Inv X m5 σ H' s'->Q () s') :
  wpAny (model X.prog X.w) A (setItem (.ref a) u r) Q E s:=by
 rcases g with ⟨mK,k,e,ey,l,eH⟩|⟨mK,k,b,e,ey,eb,l,eH⟩
 ·subst ey eH;obtain ⟨z,hd,vs,rel,dd⟩:=ziq I.hok e;have hz:vs.length<=sizeLine:=by rw [<- rel.length];exact z
  have hl:(vb mK k v).length<=sizeLine:=by have:=QU mK k v;lia
  refine wpAny_setItem_pairs (hsz:=hz) (zcx ry) dd λ h' dd' hs=>h _ ?_;have he:∃ q,h'.get? a=some q:=let ⟨q,_,_,hq,_⟩:=dd';⟨q,hq⟩
  exact VI I (by rw [e];exact True.intro) hs he (zhA hl hd (rel.put k rv) dd')
 ·subst ey eH;cases (show u=Value.ref b from ry);obtain ⟨z,hd,xs,rel,dd⟩:=zio I.hok e;have hz:xs.length<=sizeLine:=by rw [<- cC rel];exact z
  have hl:(vb mK k v).length<=sizeLine:=by have:=QU mK k v;lia
  refine wpAny_setItem_heap (hsz:=hz) (eK hu) (VA I.hok eb) dd λ h' dd' hs=>h _ ?_;obtain ⟨q,es,ep,hq,h2,h3,h4,_,h5⟩:=dd';refine VI I (by rw [e];exact True.intro) hs ⟨q,hq⟩ ⟨hl,hd,_,(rel.put k eb rv).keeps λ c ys ec=>?_,q,es,ep,hq,h2,h3,h4,h5⟩;rw [mX (ZY ec e (λ z=>nomatch z))];exact ec
end
section
variable {X:Cx} {m5:A4} {σ:St} {H:Hp} {s:Ap} {a:Addr} {mK:List (Key × V)} {k:Key} {u:Ao} {A:Aq} {E:A5}
end
def zhR (i:Expr):Prop:=∀ ov iv,subscripted i false ov iv=operate [ov,iv] (getItem ov iv)
theorem zci {prog:Ah} {A:Aq} {E:A5} {s:Ap} {env:Env} {value slice:Expr} {pos:Pos} {T id:String} {Q:A5}
  (hl:typeLookup (.type T) "__getitem__"=pure (some (.builtin id))) (hs:zhR slice)
  (h:wpAny (model prog w) A (eval value env) (λ o s₁=>wpAny (model prog w) A (eval slice env) (λ i s₂=>s₂.TypeIs o T/\wpAny (model prog w) A (getItem o i) Q E s₂) E s₁) E s) :
  wpAny (model prog w) A (eval (.Subscript value slice pos) env) Q E s:=by
 refine Subscript_ (aV h (λ o s₁ h₁=>aV h₁ (λ i s₂ h₂=>?_) λ _ _ x=>x) λ _ _ x=>x);obtain ⟨hT,h₂⟩:=h₂;unfold subscriptTail;refine af ?_;rw [getitemInPython_of_ne hT.not_modules];refine af (dR hT hl ?_);have fin:wpAny (model prog w) A (subscripted slice false o i) (λ r s₃=>wpAny (model prog w) A (letTemporaryGo value o r >>= λ _=>pure r) Q E s₃) E s₂:=by
  rw [hs o i];exact wpAny_operating (aV h₂ (λ r s₃ h₃=>af (wpAny_letTemporaryGo (aD h₃))) λ _ _ x=>x)
 first
  | exact aD (af fin)
  | exact af (aD (af fin))
  | exact af fin
def zaU {X:Cx} {m5:A4} {σ:St} {s:Ap} {a:Addr} {y:V} {o:As} (I:Inv X m5 σ H s) (g:DGet H a y o):s.TypeIs (.ref a) "dict":=by
 rcases g with ⟨mK,k,e,_,_⟩|⟨mK,k,b,e,_,_,_⟩
 ·obtain ⟨_,_,vs,_,dd⟩:=zcK I.hok e;exact dd.typeIs
 ·obtain ⟨_,_,xs,_,dd⟩:=zcI I.hok e;exact dd.typeIs
def tDGet (td ty:TE):TE:=λ σ H Q=>td σ H λ x H1=>ty σ H1 λ y H2=>∃ a v,x=.ref a/\DGet H2 a y (some v)/\Q v H2
def tDIn (ty td:TE):TE:=λ σ H Q=>ty σ H λ y H1=>td σ H1 λ x H2=>∃ a o,x=.ref a/\DGet H2 a y o/\Q (.bl o.isSome) H2
def sDPut (td ty tv:TE):TS:=λ D σ H=>tv σ H λ v H1=>td σ H1 λ x H2=>ty σ H2 λ y H3=>∃ a H4,x=.ref a/\DPut H3 a y v H4/\D.nx σ H4
section
variable {X:Cx} {o i e value:Expr} {pos pos' tpos:Pos} {td ty tv:TE}
def zco (hu:X.A.units + 1 < cLine) (ho:PE X o td) (hi:PE X i ty) (hs:zhR i):PE X (.Subscript o i pos) (tDGet td ty):=by
 intro m5 s σ H Q I h;refine zci eX.lookup hs (thn (ho m5 s σ H _ I h) λ u s1 ⟨x,H1,I1,rx,q1⟩=>thn (hi m5 s1 σ H1 _ I1 q1) λ iv s2 ⟨y,H2,I2,ry,a,v,ex,g,q2⟩=>?_);subst ex;obtain rfl:u=Value.ref a:=rx;exact ⟨zaU I2 g,zdO hu I2 g ry λ w' s3 I3 rw'=>⟨v,H2,I3,rw',q2⟩⟩
def zha (hu:X.A.units + 1 < cLine) (hi:PE X i ty) (ho:PE X o td):PC X .In i o (tDIn ty td):=by
 intro m5 s σ H Q I h;refine thn (hi m5 s σ H _ I h) λ iv s1 ⟨y,H1,I1,ry,q1⟩=>thn (ho m5 s1 σ H1 _ I1 q1) λ u s2 ⟨x,H2,I2,rx,a,ov,ex,g,q2⟩=>?_;subst ex;obtain rfl:u=Value.ref a:=rx;exact ziL hu I2 g ry λ s3 I3=>⟨.bl ov.isSome,H2,I3,rfl,q2⟩
def zfT (hu:X.A.units + 1 < cLine) (ho:PE X o td) (hi:PE X i ty) (hv:PE X value tv) (hs:swapsWith value (some (.Subscript o i pos')) pos.line X.env=pure false) :
  PS X (.Assign [.Subscript o i pos'] value pos) (sDPut td ty tv):=by
 intro m5 s σ H D I h;refine wpAny_Assign_Subscript (thn (hv m5 s σ H _ I h) λ r s1 ⟨v,H1,I1,rv,q1⟩=>thn (ho m5 s1 σ H1 _ I1 q1) λ u s2 ⟨x,H2,I2,rx,q2⟩=>thn (hi m5 s2 σ H2 _ I2 q2) λ iv s3 ⟨y,H3,I3,ry,a,H4,ex,g,q3⟩=>?_) hs;subst ex;obtain rfl:u=Value.ref a:=rx;exact zdN hu I3 g ry rv λ s4 I4=>⟨σ,H4,I4,q3⟩
end
def zff {P:Ah} (h:Heap) (hb:sysModules < h.objs.size):ObjOk P w H (h.push { cls:=.type "dict",data:=.dict #[] }) h.objs.size (.dT []) :=
 ⟨bU _,a9.mpr (aX (aP hb)),[],.nil,_,#[],0,aE _ rfl,⟨rfl,rfl,rfl⟩,rfl,rfl,nodup_nil⟩
def tDNewT:TE:=λ _ H Q=>∀ p,H p=none->Q (.ref p) (upd H p (.dT []))
section
variable {X:Cx} {pos:Pos}
def zeC:PE X (.Dict [] [] pos) tDNewT:=λ m5 s σ H Q I h =>
 wpAny_Dict_empty ⟨.ref s.heap.objs.size,_,I.laid (a:=s.heap.objs.size) (o:=.dT []) (t':=s.toks) (λ _ _ q=>aj _ q) (au _) (zff s.heap I.big),rfl,h _ (I.hok.fresh (au _))⟩
end
section
variable {X:Cx} {m5:A4} {σ:St} {H:Hp} {s:Ap} {a:Addr} {y d:V} {u r:Ao} {o:As} {A:Aq} {E:A5}
end
section
variable {X:Cx} {o e f:Expr} {apos cpos:Pos} {td ty tx:TE}
end
section
variable {κ:Type} [DecidableEq κ]
end
end L2
namespace L2
open PySem PySem.Spec PySem.Calls PyProof.Rows
section
variable {X:Cx}
end
end L2
namespace L2
open PySem PySem.Spec PyProof.Rows
variable {items:Af}
section
variable {prog:Ah} {w:World} {A:Aq} {E:A5} {s:Ap} {it d:Addr} {i ep:Nat} {es:Array DictEntry} {od:Obj}
end
theorem wm {α β:Type} {F:α->β->Prop}:∀ {l₁:List α} {l₂:List β},Paired F l₁ l₂->∀ {i:Nat} {x:α} {y:β},l₁[i]?=some x->l₂[i]?=some y->F x y
 | _,_,.nil,_,_,_,h,_=>nomatch h
 | _,_,.cons r t,0,_,_,h,h'=>by cases h;cases h';exact r
 | _,_,.cons r t,i + 1,_,_,h,h'=>wm t h h'
section
variable {prog:Ah} {w:World}
structure KItem (prog:Ah) (w:World) (κ:Type) [DecidableEq κ] (d:Nat) where
 is:Heap->κ->Value->Prop
 hash:κ->Int
 draws:κ->Nat
 inj:∀ {h:Heap} {v:Ao} {x y:κ},is h x v->is h y v->x=y
 keeps:∀ {h h':Heap} {k:κ} {v:Ao} {a:Addr} {o:Obj} {es:Array DictEntry} {ep:Nat},is h k v->h.get? a=some o->o.data=.dict es ep->Heap.SameBut a h h'->is h' k v
 pyHash:∀ {A:Aq} {E:A5} {s:Ap} {k:κ} {v:Ao} {Q:Int->Shared->Prop},A.units + d < cLine->is s.heap k v->Q (hash k) { s with toks:=s.toks + draws k }->wpAny (model prog w) A (PySem.pyHash v) Q E s
 eq:∀ {A:Aq} {s:Ap} {x y:κ} {u v:Ao},A.units + d < cLine->is s.heap x u->is s.heap y v->SeqAt.EqAt A s u v (decide (x=y))
 quiet:∀ {A:Aq} {E:A5} {s:Ap} {n:Nat} {k:κ} {v:Ao} {Q:Bool->Shared->Prop},d<=n->is s.heap k v->Q true s->wpAny (model prog w) A (eqIsQuiet n v) Q E s
noncomputable def oiV:Option Int->V
 | none=>.non
 | some n=>.int n
def ZW (x:Ab):xF (oiV x)=true:=by cases x <;> rfl
def zeI (x y:Ab):eqV (oiV x) (oiV y)=decide (x=y):=by
 cases x with
 | none=>cases y <;> simp [oiV,eqV]
 | some a =>
  cases y with
  | none=>simp [oiV,eqV]
  | some b =>
   show (a == b)=decide (some a=some b)
   by_cases e:a=b <;> simp [e]
def zf2 {x y:Ab} {v:Ao} (h1:RelV (oiV x) v) (h2:RelV (oiV y) v):x=y:=by
 cases x <;> cases y
 ·rfl
 ·cases h1;obtain ⟨t,e⟩:=h2;cases e
 ·cases h2;obtain ⟨t,e⟩:=h1;cases e
 ·obtain ⟨t,rfl⟩:=h1;obtain ⟨t,e⟩:=h2;cases e;rfl
noncomputable def zif:Option Int->Int
 | none=>reduceHash 0xFCA86420
 | some n=>hashInt n
def zaz {x:Ab} {v:Ao} (h:RelV (oiV x) v):carriedByValue v=true:=by
 cases x with
 | none=>cases h;rfl
 | some n=>obtain ⟨t,rfl⟩:=h;rfl
noncomputable def jI (prog:Ah) (w:World):KItem prog w Ab 0 where
 is:=λ _ k v=>RelV (oiV k) v
 hash:=zif
 draws:=λ _=>1
 inj:=zf2
 keeps:=λ h _ _ _=>h
 pyHash:=by
  intro A E s k v Q hu h q;cases k with
  | none =>
   cases h;exact fM (T:="NoneType") rfl F.slot_NoneType_hash F.entry_NoneType_hash (F.args_NoneType_hash_1 _) (beq_builtin_none _) (.inr (by lia)) (af (aD (af (wpAny_mkInt (aD ⟨_,_,rfl,q⟩)))))
  | some n =>
   obtain ⟨t,rfl⟩:=h;exact wpAny_pyHash_int q
 eq:=by
  intro A s x y u v hu h1 h2;rw [<- zeI];exact QM h1 h2 (ZW x) (ZW y)
 quiet:=by
  intro A E s n k v Q _ h q;rw [eqIsQuiet_byValue _ (zaz h)];exact aD q
inductive HashAll (prog:Ah) (w:World) (d:Nat) (hp:Heap):List Value->List (Int × Nat)->Prop
 | nil:HashAll prog w d hp [] []
 | cons {v:Ao} {h:Int × Nat} {vs:A9} {hs:List (Int × Nat)}:(∀ (A:Aq) (E:A5) (s:Ap) (Q:Int->Shared->Prop),s.heap=hp->A.units + d < cLine->Q h.1 { s with toks:=s.toks + h.2 }->wpAny (model prog w) A (PySem.pyHash v) Q E s)->HashAll prog w d hp vs hs->HashAll prog w d hp (v :: vs) (h :: hs)
theorem WD {d:Nat} {hp:Heap} {A:Aq} {E:A5} (hu:A.units + d < cLine):∀ {vs:A9} {hs:List (Int × Nat)} {s:Ap} {b:Array Int} {Q:Array Int->Shared->Prop},HashAll prog w d hp vs hs->s.heap=hp->(∀ b',b'.toList=b.toList ++ hs.map (·.1)->Q b' { s with toks:=s.toks + (hs.map (·.2)).sum }) ->
  wpAny (model prog w) A (forIn vs b λ x r=>do let h <- PySem.pyHash x;pure PUnit.unit;pure (ForInStep.yield (r.push h))) Q E s
 | _,_,s,b,Q,.nil,_,h=>aD (h b (by simp))
 | _,_,s,b,Q,.cons (h:=h0) x r,e,h=>by
  rw [fA];refine af (af (x A E s _ e hu ?_));refine af (aD (aD ?_));refine WD hu r (by exact e) λ b' hb=>?_;have:=h b' (by simp [hb]);simpa [Nat.add_assoc] using this
def zaR {d:Nat} {a:Addr} {hs:List (Int × Nat)} {A:Aq} {E:A5} {s:Ap} {Q:Int->Shared->Prop} (hT:IsTup s.heap a items) (all:HashAll prog w d s.heap items.toList hs) (hu:A.units + (d + 1) < cLine)
  (h:Q (reduceHash (Builtin.Tuple.tupleHashOf (hs.map (·.1)))) { s with toks:=s.toks + ((hs.map (·.2)).sum + 1) }):wpAny (model prog w) A (PySem.pyHash (.ref a)) Q E s:=by
 obtain ⟨o,ho,hc,n,hd⟩:=hT;refine fM (T:="tuple") ⟨_,ho,hc⟩ F.slot_tuple_hash F.entry_tuple_hash (F.args_tuple_hash_1 _) (beq_builtin_none _) (.inr (by lia)) ?_;show wpAny _ _ (Builtin.Tuple.tupleItemsOf (.ref a) >>= _) _ _ s
 refine af (wpAny_tupleItemsOf ho hd ?_);refine af ?_;rw [<- gb];refine WD (d:=d) (by simp only [fj];lia) all rfl λ b hb=>?_;show wpAny _ _ (retInt (Builtin.Tuple.tupleHashOf b.toList)) _ _ _
 rw [hb];exact af (wpAny_mkInt (aD ⟨_,_,rfl,by simpa [Nat.add_assoc] using h⟩))
def Wj {d:Nat} {a:Addr} {A:Aq} {E:A5} {s:Ap} {Q:Bool->Shared->Prop} {n:Nat} (hT:IsTup s.heap a items) (all:∀ v∈items.toList,∀ (A:Aq) (E:A5) (Q:Bool->Shared->Prop),Q true s->wpAny (model prog w) A (eqIsQuiet n v) Q E s) (h:Q true s):wpAny (model prog w) A (eqIsQuiet (n + 1) (.ref a)) Q E s:=by
 obtain ⟨o,ho,hc,m,hd⟩:=hT;have hT:s.TypeIs (.ref a) "tuple":=⟨o,ho,hc⟩;unfold eqIsQuiet;refine af (dR hT F.slot_tuple_eq.lookup ?_);show wpAny _ _ (isInstance (.ref a) (.type "tuple") >>= _) _ _ s
 refine af (fe hT isSubtype_tuple_tuple ?_);simp only [fi,cA,dM];refine af (bE ho hd ?_);refine af ?_;show wpAny _ _ (forIn items _ _) _ _ s
 rw [<- gb];refine wpAny_forIn_list _ (λ rest r s'=>r.1=none/\s'=s/\∀ v∈rest,v∈items.toList) _ ?_ ?_ _ _ ⟨rfl,rfl,λ v hv=>hv⟩
 ·rintro v rest r s' ⟨hr,rfl,hall⟩;refine af (all v (hall v bX) _ _ _ ?_);simp only [fi,cA,dM];exact aD ⟨rfl,rfl,λ u hu'=>hall u (aF _ hu')⟩
 ·rintro ⟨r1,r2⟩ s' ⟨hr,rfl,_⟩;simp only at hr;subst hr;exact aD h
def Xq {h h':Heap} {b a:Addr} {o:Obj} {es:Array DictEntry} {ep:Nat} (x:IsTup h b items) (ho:h.get? a=some o) (hd:o.data=.dict es ep) (hs:Heap.SameBut a h h'):IsTup h' b items:=by
 obtain ⟨o',h1,h2,n,h3⟩:=x;have ne:b≠a:=λ z=>by
  subst z;rw [ho] at h1;cases h1;rw [hd] at h3;cases h3
 exact ⟨o',(hs.2 b ne).trans h1,h2,n,h3⟩
def vV {h:Heap} {b:Addr} {xs ys:Af} (x:IsTup h b xs) (y:IsTup h b ys):xs=ys:=by
 obtain ⟨o,h1,_,n,h3⟩:=x;obtain ⟨o',g1,_,m,g3⟩:=y;rw [h1] at g1;cases g1;rw [h3] at g3;injection g3
def zhL {κ:Type} [DecidableEq κ] {xs ys:List κ}:((List.range (min xs.length ys.length)).all (λ j=>decide (xs[j]?=ys[j]?)) && xs.length == ys.length)=decide (xs=ys):=by
 by_cases e:xs=ys
 ·subst e;simp
 ·rw [aW e];by_cases hl:xs.length=ys.length
  ·have:¬ (List.range (min xs.length ys.length)).all (λ j=>decide (xs[j]?=ys[j]?))=true:=λ z=>e (eT λ j=>by
    rw [bM] at z;by_cases hj:j < xs.length
    ·exact bT (z j (dN.mpr (by lia)))
    ·rw [aZ (by lia),aZ (by lia)])
   simp only [Bool.not_eq_true] at this;rw [this]
   rfl
  ·have:(xs.length == ys.length)=false:=a9.mpr hl;rw [this,cG]
section
variable {κ:Type} [DecidableEq κ] {d:Nat}
theorem ZB {F:κ->Value->Prop} (f:∀ (x y:κ) (v:Ao),F x v->F y v->x=y):∀ {xs ys:List κ} {vs:A9},Paired F xs vs->Paired F ys vs->xs=ys
 | _,_,_,.nil,h=>by cases h;rfl
 | _,_,_,.cons a t,h=>by
  cases h with
  | cons b u=>rw [f _ _ _ a b,ZB f t u]
def zaK {n d e c:Nat} (l:d<=e) (h:n + e < c):n + d < c:=c9 (fP l n) h
def zie {A:Aq} {e c:Nat} (h:A.units + (e + 1) < c):A.in1.units + e < c:=by
 simp only [fj]
 lia
def zea {n d:Nat} (h:d + 1<=n):∃ m,n=m + 1/\d<=m:=⟨n - 1,by lia,by lia⟩
noncomputable def vL (I:KItem prog w κ d):KItem prog w (List κ) (d + 1) where
 is:=λ h ks v=>∃ a items,v=.ref a/\IsTup h a items/\Paired (I.is h) ks items.toList
 hash:=λ ks=>reduceHash (Builtin.Tuple.tupleHashOf (ks.map I.hash))
 draws:=λ ks=>(ks.map I.draws).sum + 1
 inj:=by
  rintro h v x y ⟨a,items,rfl,h1,h2⟩ ⟨b,items',e,g1,g2⟩;cases e;have:=vV h1 g1;subst this;exact ZB (F:=I.is h) (λ _ _ _ p q=>I.inj p q) h2 g2
 keeps:=by
  rintro h h' k v a o es ep ⟨b,items,rfl,h1,h2⟩ ho hd hs;exact ⟨b,items,rfl,Xq h1 ho hd hs,Paired.mapP h2 λ p q z=>I.keeps z ho hd hs⟩
 pyHash:=by
  rintro A E s k v Q hu ⟨b,items,rfl,h1,h2⟩ q;have all:∀ {ks:List κ} {vs:A9},Paired (I.is s.heap) ks vs->HashAll prog w d s.heap vs (ks.map λ k=>(I.hash k,I.draws k)):=by
   intro ks vs p
   induction p with
   | nil=>exact .nil
   | cons z _ ih=>exact .cons (λ A E s' Q e hu q=>I.pyHash hu (by rw [e];exact z) q) ih
  refine zaR h1 (all h2) hu ?_;rw [eQ,eQ];exact q
 eq:=by
  rintro A s x y u v hu ⟨a,xs,rfl,h1,h2⟩ ⟨b,ys,rfl,g1,g2⟩;by_cases e:a=b
  ·subst e;have:=vV h1 g1;subst this;rw [ZB (F:=I.is s.heap) (λ _ _ _ p q=>I.inj p q) h2 g2,bp rfl];exact dU _
  ·refine cI e ?_;have l1:x.length=xs.size:=by rw [cC h2,cY]
   have l2:y.length=ys.size:=by rw [cC g2,cY]
   have:=cT (A:=A) (s:=s) (e:=λ j=>decide (x[j]?=y[j]?)) h1 g1 (by lia) (λ j hj1 hj2=>by
    obtain ⟨k1,e1⟩:∃ k,x[j]?=some k:=⟨x[j]'(by lia),ac _⟩;obtain ⟨k2,e2⟩:∃ k,y[j]?=some k:=⟨y[j]'(by lia),ac _⟩;have p1:=wm h2 e1 (show xs.toList[j]?=some xs[j] by rw [cM,e6 hj1]);have p2:=wm g2 e2 (show ys.toList[j]?=some ys[j] by rw [cM,e6 hj2]);rw [e1,e2,show decide (some k1=some k2)=decide (k1=k2) by simp];exact I.eq (zie hu) p1 p2)
   rw [<- l1,<- l2,zhL] at this;exact this
 quiet:=by
  rintro A E s n k v Q hn ⟨b,items,rfl,h1,h2⟩ q;obtain ⟨m,rfl,hm⟩:=zea hn;refine Wj (d:=d) h1 (λ v hv A E Q q=>?_) q;obtain ⟨j,hj⟩:=List.mem_iff_getElem?.mp hv;have hl:=(aa.mp hj).1;obtain ⟨k1,e1⟩:∃ x,k[j]?=some x:=⟨k[j]'(by rw [cC h2];exact hl),ac _⟩;exact I.quiet hm (wm h2 e1 hj) q
end
section
variable {κ1 κ2 κ3 κ4:Type} [DecidableEq κ1] [DecidableEq κ2] [DecidableEq κ3] [DecidableEq κ4] {d1 d2 d3 d4:Nat}
inductive QIs (I1:KItem prog w κ1 d1) (I2:KItem prog w κ2 d2) (I3:KItem prog w κ3 d3) (I4:KItem prog w κ4 d4) (h:Heap) (k:κ1 × κ2 × κ3 × κ4) (v:Ao):Prop
 | i (a:Addr) (u1 u2 u3 u4:Ao):v=.ref a->IsTup h a #[u1,u2,u3,u4]->I1.is h k.1 u1->I2.is h k.2.1 u2->I3.is h k.2.2.1 u3->I4.is h k.2.2.2 u4->QIs I1 I2 I3 I4 h k v
noncomputable def zey (I1:KItem prog w κ1 d1) (I2:KItem prog w κ2 d2) (I3:KItem prog w κ3 d3) (I4:KItem prog w κ4 d4) (d:Nat) (l1:d1<=d) (l2:d2<=d) (l3:d3<=d) (l4:d4<=d):KItem prog w (κ1 × κ2 × κ3 × κ4) (d + 1) where
 is:=QIs I1 I2 I3 I4
 hash:=λ k=>reduceHash (Builtin.Tuple.tupleHashOf [I1.hash k.1,I2.hash k.2.1,I3.hash k.2.2.1,I4.hash k.2.2.2])
 draws:=λ k=>[I1.draws k.1,I2.draws k.2.1,I3.draws k.2.2.1,I4.draws k.2.2.2].sum + 1
 inj:=by
  rintro h v ⟨x1,x2,x3,x4⟩ ⟨y1,y2,y3,y4⟩ ⟨a,u1,u2,u3,u4,rfl,h1,i1,i2,i3,i4⟩ ⟨b,v1,v2,v3,v4,e,g1,j1,j2,j3,j4⟩;cases e;have:=vV h1 g1;cases this;simp only at i1 i2 i3 i4 j1 j2 j3 j4;rw [I1.inj i1 j1,I2.inj i2 j2,I3.inj i3 j3,I4.inj i4 j4]
 keeps:=by
  rintro h h' k v a o es ep ⟨b,u1,u2,u3,u4,rfl,h1,i1,i2,i3,i4⟩ ho hd hs;exact ⟨b,u1,u2,u3,u4,rfl,Xq h1 ho hd hs,I1.keeps i1 ho hd hs,I2.keeps i2 ho hd hs,I3.keeps i3 ho hd hs,I4.keeps i4 ho hd hs⟩
 pyHash:=by
  rintro A E s k v Q hu ⟨b,u1,u2,u3,u4,rfl,h1,i1,i2,i3,i4⟩ q;refine zaR (d:=d) (hs:=[(I1.hash k.1,I1.draws k.1),(I2.hash k.2.1,I2.draws k.2.1),(I3.hash k.2.2.1,I3.draws k.2.2.1),(I4.hash k.2.2.2,I4.draws k.2.2.2)]) h1 ?_ hu q;exact .cons (λ A E s' Q e hu q=>I1.pyHash (zaK l1 hu) (by rw [e];exact i1) q) (.cons (λ A E s' Q e hu q=>I2.pyHash (zaK l2 hu) (by rw [e];exact i2) q) (.cons (λ A E s' Q e hu q=>I3.pyHash (zaK l3 hu) (by rw [e];exact i3) q) (.cons (λ A E s' Q e hu q=>I4.pyHash (zaK l4 hu) (by rw [e];exact i4) q) .nil)))
 eq:=by
  rintro A s ⟨x1,x2,x3,x4⟩ ⟨y1,y2,y3,y4⟩ u v hu ⟨a,u1,u2,u3,u4,rfl,h1,i1,i2,i3,i4⟩ ⟨b,v1,v2,v3,v4,rfl,g1,j1,j2,j3,j4⟩;simp only at i1 i2 i3 i4 j1 j2 j3 j4;by_cases e:a=b
  ·subst e;have:=vV h1 g1;cases this;rw [I1.inj i1 j1,I2.inj i2 j2,I3.inj i3 j3,I4.inj i4 j4,bp rfl];exact dU _
  ·refine cI e ?_;have hu':=zie hu;have:=cT (A:=A) (s:=s) (e:=λ j=>[decide (x1=y1),decide (x2=y2),decide (x3=y3),decide (x4=y4)].getD j true) h1 g1 (by lia) (λ j hj1 hj2=>by
    match j,hj1,hj2 with
    | 0,_,_=>exact I1.eq (zaK l1 hu') i1 j1
    | 1,_,_=>exact I2.eq (zaK l2 hu') i2 j2
    | 2,_,_=>exact I3.eq (zaK l3 hu') i3 j3
    | 3,_,_=>exact I4.eq (zaK l4 hu') i4 j4)
   have z:((List.range (min (#[u1,u2,u3,u4]:Af).size (#[v1,v2,v3,v4]:Af).size)).all (λ j=>[decide (x1=y1),decide (x2=y2),decide (x3=y3),decide (x4=y4)].getD j true) && (#[u1,u2,u3,u4]:Af).size == (#[v1,v2,v3,v4]:Af).size)=decide ((x1,x2,x3,x4)=(y1,y2,y3,y4)):=by
    show ((List.range 4).all _ && true)=_
    rw [show List.range 4=[0,1,2,3] from rfl];simp only [all_cons,List.all_nil,dX,List.getD_cons_zero,List.getD_cons_succ,Prod.mk.injEq,Bool.decide_and]
   rw [z] at this;exact this
 quiet:=by
  rintro A E s n k v Q hn ⟨b,u1,u2,u3,u4,rfl,h1,i1,i2,i3,i4⟩ q;obtain ⟨m,rfl,hm⟩:=zea hn;refine Wj (d:=d) h1 (λ v hv A E Q q=>?_) q;have hv:v=u1\/v=u2\/v=u3\/v=u4:=by simpa using hv
  rcases hv with rfl|rfl|rfl|rfl
  ·exact I1.quiet (ba l1 hm) i1 q
  ·exact I2.quiet (ba l2 hm) i2 q
  ·exact I3.quiet (ba l3 hm) i3 q
  ·exact I4.quiet (ba l4 hm) i4 q
end
abbrev ShK:=Option Int × List (List Ab) × List Ab × List Ab
noncomputable def jv (prog:Ah) (w:World):KItem prog w ShK 3:=zey (jI prog w) (vL (vL (jI prog w))) (vL (jI prog w)) (vL (jI prog w)) 2 (by decide) (by decide) (by decide) (by decide)
noncomputable def wa (prog:Ah) (w:World):HeapKind prog w ShK where
 is:=λ h k a=>(jv prog w).is h k (.ref a)
 hash:=(jv prog w).hash
 draws:=(jv prog w).draws
 room:=λ A=>A.units + 3 < cLine
 inj:=λ hx hy=>(jv prog w).inj hx hy
 keeps:=λ x ho hd hs=>(jv prog w).keeps x ho hd hs
 pyHash:=λ hu hk h=>(jv prog w).pyHash hu hk h
 eqBool:=λ hu hx hy h=>(jv prog w).eq hu hx hy prog w _ _ h
 quiet:=λ hk h=>(jv prog w).quiet (by decide) hk h
end
noncomputable def oiD:Option Int->D
 | none=>.non
 | some n=>.int n
noncomputable def shD (k:ShK):D:=.tup [oiD k.1,.tup (k.2.1.map λ r=>.tup (r.map oiD)),.tup (k.2.2.1.map oiD),.tup (k.2.2.2.map oiD)]
theorem Wn {α β:Type} {F:α->β->Prop}:∀ {xs:List α} {ys:List β},xs.length=ys.length->(∀ (i:Nat) x y,xs[i]?=some x->ys[i]?=some y->F x y)->Paired F xs ys
 | [],[],_,_=>.nil
 | [],_ :: _,h,_=>by simp at h
 | _ :: _,[],h,_=>by simp at h
 | x :: xs,y :: ys,h,f=>.cons (f 0 x y rfl rfl) (Wn (by simpa using h) λ i a b e1 e2=>f (i + 1) a b e1 e2)
section
variable {P:Ah} {w:World} {H:Hp} {h:Heap} {p:A7}
def Z9 {x:Ab} {v:V} {u:Ao} (r:Rep H p v (oiD x)) (e:RelV v u):(jI P w).is h x u:=by
 cases x with
 | none =>
  have r:Rep H p v .non:=r;cases r;exact e
 | some n =>
  have r:Rep H p v (.int n):=r;cases r;exact e
def Jk {κ:Type} [DecidableEq κ] {d:Nat} (ok:HOk P w H h) {I:KItem P w κ d} {f:κ->D} (hI:∀ x v u,Rep H p v (f x)->RelV v u->I.is h x u) {xs:List κ} {v:V} {u:Ao} (r:Rep H p v (.tup (xs.map f))) (e:RelV v u):(vL I).is h xs u:=by
 obtain ⟨t,us,rfl,_,ht,rr⟩:=Rep.tup' r;obtain ⟨_,mM,vals,isT⟩:=(show ObjOk P w H h t (.tup us) from ok t _ ht);refine ⟨t,mM.toArray,e,isT,Wn ?_ λ i x y e1 e2=>?_⟩
 ·rw [fQ,<- vals.length,rr.len,ai]
 ·rw [fQ] at e2;obtain ⟨v',hv',rv⟩:=rr.of (i:=i) (d:=f x) (by rw [am,e1];rfl);exact hI x v' y rv (wm vals hv' e2)
theorem zcQ {α:Type} {n:Nat}:∀ {us:List α},us.length=n + 1->∃ v w,us=v :: w/\w.length=n
 | v :: w,h=>⟨v,w,rfl,by simpa using h⟩
def zcq {v:V} {vs:Ar} {us:A9} (h:Vals (v :: vs) us):∃ u ws,us=u :: ws/\RelV v u/\Vals vs ws:=by
 cases h with
 | cons a b=>exact ⟨_,_,rfl,a,b⟩
def vN (ok:HOk P w H h) {k:ShK} {b:Addr} (r:Rep H p (.ref b) (shD k)):(wa P w).is h k b:=by
 obtain ⟨t,us,e,_,ht,rr⟩:=Rep.tup' r;cases e;obtain ⟨_,mM,vals,isT⟩:=(show ObjOk P w H h b (.tup us) from ok b _ ht);have g:=rr.g;obtain ⟨v1,w1,rfl,l1⟩:=zcQ rr.len;obtain ⟨v2,w2,rfl,l2⟩:=zcQ l1;obtain ⟨v3,w3,rfl,l3⟩:=zcQ l2;obtain ⟨v4,w4,rfl,l4⟩:=zcQ l3;cases bz.mp l4;obtain ⟨u1,z1,rfl,q1,vals⟩:=zcq vals;obtain ⟨u2,z2,rfl,q2,vals⟩:=zcq vals;obtain ⟨u3,z3,rfl,q3,vals⟩:=zcq vals;obtain ⟨u4,z4,rfl,q4,vals⟩:=zcq vals;cases vals;have k1:=Z9 (P:=P) (w:=w) (h:=h) (g 0 v1 _ rfl rfl) q1;have k2:=Jk ok (I:=vL (jI P w)) (λ x v u r e=>Jk ok (I:=jI P w) (λ x v u r e=>Z9 r e) r e) (g 1 v2 _ rfl rfl) q2;have k3:=Jk ok (I:=jI P w) (λ x v u r e=>Z9 r e) (g 2 v3 _ rfl rfl) q3;have k4:=Jk ok (I:=jI P w) (λ x v u r e=>Z9 r e) (g 3 v4 _ rfl rfl) q4;exact ⟨b,u1,u2,u3,u4,rfl,isT,k1,k2,k3,k4⟩
end
noncomputable def toV (x:ShK × Addr × Addr):ShK × Addr × Value:=(x.1,x.2.1,.ref x.2.2)
noncomputable def sdO (P:Ah) (w:World) (D:Addr) (xs:List (ShK × Addr × Addr)):HO:=.ext λ h=>((D == sysModules)=false/\xs.length<=sizeLine/\(xs.map (·.1)).Nodup)/\∃ o es ep,h.get? D=some o/\o.ExactDict/\o.data=.dict es ep/\es.toList=(xs.map toV).map (entryOfKey (wa P w))
def keysOk (H:Hp) (xs:List (ShK × Addr × Addr)):Prop:=∀ x∈xs,∃ p:Addr->Prop,Rep H p (.ref x.2.1) (shD x.1)
noncomputable def xP (xs:List (ShK × Addr × Addr)) (k:ShK):Option Addr:=(xs.find? λ x=>decide (x.1=k)).map (·.2.2)
theorem Z4 (k:ShK):∀ xs:List (ShK × Addr × Addr),(atKey (xs.map toV) k).map (·.2)=(xP xs k).map Value.ref
 | []=>rfl
 | x :: xs=>by
  have ih:=Z4 k xs;unfold atKey xP at ih ⊢;rw [bR,cX,cX];show Option.map _ (Option.map _ (match decide (x.1=k) with|true=>some (toV x)|false=>_))=_
  by_cases e:x.1=k
  ·rw [bp e];rfl
  ·rw [aW e];exact ih
def keysOk.same {H H':Hp} {xs:List (ShK × Addr × Addr)} (h:keysOk H xs) (s:∀ b ys,H b=some (.tup ys)->H' b=some (.tup ys)) (t:∀ x∈xs,∃ p:Addr->Prop,Rep H p (.ref x.2.1) (shD x.1)/\∀ b o,p b->H b=some o->H' b=some o):keysOk H' xs:=λ x hx=>by
 obtain ⟨p,r,k⟩:=t x hx;exact ⟨p,r.keep λ b o pb hb=>⟨pb,k b o pb hb⟩⟩
def zcl {P:Ah} {w:World} {H:Hp} {h:Heap} {D:Addr} {xs:List (ShK × Addr × Addr)} (ok:HOk P w H h) (e:H D=some (sdO P w D xs)) (ks:keysOk H xs):(D == sysModules)=false/\xs.length<=sizeLine/\(xs.map (·.1)).Nodup/\h.DictOfH (wa P w) D (xs.map toV):=by
 obtain ⟨⟨⟨h1,h2,h3⟩,o,es,ep,g1,g2,g3,g4⟩,_,_⟩:=(show ObjOk P w H h D (sdO P w D xs) from ok D _ e);refine ⟨h1,h2,h3,o,es,ep,g1,g2,g3,g4,λ x hx=>?_,by rw [eQ];exact h3⟩;obtain ⟨y,hy,rfl⟩:=be.mp hx;obtain ⟨p,r⟩:=ks y hy;exact vN ok r
def zgz {P:Ah} {w:World} {H:Hp} {h:Heap} {D:Addr} {xs:List (ShK × Addr × Addr)} (h1:(D == sysModules)=false) (h2:xs.length<=sizeLine) (h3:(xs.map (·.1)).Nodup) (g:∃ o es ep,h.get? D=some o/\o.ExactDict/\o.data=.dict es ep/\es.toList=(xs.map toV).map (entryOfKey (wa P w))):ObjOk P w H h D (sdO P w D xs):=by
 refine ⟨⟨⟨h1,h2,h3⟩,g⟩,?_,?_⟩
 ·obtain ⟨o,_,_,g1,_⟩:=g;exact ⟨o,g1⟩
 ·rintro k1 k2 ⟨a,o,es,ep,g1,g2⟩ k;exact ⟨a,o,es,ep,k o g1,g2⟩
section
variable {X:Cx} {m5:A4} {σ:St} {H:Hp} {s:Ap} {D b y:Addr} {A:Aq} {E:A5} {xs:List (ShK × Addr × Addr)} {k:ShK} {p:A7}
def Zq (hu:A.units + 100 < cLine):(wa X.prog X.w).room A.in1:=by
 show A.in1.units + 3 < cLine
 simp only [fj]
 lia
def ziE {Q:A5} (hu:A.units + 100 < cLine) (I:Inv X m5 σ H s) (e:H D=some (sdO X.prog X.w D xs)) (ks:keysOk H xs) (r:Rep H p (.ref b) (shD k)) (h:∀ s',Inv X m5 σ H s'->Q (.bool (xP xs k).isSome) s'):wpAny (model X.prog X.w) A (compareOp .In (.ref b) (.ref D)) Q E s:=by
 obtain ⟨h1,h2,h3,dd⟩:=zcl I.hok e ks;refine wpAny_in_heap (Zq hu) (vN I.hok r) h1 dd ?_;have q:=bt Option.isSome (Z4 k xs);rw [dj,dj] at q;rw [q];exact h _ (I.tok _)
def zh1 {Q:A5} (hu:A.units + 100 < cLine) (I:Inv X m5 σ H s) (e:H D=some (sdO X.prog X.w D xs)) (ks:keysOk H xs) (r:Rep H p (.ref b) (shD k)) (l:xP xs k=some y) (h:∀ s',Inv X m5 σ H s'->Q (.ref y) s'):wpAny (model X.prog X.w) A (getItem (.ref D) (.ref b)) Q E s:=by
 obtain ⟨h1,h2,h3,dd⟩:=zcl I.hok e ks;have q:=Z4 k xs;rw [l] at q;obtain ⟨z,hz,e2⟩:=ao.mp q;refine wpAny_getItem_heap (Zq hu) (vN I.hok r) dd hz ?_;rw [e2];exact h _ (I.tok _)
def zh0 {Q:Ai} (hu:A.units + 100 < cLine) (I:Inv X m5 σ H s) (e:H D=some (sdO X.prog X.w D xs)) (ks:keysOk H xs) (r:Rep H p (.ref b) (shD k)) (l:xP xs k=none) (hl:xs.length < sizeLine) (h:∀ s',Inv X m5 σ (upd H D (sdO X.prog X.w D (xs ++ [(k,b,y)]))) s'->Q () s'):wpAny (model X.prog X.w) A (setItem (.ref D) (.ref b) (.ref y)) Q E s:=by
 obtain ⟨h1,h2,h3,dd⟩:=zcl I.hok e ks;have q:=Z4 k xs;rw [l] at q;have q:atKey (xs.map toV) k=none:=by simpa using q
 refine wpAny_setItem_heap (hsz:=by rw [ai];exact h2) (Zq hu) (vN I.hok r) dd λ h' dd' hs=>h _ ?_;rw [storedH_new q] at dd';obtain ⟨o,es,ep,g1,g2,g3,g4,_,g5⟩:=dd';refine VI I (by rw [e];exact True.intro) hs ⟨o,g1⟩ (zgz h1 (by simp;lia) ?_ ⟨o,es,ep,g1,g2,g3,?_⟩)
 ·have:(xs ++ [(k,b,y)]).map (·.1)=((xs.map toV ++ [(k,b,Value.ref y)]).map (·.1)):=by simp [toV]
  rw [this];exact g5
 ·rw [g4];simp [toV]
end
def tSIn (P:Ah) (w:World) (ty td:TE):TE:=λ σ H Q=>ty σ H λ y H1=>td σ H1 λ x H2=>∃ D b xs k p,x=.ref D/\y=.ref b/\H2 D=some (sdO P w D xs)/\keysOk H2 xs/\Rep H2 p (.ref b) (shD k)/\Q (.bl (xP xs k).isSome) H2
def tSGet (P:Ah) (w:World) (td ty:TE):TE:=λ σ H Q=>td σ H λ x H1=>ty σ H1 λ y H2=>∃ D b xs k p z,x=.ref D/\y=.ref b/\H2 D=some (sdO P w D xs)/\keysOk H2 xs/\Rep H2 p (.ref b) (shD k)/\xP xs k=some z/\Q (.ref z) H2
def sSPut (P:Ah) (w:World) (td ty tv:TE):TS:=λ N σ H=>tv σ H λ v H1=>td σ H1 λ x H2=>ty σ H2 λ y H3=>∃ D b xs k p z,x=.ref D/\y=.ref b/\v=.ref z/\H3 D=some (sdO P w D xs)/\keysOk H3 xs/\Rep H3 p (.ref b) (shD k)/\xP xs k=none/\xs.length < sizeLine/\N.nx σ (upd H3 D (sdO P w D (xs ++ [(k,b,z)])))
def tSNew (P:Ah) (w:World):TE:=λ _ H Q=>∀ p,H p=none->Q (.ref p) (upd H p (sdO P w p []))
section
variable {X:Cx} {o i value:Expr} {pos pos':Pos} {td ty tv:TE}
def zg9 (hu:X.A.units + 100 < cLine) (hi:PE X i ty) (ho:PE X o td):PC X .In i o (tSIn X.prog X.w ty td):=by
 intro m5 s σ H Q I h;refine qL (hi m5 s σ H _ I h) λ iv s1 y H1 I1 ry q1=>qL (ho m5 s1 σ H1 _ I1 q1) λ u s2 x H2 I2 rx qq_=>?_;obtain ⟨D,b,xs,k,p,ex,ey,e,ks,r,q2⟩:=qq_;subst ex ey;obtain rfl:u=Value.ref D:=rx;obtain rfl:iv=Value.ref b:=ry;exact ziE hu I2 e ks r λ s3 I3=>⟨.bl _,H2,I3,rfl,q2⟩
def zfW (hu:X.A.units + 100 < cLine) (ho:PE X o td) (hi:PE X i ty) (hs:zhR i):PE X (.Subscript o i pos) (tSGet X.prog X.w td ty):=by
 intro m5 s σ H Q I h;refine zci eX.lookup hs (qL (ho m5 s σ H _ I h) λ u s1 x H1 I1 rx q1=>qL (hi m5 s1 σ H1 _ I1 q1) λ iv s2 y H2 I2 ry qq_=>?_);obtain ⟨D,b,xs,k,p,z,ex,ey,e,ks,r,l,q2⟩:=qq_;subst ex ey;obtain rfl:u=Value.ref D:=rx;obtain rfl:iv=Value.ref b:=ry;exact ⟨(zcl I2.hok e ks).2.2.2.typeIs,zh1 hu I2 e ks r l λ s3 I3=>⟨.ref z,H2,I3,rfl,q2⟩⟩
def zfS (hu:X.A.units + 100 < cLine) (ho:PE X o td) (hi:PE X i ty) (hv:PE X value tv) (hs:swapsWith value (some (.Subscript o i pos')) pos.line X.env=pure false) :
  PS X (.Assign [.Subscript o i pos'] value pos) (sSPut X.prog X.w td ty tv):=by
 intro m5 s σ H N I h;refine wpAny_Assign_Subscript (qL (hv m5 s σ H _ I h) λ r s1 v H1 I1 rv q1=>qL (ho m5 s1 σ H1 _ I1 q1) λ u s2 x H2 I2 rx q2=>qL (hi m5 s2 σ H2 _ I2 q2) λ iv s3 y H3 I3 ry qq_=>?_) hs;obtain ⟨D,b,xs,k,p,z,ex,ey,ez,e,ks,r',l,hl,q3⟩:=qq_;subst ex ey ez;obtain rfl:u=Value.ref D:=rx;obtain rfl:iv=Value.ref b:=ry;obtain rfl:r=Value.ref z:=rv;exact zh0 hu I3 e ks r' l hl λ s4 I4=>⟨σ,_,I4,q3⟩
def zfV:PE X (.Dict [] [] pos) (tSNew X.prog X.w):=λ m5 s σ H Q I h =>
 wpAny_Dict_empty ⟨.ref s.heap.objs.size,_,I.laid (a:=s.heap.objs.size) (o:=sdO X.prog X.w s.heap.objs.size []) (t':=s.toks) (λ _ _ q=>aj _ q) (au _) (zgz (a9.mpr (aX (aP I.big))) (bU _) nodup_nil ⟨_,#[],0,aE _ rfl,⟨rfl,rfl,rfl⟩,rfl,rfl⟩),rfl,h _ (I.hok.fresh (au _))⟩
end
section
variable {X:Cx} {G:GK} {x:Str} {np pos hpos:Pos} {body su:List Stmt} {b₀:Stmt} {tb:List (Addr × Obj)->GK->TS} {th:List (Addr × Obj)->Addr->TS}
def zgv (X:Cx) (x:Str) (tb:List (Addr × Obj)->GK->TS) (th:List (Addr × Obj)->Addr->TS):TS:=λ D σ H=>∃ Dc,X.mg x=some (.ref Dc)/\subIn X.K (.ref Dc) (.type "BaseException")=some true /\
 ∀ pn,tb pn (λ cls σ' H'=>∃ C,cls=.ref C/\kitCls X.K (.ref C) (.ref Dc)=some true/\∀ a,H' a=none->th pn a D σ' H') D σ H
theorem zg3 (B:Bod X) (hc:X.calm=true)
  (hb:∀ pn G',PSs ((X.pinned pn).exg G') body (tb pn G')) (hs:∀ pn a,PSs (X.suite pn a) (b₀ :: su) (th pn a)) (hg:Gl X x:=by rfl) (hdb:(x == ("__debug__":Str))=false:=by decide) :
  PS (X.exg G) (.Try body [.ExceptHandler (some (.Name x np)) none (b₀ :: su) hpos] [] [] pos) (zgv X x tb th):=by
 intro m5 s σ H D I h;obtain ⟨Dc,hm,hsub,h⟩:=h;have I1:=I.unwish.topn;refine wpAny_Try_except (aV (hb (X.pn ++ m5) _ [] s σ H D (I1.wish _) (h (X.pn ++ m5))) (λ f s1 q=>?_) λ e s1 q=>?_)
 ·cases f with
  | next =>
   obtain ⟨σ',H',J,q⟩:=q;exact dc ⟨σ',H',J.unwish.ofpn.wish _,q⟩
  | brk=>obtain ⟨σ',H',J,q⟩:=q;exact ⟨σ',H',J.unwish.ofpn.wish _,q⟩
  | cont=>obtain ⟨σ',H',J,q⟩:=q;exact ⟨σ',H',J.unwish.ofpn.wish _,q⟩
  | ret u=>obtain ⟨v,σ',H',J,r,q⟩:=q;exact ⟨v,σ',H',J.unwish.ofpn.wish _,r,q⟩
 ·refine aV (show wpAny _ _ _ _ _ _ from q) (λ _ s2 q2=>aV q2 (λ _ s3 q3=>?_) λ _ _ z=>z.elim) λ _ _ z=>z.elim;obtain ⟨a,cls,σ',H',rfl,J,xx,C,rfl,hk,hth⟩:=q3;have J2:Inv (X.suite (X.pn ++ m5) a) [] σ' H' s3:=J.tosuite;obtain ⟨oe,vs,he,hcls,_,_⟩:=xx.obj;refine wpAny_handleBy_cons (codeAny_handlers_test (xR J2 hg hm (zaS J2.kIn he hcls hk hsub ?_) hdb)) (by intro z;cases z);refine codeAny_handlers_suite ?_;refine zb4 J2 (xx.less λ p hp=>by rwa [bY] at hp) λ s4 J4 x4=>?_;refine aV (hs (X.pn ++ m5) a [] s4 _ _ _ J4 (hth a xx.Ha)) (λ f s6 q6=>?_) λ _ _ z=>False.elim z;cases f with
  | next=>obtain ⟨σ7,H7,J7,q7⟩:=q6;exact ⟨σ7,H7,(J7.ofsuite I.ok.hd).ofpn.wish _,q7⟩
  | brk=>obtain ⟨σ7,H7,J7,q7⟩:=q6;exact ⟨σ7,H7,(J7.ofsuite I.ok.hd).ofpn.wish _,q7⟩
  | cont=>obtain ⟨σ7,H7,J7,q7⟩:=q6;exact ⟨σ7,H7,(J7.ofsuite I.ok.hd).ofpn.wish _,q7⟩
  | ret u=>obtain ⟨v,σ7,H7,J7,r7,q7⟩:=q6;exact ⟨v,σ7,H7,(J7.ofsuite I.ok.hd).ofpn.wish _,r7,q7⟩
end
def Qe {X:Cx}:CallR X (.type "tuple") (λ xs H Q=>∃ p ys,xs=[.ref p]/\((SqL X.K H p ys/\∀ l,H l=none->Q (.ref l) (upd H l (.tup ys)))\/(SqT X.K H p ys/\Q (.ref p) H))):=X8
end L2
namespace L2
section
variable {G:Prop} {A B C D E F H I:Type}
def iE2 {k:A->B->Prop} (a:A) (b:B) (p:k a b):∃ a b,k a b:=⟨a,b,p⟩
def iE3 {k:A->B->C->Prop} (a:A) (b:B) (c:C) (p:k a b c):∃ a b c,k a b c:=⟨a,b,c,p⟩
def iE4 {k:A->B->C->D->Prop} (a:A) (b:B) (c:C) (d:D) (p:k a b c d):∃ a b c d,k a b c d:=⟨a,b,c,d,p⟩
def iE5 {k:A->B->C->D->E->Prop} (a:A) (b:B) (c:C) (d:D) (e:E) (p:k a b c d e):∃ a b c d e,k a b c d e:=⟨a,b,c,d,e,p⟩
def iE6 {k:A->B->C->D->E->F->Prop} (a:A) (b:B) (c:C) (d:D) (e:E) (f:F) (p:k a b c d e f):∃ a b c d e f,k a b c d e f:=⟨a,b,c,d,e,f,p⟩
def iE7 {k:A->B->C->D->E->F->H->Prop} (a:A) (b:B) (c:C) (d:D) (e:E) (f:F) (g:H) (p:k a b c d e f g):∃ a b c d e f g,k a b c d e f g:=⟨a,b,c,d,e,f,g,p⟩
def iE8 {k:A->B->C->D->E->F->H->I->Prop} (a:A) (b:B) (c:C) (d:D) (e:E) (f:F) (g:H) (i:I) (p:k a b c d e f g i):∃ a b c d e f g i,k a b c d e f g i:=⟨a,b,c,d,e,f,g,i,p⟩
def oE1 {k:A->Prop} (h:∃ a,k a) (w:∀ a,k a->G):G:=by obtain ⟨a,p⟩:=h;exact w a p
def oE2 {k:A->B->Prop} (h:∃ a b,k a b) (w:∀ a b,k a b->G):G:=by obtain ⟨a,b,p⟩:=h;exact w a b p
def oE3 {k:A->B->C->Prop} (h:∃ a b c,k a b c) (w:∀ a b c,k a b c->G):G:=by obtain ⟨a,b,c,p⟩:=h;exact w a b c p
def oE4 {k:A->B->C->D->Prop} (h:∃ a b c d,k a b c d) (w:∀ a b c d,k a b c d->G):G:=by obtain ⟨a,b,c,d,p⟩:=h;exact w a b c d p
def oE5 {k:A->B->C->D->E->Prop} (h:∃ a b c d e,k a b c d e) (w:∀ a b c d e,k a b c d e->G):G:=by obtain ⟨a,b,c,d,e,p⟩:=h;exact w a b c d e p
def oE6 {k:A->B->C->D->E->F->Prop} (h:∃ a b c d e f,k a b c d e f) (w:∀ a b c d e f,k a b c d e f->G):G:=by obtain ⟨a,b,c,d,e,f,p⟩:=h;exact w a b c d e f p
def oE7 {k:A->B->C->D->E->F->H->Prop} (h:∃ a b c d e f g,k a b c d e f g) (w:∀ a b c d e f g,k a b c d e f g->G):G:=by obtain ⟨a,b,c,d,e,f,g,p⟩:=h;exact w a b c d e f g p
def oE8 {k:A->B->C->D->E->F->H->I->Prop} (h:∃ a b c d e f g i,k a b c d e f g i) (w:∀ a b c d e f g i,k a b c d e f g i->G):G:=by obtain ⟨a,b,c,d,e,f,g,i,p⟩:=h;exact w a b c d e f g i p
end
section
variable {G A B C D E F H I J:Prop}
def iA3 (a:A) (b:B) (c:C):A/\B/\C:=⟨a,b,c⟩
def iA4 (a:A) (b:B) (c:C) (d:D):A/\B/\C/\D:=⟨a,b,c,d⟩
def iA5 (a:A) (b:B) (c:C) (d:D) (e:E):A/\B/\C/\D/\E:=⟨a,b,c,d,e⟩
def iA6 (a:A) (b:B) (c:C) (d:D) (e:E) (f:F):A/\B/\C/\D/\E/\F:=⟨a,b,c,d,e,f⟩
def iA7 (a:A) (b:B) (c:C) (d:D) (e:E) (f:F) (g:H):A/\B/\C/\D/\E/\F/\H:=⟨a,b,c,d,e,f,g⟩
def iA8 (a:A) (b:B) (c:C) (d:D) (e:E) (f:F) (g:H) (i:I):A/\B/\C/\D/\E/\F/\H/\I:=⟨a,b,c,d,e,f,g,i⟩
def iA9 (a:A) (b:B) (c:C) (d:D) (e:E) (f:F) (g:H) (i:I) (j:J):A/\B/\C/\D/\E/\F/\H/\I/\J:=⟨a,b,c,d,e,f,g,i,j⟩
def oA2 (h:A/\B) (k:A->B->G):G:=by obtain ⟨a,b⟩:=h;exact k a b
def oA3 (h:A/\B/\C) (k:A->B->C->G):G:=by obtain ⟨a,b,c⟩:=h;exact k a b c
def oA4 (h:A/\B/\C/\D) (k:A->B->C->D->G):G:=by obtain ⟨a,b,c,d⟩:=h;exact k a b c d
def oA5 (h:A/\B/\C/\D/\E) (k:A->B->C->D->E->G):G:=by obtain ⟨a,b,c,d,e⟩:=h;exact k a b c d e
def oA6 (h:A/\B/\C/\D/\E/\F) (k:A->B->C->D->E->F->G):G:=by obtain ⟨a,b,c,d,e,f⟩:=h;exact k a b c d e f
def oA7 (h:A/\B/\C/\D/\E/\F/\H) (k:A->B->C->D->E->F->H->G):G:=by obtain ⟨a,b,c,d,e,f,g⟩:=h;exact k a b c d e f g
def oA8 (h:A/\B/\C/\D/\E/\F/\H/\I) (k:A->B->C->D->E->F->H->I->G):G:=by obtain ⟨a,b,c,d,e,f,g,i⟩:=h;exact k a b c d e f g i
def oA9 (h:A/\B/\C/\D/\E/\F/\H/\I/\J) (k:A->B->C->D->E->F->H->I->J->G):G:=by obtain ⟨a,b,c,d,e,f,g,i,j⟩:=h;exact k a b c d e f g i j
end
end L2
namespace Mine
def ze9 {p r:Int} (hp:0<=p) (hr:0 < r):Int.gcd r (p % r)=Int.gcd p r:=by
 have e:(p % r).natAbs=p.natAbs % r.natAbs:=by
  have h1:p=(p.natAbs:Int):=by lia
  have h2:r=(r.natAbs:Int):=by lia
  rw [h1,h2,<- du,bN,bN,bN]
 show Nat.gcd r.natAbs (p % r).natAbs=Nat.gcd p.natAbs r.natAbs
 rw [e,Nat.gcd_comm p.natAbs,Nat.gcd_rec r.natAbs p.natAbs,Nat.gcd_comm]
def zgf {p:Int} (hp:0<=p):(Int.gcd p 0:Int)=p:=by
 rw [Int.gcd_zero_right];lia
def zcD {a b:Int} (h:¬ (a=0/\b=0)):1<=(Int.gcd a b:Int):=by
 have:0 < Int.gcd a b:=Int.gcd_pos_iff.mpr (by lia)
 lia
end Mine
namespace Mine
structure IsLcm (ns:A8) (l:Int):Prop where
 pos:0 < l
 dv:∀ n∈ns,n ∣ l
 least:∀ m:Int,(∀ n∈ns,n ∣ m)->l ∣ m
def IsLcm.nil:IsLcm [] 1:=⟨by decide,(λ _ h=>nomatch h),λ m _=>Int.one_dvd m⟩
def zhk {a b:Int} (ha:0 < a) (hb:0 < b):a / (Int.gcd a b:Int) * b=(Nat.lcm a.natAbs b.natAbs:Int):=by
 have g:(Int.gcd a b:Int) ∣ a:=Int.gcd_dvd_left ..;obtain ⟨k,hk⟩:=g;have gp:0 < (Int.gcd a b:Int):=by have:=zcD (a:=a) (b:=b) (by lia);lia
 have e1:a / (Int.gcd a b:Int)=k:=by
  conv=>lhs;rw [hk]
  have hk':=hk;rw [Int.mul_comm (Int.gcd a b:Int) k];have e2:Int.gcd (k * (Int.gcd a b:Int)) b=Int.gcd a b:=by rw [Int.mul_comm,<- hk]
  rw [e2];exact Int.mul_ediv_cancel _ (by lia)
 have hkn:0 < k:=by
  rcases (by lia:k<=0\/0 < k) with h|h
  ·have:=Int.mul_nonpos_of_nonneg_of_nonpos (c7 gp) h
   lia
  ·exact h
 have hg:Nat.gcd a.natAbs b.natAbs * Nat.lcm a.natAbs b.natAbs=a.natAbs * b.natAbs:=Nat.gcd_mul_lcm ..;have ea:a.natAbs=Nat.gcd a.natAbs b.natAbs * k.natAbs:=by
  have:=bt Int.natAbs hk;rw [Int.natAbs_mul,bN] at this;exact this
 have gp':0 < Nat.gcd a.natAbs b.natAbs:=by
  have:(Nat.gcd a.natAbs b.natAbs:Int)=(Int.gcd a b:Int):=rfl
  lia
 have e3:Nat.lcm a.natAbs b.natAbs=k.natAbs * b.natAbs:=by
  apply Nat.eq_of_mul_eq_mul_left gp';rw [hg,<- Nat.mul_assoc,<- ea]
 rw [e1,e3];rw [Int.natCast_mul];have h1:k=(k.natAbs:Int):=by lia
 have h2:b=(b.natAbs:Int):=by lia
 rw [<- h1,<- h2]
def Ze {a b:Int} (h:a ∣ b):a.natAbs ∣ b.natAbs:=cK.mpr h
def IsLcm.step {ns:A8} {l p:Int} (x:IsLcm ns l) (hp:0 < p):IsLcm (ns ++ [p]) (l / (Int.gcd l p:Int) * p):=by
 rw [zhk x.pos hp];have lp:0 < l.natAbs:=by have:=x.pos;lia
 have pp:0 < p.natAbs:=by lia
 refine ⟨?_,λ n hn=>?_,λ m hm=>?_⟩
 ·have:=Nat.lcm_pos lp pp
  lia
 ·rcases aH.mp hn with h|h
  ·have h1:=x.dv n h;refine Int.dvd_trans h1 ?_;rw [<- cK,bN];exact Nat.dvd_lcm_left ..
  ·rw [ay.mp h,<- cK,bN];exact Nat.dvd_lcm_right ..
 ·have h1:=x.least m λ n hn=>hm n (bJ _ hn);have h2:=hm p (aY _ (ay.mpr rfl));rw [<- cK,bN];exact Nat.lcm_dvd (Ze h1) (Ze h2)
def VE {a b:Int} (hb:0 < b):(Int.gcd a b:Int)<=b:=Int.le_of_dvd hb (Int.gcd_dvd_right ..)
end Mine
namespace L2
open PySem PySem.Spec PyProof.Rows
variable {i:Int} {xs:Ar} {v:V} {CX:CXT} {P:Ah} {w:World} {mg:A6} {base:Heap} {N:Aa} {qual:Str} {scope:Scope} {f:Addr} {cd:Ao} {A:Aq} {s:Ap} {E:XK} {n:Nat}
section
variable {X:Cx} {K:A0} {σ:St} {H:Hp} {Q:VK} {D:Ends}
def rd_iq {P:Int->Prop}:iq (.int i) P=P i:=rfl
def rd_bq {b:Bool} {P:Bool->Prop}:bq (.bl b) P=P b:=rfl
def rd_nq {P:Prop}:nq .non P=P:=rfl
def rd_lq {P:V->Prop}:lq [v] P=P v:=rfl
def rd_vq {P:V->Prop}:vq (some (some v)) P=P v:=rfl
def rd_addI {i j:Int}:zaq K (.int i) (.int j) H Q=Q (.int (i + j)) H:=rfl
def rd_addS {i j:Str}:zaq K (.str i) (.str j) H Q=(i.length + j.length<=sizeLine/\Q (.str (i ++ j)) H):=rfl
def rd_mc {α β:Type} {f:α->β} {a:α} {l:List α}:List.map f (a :: l)=f a :: List.map f l:=rfl
def rd_mn {α β:Type} {f:α->β}:List.map f []=[]:=rfl
def rd_itT {A B:Prop}:(if true=true then A else B)=A:=rfl
def rd_itF {A B:Prop}:(if false=true then A else B)=B:=rfl
def rd_is0 {A B:Prop}:(if V.non=V.non then A else B)=A:=rfl
def rd_is1 {a:Addr} {A B:Prop}:(if V.ref a=V.non then A else B)=B:=rfl
def rd_is2 {a:Int} {A B:Prop}:(if V.int a=V.non then A else B)=B:=rfl
def rd_in0 {A B:Prop}:(if ¬ V.non=V.non then A else B)=B:=rfl
def rd_in1 {a:Addr} {A B:Prop}:(if ¬ V.ref a=V.non then A else B)=A:=rfl
def rd_in2 {a:Int} {A B:Prop}:(if ¬ V.int a=V.non then A else B)=A:=rfl
def rd_sz0 {P:Prop}:szl [] P=P:=rfl
section
variable {P:Prop} {a b c d e f g h i:V}
def rd_sz1:szl [a] P=P:=rfl
def rd_sz2:szl [a,b] P=P:=rfl
def rd_sz3:szl [a,b,c] P=P:=rfl
def rd_sz4:szl [a,b,c,d] P=P:=rfl
def rd_sz5:szl [a,b,c,d,e] P=P:=rfl
def rd_sz6:szl [a,b,c,d,e,f] P=P:=rfl
def rd_sz7:szl [a,b,c,d,e,f,g] P=P:=rfl
def rd_sz8:szl [a,b,c,d,e,f,g,h] P=P:=rfl
def rd_sz9:szl [a,b,c,d,e,f,g,h,i] P=P:=rfl
end
noncomputable def zcG:Nat->List Stmt->Bool
 | 0,_=>false
 | n + 1,b=>match b.getLast? with
  | some (.Return ..)=>true
  | some (.Raise ..)=>true
  | some (.Continue ..)=>true
  | some (.Break ..)=>true
  | some (.If _ b e _)=>zcG n b && zcG n e
  | _=>false
noncomputable def zil:Stmt->Bool
 | .For ..=>true
 | .While ..=>true
 | .Try ..=>true
 | .If _ b e _=>!zcG 9 b && !zcG 9 e
 | _=>false
def fa {X:Cx} {st:Stmt} {t:TS} (_:zil st=true) (p:PS X st t):PS X st t:=p
structure Vr (X:Cx) (i:Nat) (x:Str):Prop where
 n:X.N[i]?=some x
 v:Vis X.env.scope x
 d:(x == ("__debug__":Str))=false
 c:(x == ("__classdict__":Str))=false
def pq {X:Cx} (i:Nat) {x:Str} {pos:Pos} (h:Vr X i x:=by walk_at "v"):PE X (.Name x pos) (tVar i):=zg6 h.n h.v h.d h.c
def rd_trB {b:Bool} {P:Bool->Hp->Prop}:trq K (.bl b) H P=P b H:=rfl
def rd_trI {P:Bool->Hp->Prop}:trq K (.int i) H P=∃ k,zd2 K (.int i) H k/\P k H:=rfl
def rd_trR {a:Addr} {P:Bool->Hp->Prop}:trq K (.ref a) H P=∃ k,zd2 K (.ref a) H k/\P k H:=rfl
def rd_trS {x:Str} {P:Bool->Hp->Prop}:trq K (.str x) H P=∃ k,zd2 K (.str x) H k/\P k H:=rfl
def rd_eqI {i j:Int}:Vo K (.int i) (.int j) H Q=Q (.bl (decide (i=j))) H:=rfl
def rd_neI {i j:Int}:X0 K (.int i) (.int j) H Q=Q (.bl (!decide (i=j))) H:=rfl
def rd_eqS {i j:Str}:Vo K (.str i) (.str j) H Q=Q (.bl (decide (i=j))) H:=rfl
def rd_eqB {i j:Bool}:Vo K (.bl i) (.bl j) H Q=Q (.bl (decide (i=j))) H:=rfl
def rd_eTI {i j:Int}:zdo K (.int i) (.int j) H Q=if i=j then Q (.bl true) H else Q (.bl false) H:=rfl
def rd_eTS {i j:Str}:zdo K (.str i) (.str j) H Q=if i=j then Q (.bl true) H else Q (.bl false) H:=rfl
def rd_eTB {i j:Bool}:zdo K (.bl i) (.bl j) H Q=if i=j then Q (.bl true) H else Q (.bl false) H:=rfl
def rd_nTI {i j:Int}:zdn K (.int i) (.int j) H Q=if ¬ i=j then Q (.bl true) H else Q (.bl false) H:=rfl
def rd_nTS {i j:Str}:zdn K (.str i) (.str j) H Q=if ¬ i=j then Q (.bl true) H else Q (.bl false) H:=rfl
def rd_nTB {i j:Bool}:zdn K (.bl i) (.bl j) H Q=if ¬ i=j then Q (.bl true) H else Q (.bl false) H:=rfl
def rd_eTR {a b:Addr}:zdo K (.ref a) (.ref b) H Q=Vo K (.ref a) (.ref b) H Q:=rfl
def rd_nTR {a b:Addr}:zdn K (.ref a) (.ref b) H Q=X0 K (.ref a) (.ref b) H Q:=rfl
def rd_fvI {P:Str->Prop} {R:Str->Prop}:((∃ j,V.int i=V.int j/\j.natAbs.log2 < 1920/\P (toString j))\/(∃ y,V.int i=V.str y/\y.length<=sizeLine/\R y)) ↔ i.natAbs.log2 < 1920/\P (toString i) :=
 ⟨λ h=>h.elim (λ ⟨_,e,h⟩=>by cases e;exact h) (λ ⟨_,e,_⟩=>nomatch e),λ h=>.inl ⟨i,rfl,h⟩⟩
def rd_strS {y:Str} {P:Str->Prop}:(∃ z,V.str y=V.str z/\P z) ↔ P y:=⟨λ ⟨_,e,h⟩=>by cases e;exact h,λ h=>⟨y,rfl,h⟩⟩
def rd_c0:((0:Nat):Int)=0:=rfl
def rd_c1:((1:Nat):Int)=1:=rfl
def rd_c2:((2:Nat):Int)=2:=rfl
def rd_c3:((3:Nat):Int)=3:=rfl
def rd_c4:((4:Nat):Int)=4:=rfl
def rd_c5:((5:Nat):Int)=5:=rfl
def rd_c6:((6:Nat):Int)=6:=rfl
def vO {p:Addr} {k:Int} {j:Nat} {R:Hp->Prop} (h:H p=some (.lst xs)) (e:ixN xs.length k=some j) (q:R (upd H p (.lst (xs.set j v)))):zgB (.ref p) (.int k) v H R:=⟨p,xs,k,j,rfl,rfl,h,e,q⟩
def Xo {k:Int} (h0:0<=k) (h1:k < n):ixN n k=some k.toNat:=by unfold ixN;rw [ar h0,ar h1]
def cx_K {K:A0} {outer:List Env} {H:Hp}:(Jg CX P w K mg base N qual scope f cd A outer s H E).K=K:=rfl
def cx_mg {K:A0} {outer:List Env} {H:Hp}:(Jg CX P w K mg base N qual scope f cd A outer s H E).mg=mg:=rfl
def cx_prog {K:A0} {outer:List Env} {H:Hp}:(Jg CX P w K mg base N qual scope f cd A outer s H E).prog=P:=rfl
def cx_w {K:A0} {outer:List Env} {H:Hp}:(Jg CX P w K mg base N qual scope f cd A outer s H E).w=w:=rfl
def cx_base {K:A0} {outer:List Env} {H:Hp}:(Jg CX P w K mg base N qual scope f cd A outer s H E).base=base:=rfl
def rd_cpow {n:Int}:ziy 10 n ↔ 0<=n/\n<=1000000:=⟨λ h=>⟨h.1,h.2.1⟩,λ h=>⟨h.1,h.2,by decide⟩⟩
def rd_isiI:zew K [.int i,.ty "int"] H Q ↔ Q (.bl true) H:=by
 refine ⟨λ h=>?_,λ q=>⟨_,_,_,_,rfl,.old (.int i),.inl ⟨_,rfl,QW⟩,q⟩⟩;obtain ⟨x,c,t,b,e,ty,k,q⟩:=h;cases e;rcases k with ⟨u,hu,k⟩|⟨_,_,_,e,_⟩
 ·cases hu;cases ty with|old ty=>cases ty;rw [QW] at k;cases k;exact q
 ·cases e
def rd_isiIB:zew K [.int i,.ty "bool"] H Q ↔ Q (.bl false) H:=by
 refine ⟨λ h=>?_,λ q=>⟨_,_,_,_,rfl,.old (.int i),.inl ⟨_,rfl,Z5⟩,q⟩⟩;obtain ⟨x,c,t,b,e,ty,k,q⟩:=h;cases e;rcases k with ⟨u,hu,k⟩|⟨_,_,_,e,_⟩
 ·cases hu;cases ty with|old ty=>cases ty;rw [Z5] at k;cases k;exact q
 ·cases e
def rd_isiB {i:Bool}:zew K [.bl i,.ty "bool"] H Q ↔ Q (.bl true) H:=by
 refine ⟨λ h=>?_,λ q=>⟨_,_,_,_,rfl,.old (.bl i),.inl ⟨_,rfl,Zf⟩,q⟩⟩;obtain ⟨x,c,t,b,e,ty,k,q⟩:=h;cases e;rcases k with ⟨u,hu,k⟩|⟨_,_,_,e,_⟩
 ·cases hu;cases ty with|old ty=>cases ty;rw [Zf] at k;cases k;exact q
 ·cases e
def rd_isiS {i:Str}:zew K [.str i,.ty "str"] H Q ↔ Q (.bl true) H:=by
 refine ⟨λ h=>?_,λ q=>⟨_,_,_,_,rfl,.old (.str i),.inl ⟨_,rfl,QV⟩,q⟩⟩;obtain ⟨x,c,t,b,e,ty,k,q⟩:=h;cases e;rcases k with ⟨u,hu,k⟩|⟨_,_,_,e,_⟩
 ·cases hu;cases ty with|old ty=>cases ty;rw [QV] at k;cases k;exact q
 ·cases e
def Vn {a b:Addr} {xs ys:Ar} (h1:SqL K H a xs) (h2:SqL K H b ys) (hl:xs.length + ys.length<=sizeLine) (q:∀ p,H p=none->Q (.ref p) (upd H p (.lst (xs ++ ys)))):zaq K (.ref a) (.ref b) H Q :=
 show zex K _ _ H Q from ⟨a,b,xs,ys,rfl,rfl,h1,h2,hl,q⟩
def vM (h:n<=1000):n<=sizeLine:=bI (zk h)
def qM {a:Addr} {DN:St->Hp->Prop} {B:(St->Hp->Prop)->V->St->Hp->Prop} (Pv:Nat->St->Hp->Prop) (h0:Pv 0 σ H) (hl:∀ i σ H,i<=xs.length->Pv i σ H->SqL K H a xs)
  (hs:∀ i x σ H,xs[i]?=some x->Pv i σ H->B (Pv (i + 1)) x σ H) (hd:∀ σ H,Pv xs.length σ H->DN σ H) :
  ∃ W:Nat->Nat->St->Hp->Prop,(∃ m,W 0 m σ H)/\∀ i m σ H,W i m σ H ->
   ((Itl K a).stop i H/\DN σ H)\/((Itl K a).go i H/\∃ N:St->Hp->Prop,(∀ σ' H',N σ' H'->∃ m',m' < m/\W (i + 1) m' σ' H')/\∀ x H',(Itl K a).yld i H x H'->B N x σ H'):=by
 refine ⟨λ i m σ H=>m=xs.length - i/\i<=xs.length/\Pv i σ H,⟨xs.length,by simp,bU _,h0⟩,?_⟩;rintro i m σ H ⟨rfl,hi,p⟩;have q:=hl i σ H hi p;by_cases hlt:i < xs.length
 ·refine .inr ⟨⟨xs,xs[i],q,by simp [hlt]⟩,Pv (i + 1),λ σ' H' p'=>⟨xs.length - (i + 1),by lia,rfl,hlt,p'⟩,λ x H' y=>?_⟩;obtain ⟨e,y⟩:=y;subst e;exact hs i x σ _ (y xs q) p
 ·have e:i=xs.length:=by lia
  subst e;exact .inl ⟨⟨xs,q,au _⟩,hd σ H p⟩
def zig {a:Addr} {DN:St->Hp->Prop} {B:(St->Hp->Prop)->V->St->Hp->Prop} (Pv:Nat->St->Hp->Prop) (h0:Pv 0 σ H) (hl:∀ i σ H,i<=xs.length->Pv i σ H->SqT K H a xs)
  (hs:∀ i x σ H,xs[i]?=some x->Pv i σ H->B (Pv (i + 1)) x σ H) (hd:∀ σ H,Pv xs.length σ H->DN σ H) :
  ∃ W:Nat->Nat->St->Hp->Prop,(∃ m,W 0 m σ H)/\∀ i m σ H,W i m σ H ->
   ((Itt K a).stop i H/\DN σ H)\/((Itt K a).go i H/\∃ N:St->Hp->Prop,(∀ σ' H',N σ' H'->∃ m',m' < m/\W (i + 1) m' σ' H')/\∀ x H',(Itt K a).yld i H x H'->B N x σ H'):=by
 refine ⟨λ i m σ H=>m=xs.length - i/\i<=xs.length/\Pv i σ H,⟨xs.length,by simp,bU _,h0⟩,?_⟩;rintro i m σ H ⟨rfl,hi,p⟩;have q:=hl i σ H hi p;by_cases hlt:i < xs.length
 ·refine .inr ⟨⟨xs,xs[i],q,by simp [hlt]⟩,Pv (i + 1),λ σ' H' p'=>⟨xs.length - (i + 1),by lia,rfl,hlt,p'⟩,λ x H' y=>?_⟩;obtain ⟨e,y⟩:=y;subst e;exact hs i x σ _ (y xs q) p
 ·have e:i=xs.length:=by lia
  subst e;exact .inl ⟨⟨xs,q,au _⟩,hd σ H p⟩
def xS {lo:Int} {DN:St->Hp->Prop} {B:(St->Hp->Prop)->V->St->Hp->Prop} (Pv:Nat->St->Hp->Prop) (h0:Pv 0 σ H)
  (hs:∀ i σ H,i < n->Pv i σ H->B (Pv (i + 1)) (.int (lo + i)) σ H) (hd:∀ σ H,Pv n σ H->DN σ H) :
  ∃ W:Nat->Nat->St->Hp->Prop,(∃ m,W 0 m σ H)/\∀ i m σ H,W i m σ H ->
   ((Itr lo n).stop i H/\DN σ H)\/((Itr lo n).go i H/\∃ N:St->Hp->Prop,(∀ σ' H',N σ' H'->∃ m',m' < m/\W (i + 1) m' σ' H')/\∀ x H',(Itr lo n).yld i H x H'->B N x σ H'):=by
 refine ⟨λ i m σ H=>m=n - i/\i<=n/\Pv i σ H,⟨n,by simp,bU _,h0⟩,?_⟩;rintro i m σ H ⟨rfl,hi,p⟩;by_cases hlt:i < n
 ·refine .inr ⟨hlt,Pv (i + 1),λ σ' H' p'=>⟨n - (i + 1),by lia,rfl,hlt,p'⟩,λ x H' y=>?_⟩;obtain ⟨e,y⟩:=y;subst e y;exact hs i σ _ hlt p
 ·have e:i=n:=by lia
  subst e;exact .inl ⟨au _,hd σ H p⟩
def zeu {a b:Addr} (h1:SqL K H a xs) (h2:SqL K H b xs) (hf:xs.all xF=true) (hs:xb xs xs=true) (q:Q (.bl false) H):X0 K (.ref a) (.ref b) H Q :=
 .inr (.inl ⟨a,b,xs,xs,rfl,rfl,.inl ⟨h1,h2⟩,hf,hf,by rw [hs];exact q⟩)
def zgZ {a b:Addr} {xs ys:Ar} (hn:n<=8) (h1:SqL K H a xs) (h2:SqL K H b ys) (hl:xs.length=ys.length) (hde:∀ (j:Nat) (x y:V),xs[j]?=some x->ys[j]?=some y->DE K H n x y true) (q:Q (.bl false) H):X0 K (.ref a) (.ref b) H Q :=
 .inr (.inr ⟨a,b,xs,ys,n,λ _=>true,rfl,rfl,hn,hde,.inl ⟨h1,h2,hl,by rw [bM.mpr (λ _ _=>rfl)];exact q⟩⟩)
def QC {a:Addr} {lo hi:Ab} (h:SqL K H a xs) (q:∀ p,H p=none->Q (.ref p) (upd H p (.lst (Qa xs lo hi)))):zg0 K (.ref a) lo hi H Q:=⟨a,xs,rfl,h,q⟩
def upd_keep {a b:Addr} {o u:HO} (h:H b=some u) (ha:H a=none):upd H a o b=some u:=by rw [mX (mY h ha)];exact h
def mZ:=@upd_keep
def zf {a:Addr} {o:HO} (ha:H a=none):Same H (upd H a o):=λ _ _ h=>mZ h ha
def rd_ixT {a:Addr} (h:H a=some (.tup xs)) (e:atI xs i=some v) (q:Q v H):rIx K (.ref a) (.int i) H Q:=.inr (.inl ⟨a,xs,i,v,rfl,rfl,SqT.of h,e,q⟩)
def n6:=@rd_ixT
def zu {a:Addr} (h:SqL K H a xs) (e:atI xs i=some v) (q:Q v H):rIx K (.ref a) (.int i) H Q:=.inl ⟨a,xs,i,v,rfl,rfl,h,e,q⟩
def zh2 {N0:St->Hp->Prop} {B:(St->Hp->Prop)->Prop} (h:B N0):∃ N:St->Hp->Prop,(∀ σ' H',N σ' H'->N0 σ' H')/\B N:=⟨N0,λ _ _ h=>h,h⟩
end
end L2
set_option hygiene false
local macro_rules | `(tactic| walk_at "v")=>`(tactic| exact ⟨rfl,by first|exact Or.inl rfl|exact Or.inr (Or.inl rfl)|exact Or.inr (Or.inr rfl),by decide,by decide⟩)
local macro_rules | `(tactic| walk_at "g") => do
 let f:=fun (s:String)=>Lean.mkIdent (if s.front == '.' then "L2"++s else s).toName
 let a ← (".start .tDNewT .sDPut .tDIn .tDGet .tSIn .tSGet .sSPut .tSNew .tB .rd_mc .rd_mn bB cW List.cons_append List.nil_append .tSeq .tAsg .gName .tC .tOp .tUn .tTest .tIfS .tRet .tNext .tDrop .tNot .tAnd .tOr .tCons .tNil .tTup .tLst .tBi .tVar ↓.rd_vq .rd_vq ↓.rd_iq .rd_iq ↓.rd_bq .rd_bq ↓.rd_nq .rd_nq ↓.rd_lq .rd_lq ↓.rd_itT .rd_itT ↓.rd_itF .rd_itF ↓.rd_is0 .rd_is0 ↓.rd_is1 .rd_is1 ↓.rd_is2 .rd_is2 ↓.rd_in0 .rd_in0 ↓.rd_in1 .rd_in1 ↓.rd_in2 .rd_in2 .rI .rI0 .rU .rT .ipI .tTru .rd_trB .rd_trI .rd_trR .rd_trS .tAug .rd_addI .rd_addS .rd_eqI .rd_neI .rd_eqS .rd_eqB .rd_eTI .rd_eTS .rd_eTB .rd_eTR .rd_nTI .rd_nTR .rd_nTS .rd_nTB .rd_fvI .rd_strS .rd_sz0 .rd_sz1 .rd_sz2 .rd_sz3 .rd_sz4 .rd_sz5 .rd_sz6 .rd_sz7 .gSub .rd_sz8 .rd_sz9 .cx_K .cx_mg .cx_prog .cx_w .cx_base .gTup .gCons .gNil .tCl .tGl .tChain .tRaise .sFld .tFld .tMk .tMth .tBM .tSl .tNoPart .tPart .tClN .tMkN .tMthN .tBase .tYes .tRg1 .tIf .cxC_K .cxC_mg .cxC_prog .cxC_w .cxC_base eq_self reduceCtorEq decide_false aK eE List.getElem?_cons_zero List.getElem?_cons_succ List.set_cons_zero List.set_cons_succ List.replicate Nat.reduceSub Nat.reduceAdd true_and and_true .rd_cpow Int.reduceToNat Int.reducePow Int.reduceLT Int.reduceLE Int.reduceNeg .fdiv_pos .rd_isiI .rd_isiIB .rd_isiB .rd_isiS fi Bool.not_false cA reduceIte decide_true di Bool.true_eq_false Bool.not_eq_true' decide_eq_false_iff_not .rd_c0 .rd_c1 .rd_c2 .rd_c3 .rd_c4 .rd_c5 .rd_c6 Int.reduceEq not_true_eq_false not_false_eq_true Int.reduceMul Int.reduceAdd Int.reduceSub".splitOn " ").toArray.mapM fun s=>if s.front == '↓' then `(Lean.Parser.Tactic.simpLemma| ↓$(f (s.drop 1).toString):term) else `(Lean.Parser.Tactic.simpLemma| $(f s):term)
 `(tactic| (simp only [$a,*]))
local macro_rules | `(tactic| walk_at "r")=>`(tactic| try walk_at "g")
local macro_rules | `(tactic| walk_at "n")=>`(tactic| (refine L2.rd_ixT (by assumption) rfl ?_;try walk_at "g"))
local macro_rules | `(tactic| walk_at "l")=>`(tactic| first|assumption|exact L2.mul_okR (by decide) (by decide)|exact L2.mul_okL (by decide) (by decide)|exact L2.mul_okR (by lia) (by lia)|exact L2.mul_okL (by lia) (by lia)|exact L2.fd_ok (by decide) (by decide +kernel)|decide|lia|exact L2.fd_small (by lia) (by lia))
local macro_rules | `(tactic| walk_at "f")=>`(tactic| repeat (refine And.intro (by walk_at "l") ?_))
local macro_rules | `(tactic| walk_at "d")=>`(tactic| (walk_at "a";(try simp only [L2.tFor,L2.iSeq,L2.iRng1,L2.iRng3,L2.iEnum,L2.iZip]);try walk_at "g"))
local macro_rules | `(tactic| walk_at "e")=>`(tactic| (walk_at "a";(try simp only [L2.tLc,L2.iSeq,L2.stC,L2.iRng1,L2.iRng3,L2.iEnum,L2.iZip]);try walk_at "g"))
local macro_rules | `(tactic| walk_at "a")=>`(tactic| repeat (first|walk_at "g" | refine And.intro (by assumption) ?_|refine L2.nxt λ Nq_ hNq_=>?_|refine L2.useN (by assumption) ?_))
local macro_rules | `(tactic| walk_at "m")=>`(tactic| first|assumption|exact aX (by assumption)|exact L2.ne_of_none (by assumption) (by assumption)|exact aX (L2.ne_of_none (by assumption) (by assumption)))
local macro_rules | `(tactic| walk_at "h")=>`(tactic| first|assumption|exact L2.upd_same|(refine L2.upd_keep ?_ (by assumption);walk_at "h")|(rw [L2.upd_ne (by walk_at "m")];walk_at "h"))
set_option hygiene false
local macro_rules | `(tactic| walk_at "i")=>`(tactic| (intro vs H Q E h;first|(cases h;subst_vars;rfl)|repeat (first|(obtain ⟨rfl,_⟩:=h;rfl)|obtain ⟨_,h⟩:=h)))
local macro_rules | `(tactic| walk_at "j")=>`(tactic| intro cdv A outer s H vs Q EX hr h)
local macro_rules | `(tactic| walk_at "k")=>`(tactic| intro cdv A outer s H vs Q E hr h)
seal L2.PE L2.PT L2.PA L2.PS L2.PSs L2.PC L2.PG L2.PGs L2.PI L2.PO L2.PK
namespace K31
open PySem L2 Mine
variable {H:Hp} {p:A7} {bs:A3} {v:V} {i k j:Nat} {vs xs:Ar} {b x C l G:Addr} {n L m:Int} {K:A0} {fs:At} {Q:VK} {o:HO} {ns outs:A8} {ps:Aa} {wd:Wd}
noncomputable def top (i:Nat):Stmt:=PySem.Challenge.pw_beltshares_k31_whole_rounds_far_away.main.body.getD i (.Pass ⟨0,0,0,0⟩)
local macro_rules | `(tactic| walk_at "c")=>`(tactic| exact ⟨rfl,rfl,rfl,by decide +kernel,rfl,by decide +kernel,by decide +kernel⟩)
noncomputable abbrev jk:Stmt:=zO (top 2) 0
def XX:FnScope ["self","turn","cells","sides","gone"] ["self","turn","cells","sides","gone"] (ze jk):=by walk_at "c"
noncomputable abbrev Qu:Stmt:=top 3
def zbr:FnScope ["work","ware","kinds"] ["work","ware"] (ze Qu):=by walk_at "c"
noncomputable abbrev vn:Stmt:=top 4
def Ve:FnScope ["knot"] ["knot"] (ze vn):=by walk_at "c"
noncomputable abbrev jo:Stmt:=top 5
def JL:FnScope ["work","cells","sides"] ["work"] (ze jo):=by walk_at "c"
noncomputable abbrev xr:Stmt:=top 6
def Q2:FnScope ["state"] ["state"] (ze xr):=by walk_at "c"
noncomputable abbrev xL:Stmt:=zO (top 16) 0
def Vk:FnScope ["self","room","pace"] ["self","room","pace"] (ze xL):=by walk_at "c"
noncomputable abbrev wG:Stmt:=top 21
def XV:FnScope ["pace","least"] ["pace","least"] (ze wG):=by walk_at "c"
noncomputable abbrev wH:Stmt:=top 22
def XW:FnScope ["kind"] ["kind"] (ze wH):=by walk_at "c"
noncomputable abbrev wE:Stmt:=top 23
def XT:FnScope ["belts"] ["belts"] (ze wE):=by walk_at "c"
noncomputable abbrev xZ:Stmt:=top 24
def JK:FnScope ["wanted","side","step","place"] ["wanted","side"] (ze xZ):=by walk_at "c"
noncomputable abbrev jK:Stmt:=top 25
def ZL:FnScope ["head","free","side"] ["head","free","side"] (ze jK):=by walk_at "c"
noncomputable abbrev qY:Stmt:=zO (top 26) 0
def Vj:FnScope ["self","ins","outs"] ["self","ins","outs"] (ze qY):=by walk_at "c"
noncomputable abbrev jR:Stmt:=zO (top 27) 0
def JN:FnScope ["self","out","pace","kinds","kind"] ["self","out","pace","kinds"] (ze jR):=by walk_at "c"
noncomputable abbrev j6:Stmt:=zO (top 27) 1
def Qo:FnScope ["self","heads","free","turn","side"] ["self","heads","free","turn","side"] (ze j6):=by walk_at "c"
noncomputable abbrev j5:Stmt:=zO (top 27) 2
def Qn:FnScope ["self"] ["self"] (ze j5):=by walk_at "c"
noncomputable abbrev xj:Stmt:=zO (top 28) 0
def XZ:FnScope ["self","into","pace"] ["self","into","pace"] (ze xj):=by walk_at "c"
noncomputable abbrev xy:Stmt:=zO (top 28) 1
def Q8:FnScope ["self","heads","free","turn","side"] ["self","heads","free","turn","side"] (ze xy):=by walk_at "c"
noncomputable abbrev xw:Stmt:=zO (top 28) 2
def Q7:FnScope ["self"] ["self"] (ze xw):=by walk_at "c"
noncomputable abbrev jS:Stmt:=zO (top 29) 0
def JO:FnScope ["self","into","outs"] ["self","into","outs"] (ze jS):=by walk_at "c"
noncomputable abbrev j8:Stmt:=zO (top 29) 1
def Qq:FnScope ["self","heads","free","turn","side","place"] ["self","heads","free","turn","side"] (ze j8):=by walk_at "c"
noncomputable abbrev j7:Stmt:=zO (top 29) 2
def Qp:FnScope ["self"] ["self"] (ze j7):=by walk_at "c"
noncomputable abbrev qN:Stmt:=zO (top 30) 0
def vZ:FnScope ["self","into","outs"] ["self","into","outs"] (ze qN):=by walk_at "c"
noncomputable abbrev ja:Stmt:=zO (top 30) 1
def va:FnScope ["self","heads","free","turn","side","place"] ["self","heads","free","turn","side"] (ze ja):=by walk_at "c"
noncomputable abbrev qZ:Stmt:=zO (top 30) 2
def w9:FnScope ["self"] ["self"] (ze qZ):=by walk_at "c"
noncomputable abbrev xi:Stmt:=zO (top 31) 0
def XY:FnScope ["self","into","outs","kind"] ["self","into","outs","kind"] (ze xi):=by walk_at "c"
noncomputable abbrev xu:Stmt:=zO (top 31) 1
def Q5:FnScope ["self","heads","free","turn","side","place"] ["self","heads","free","turn","side"] (ze xu):=by walk_at "c"
noncomputable abbrev jA:Stmt:=zO (top 31) 2
def Zu:FnScope ["self","kind"] ["self","kind"] (ze jA):=by walk_at "c"
noncomputable abbrev xt:Stmt:=zO (top 31) 3
def Q4:FnScope ["self"] ["self"] (ze xt):=by walk_at "c"
noncomputable abbrev jT:Stmt:=zO (top 32) 0
def JP:FnScope ["self","ins","out"] ["self","ins","out"] (ze jT):=by walk_at "c"
noncomputable abbrev jq:Stmt:=zO (top 32) 1
def Qs:FnScope ["self","heads","free","turn","side","place"] ["self","heads","free","turn","side"] (ze jq):=by walk_at "c"
noncomputable abbrev j9:Stmt:=zO (top 32) 2
def Qr:FnScope ["self"] ["self"] (ze j9):=by walk_at "c"
noncomputable abbrev xq:Stmt:=top 34
def zae:FnScope ["work","state","knot","ends"] ["work","state","knot"] (ze xq):=by walk_at "c"
noncomputable abbrev wy:Stmt:=top 35
def XO:FnScope ["state","number","from_belt","ware"] ["state","number","from_belt"] (ze wy):=by walk_at "c"
noncomputable abbrev Qv:Stmt:=top 36
def zbs:FnScope ["belts","place"] ["belts","place"] (ze Qv):=by walk_at "c"
noncomputable abbrev jY:Stmt:=top 37
def Ql:FnScope ["knot","chosen"] ["knot","chosen"] (ze jY):=by walk_at "c"
noncomputable abbrev zal:Stmt:=top 38
def zgX:FnScope ["work","state","number","knot","free","chosen","from_belt","to_belt","ware"] ["work","state","number"] (ze zal):=by walk_at "c"
noncomputable abbrev Qw:Stmt:=top 39
def zbt:FnScope ["work","state","moves","number","move"] ["work","state"] (ze Qw):=by walk_at "c"
noncomputable abbrev vo:Stmt:=top 40
def Vf:FnScope ["cells","place"] ["cells"] (ze vo):=by walk_at "c"
noncomputable abbrev xI:Stmt:=top 41
def Vc:FnScope ["work","state","moves","number","belt"] ["work","state"] (ze xI):=by walk_at "c"
noncomputable abbrev Zx:Stmt:=top 42
def zac:FnScope ["work","state","after"] ["work","state"] (ze Zx):=by walk_at "c"
noncomputable abbrev JQ:Stmt:=top 44
def zdd:FnScope ["work","turns","state","turn"] ["work","turns"] (ze JQ):=by walk_at "c"
noncomputable abbrev wC:Stmt:=top 46
def zad:FnScope ["work","cells"] ["work","cells"] (ze wC):=by walk_at "c"
noncomputable abbrev wD:Stmt:=top 47
def XS:FnScope ["work","state","number"] ["work","state","number"] (ze wD):=by walk_at "c"
noncomputable abbrev xp:Stmt:=top 48
def zaa:FnScope ["work","state","beat_place","kinds","places"] ["work","state"] (ze xp):=by walk_at "c"
noncomputable abbrev wz:Stmt:=top 50
def XQ:FnScope ["work","limit","state","state_by_shape","turn","shape"] ["work","limit"] (ze wz):=by walk_at "c"
noncomputable abbrev js:Stmt:=top 51
def zab:FnScope ["work","limit","ends"] ["work","limit"] (ze js):=by walk_at "c"
noncomputable abbrev xJ:Stmt:=top 52
def Vg:FnScope ["before","after","growth","old","new"] ["before","after"] (ze xJ):=by walk_at "c"
noncomputable abbrev jZ:Stmt:=top 54
def Qm:FnScope ["state","found","belt","cells","place","ware"] ["state"] (ze jZ):=by walk_at "c"
noncomputable abbrev vm:Stmt:=top 55
def Vd:FnScope ["ware","lay","before"] ["ware","lay","before"] (ze vm):=by walk_at "c"
noncomputable abbrev xh:Stmt:=top 56
def XR:FnScope ["before","after","lay","origins","cells"] ["before","after"] (ze xh):=by walk_at "c"
noncomputable abbrev wI:Stmt:=zO (top 57) 0
def zaf:FnScope ["self","before","after"] ["self","before","after"] (ze wI):=by walk_at "c"
noncomputable abbrev xv:Stmt:=zO (top 57) 1
def Q6:FnScope ["self","origin","rounds","source","given"] ["self","origin","rounds"] (ze xv):=by walk_at "c"
noncomputable abbrev jL:Stmt:=zO (top 57) 2
def ZM:FnScope ["self","first","rounds","cell","left","origin"] ["self","first","rounds"] (ze jL):=by walk_at "c"
noncomputable abbrev qS:Stmt:=zO (top 57) 3
def Zw:FnScope ["self","rounds","cells","belt","old"] ["self","rounds"] (ze qS):=by walk_at "c"
noncomputable abbrev jm:Stmt:=zO (top 57) 4
def ZN:FnScope ["self","rounds","gone","old","more"] ["self","rounds"] (ze jm):=by walk_at "c"
noncomputable abbrev jB:Stmt:=zO (top 57) 5
def Zv:FnScope ["self","rounds","turn"] ["self","rounds"] (ze jB):=by walk_at "c"
noncomputable abbrev wB:Stmt:=top 58
def zer:FnScope ["work","turns","limit","ends","lap","begin","state","turn"] ["work","turns","limit"] (ze wB):=by walk_at "c"
noncomputable abbrev ZP:Stmt:=top 60
def zde:FnScope ["one","other","part","rest","left"] ["one","other"] (ze ZP):=by walk_at "c"
noncomputable abbrev Qt:Stmt:=top 61
def zbq:FnScope ["paces","number","pace"] ["paces"] (ze Qt):=by walk_at "c"
noncomputable abbrev wF:Stmt:=top 65
def XU:FnScope ["belts","knots"] ["belts","knots"] (ze wF):=by walk_at "c"
noncomputable abbrev jy:Stmt:=top 66
def Zt:FnScope ["named","size"] ["named","size"] (ze jy):=by walk_at "c"
noncomputable abbrev jw:Stmt:=zO (top 67) 0
def Vh:FnScope ["self","belts","knots","fed","taken","knot"] ["self","belts","knots"] (ze jw):=by walk_at "c"
noncomputable abbrev jQ:Stmt:=zO (top 67) 3
def JM:FnScope ["self"] ["self"] (ze jQ):=by walk_at "c"
noncomputable abbrev jz:Stmt:=zO (top 67) 4
def Q3:FnScope ["self"] ["self"] (ze jz):=by walk_at "c"
noncomputable abbrev xK:Stmt:=zO (top 67) 5
def Vi:FnScope ["self","paces","number","pace"] ["self"] (ze xK):=by walk_at "c"
noncomputable abbrev zbz:Stmt:=top 69
def zfH:FnScope ["_law_script","_law_k"] ["_law_script","_law_k"] (ze zbz):=by walk_at "c"
noncomputable abbrev Zy:Stmt:=top 70
def zag:FnScope ["_law_cell","_law_factor"] ["_law_cell","_law_factor"] (ze Zy):=by walk_at "c"
noncomputable abbrev JU:Stmt:=top 72
def zdj:FnScope ["_law_belts","_law_number","_law_span","_law_room"] ["_law_belts","_law_number","_law_span"] (ze JU):=by walk_at "c"
noncomputable abbrev wJ:Stmt:=top 73
def zah:FnScope ["_law_out","_law_cell","_law_number","_law_span","_law_many","_law_kinds_here"] ["_law_out","_law_cell","_law_number","_law_span"] (ze wJ):=by walk_at "c"
noncomputable abbrev QA:Stmt:=top 74
def zbx:FnScope ["_law_into","_law_number","_law_span"] ["_law_into","_law_number","_law_span"] (ze QA):=by walk_at "c"
noncomputable abbrev JR:Stmt:=top 75
def zdg:FnScope ["_law_knots","_law_cell","_law_number","_law_known","_law_knot"] ["_law_knots","_law_cell","_law_number"] (ze JR):=by walk_at "c"
noncomputable abbrev ZA:Stmt:=top 76
def zaj:FnScope ["_law_belts","_law_ends","_law_loops","_law_into","_law_cell","_law_span","_law_number","_law_ins","_law_k"] ["_law_belts","_law_ends","_law_loops","_law_into","_law_cell","_law_span"] (ze ZA):=by walk_at "c"
noncomputable abbrev Zz:Stmt:=top 77
def zai:FnScope ["_law_into","_law_outs","_law_kind_here","_law_what"] ["_law_into","_law_outs","_law_kind_here","_law_what"] (ze Zz):=by walk_at "c"
noncomputable abbrev JS:Stmt:=top 78
def zdh:FnScope ["_law_belts","_law_knots","_law_ends","_law_loops","_law_cell","_law_span","_law_number","_law_what","_law_into","_law_outs","_law_many","_law_k","_law_factor"] ["_law_belts","_law_knots","_law_ends","_law_loops","_law_cell","_law_span"] (ze JS):=by walk_at "c"
noncomputable abbrev QB:Stmt:=top 79
def zby:FnScope ["_law_belts","_law_knots","_law_ends","_law_loops","_law_cell","_law_span","_law_k","_law_loop","_law_number","_law_into","_law_outs","_law_end"] ["_law_belts","_law_knots","_law_ends","_law_loops","_law_cell","_law_span"] (ze QB):=by walk_at "c"
noncomputable abbrev ZQ:Stmt:=top 80
def zdf:FnScope ["_law_script","_law_first","_law_number","_law_span","_law_many","_law_ring","_law_counts_here","_law_kinds_here","_law_lanes","_law_belts","_law_knots","_law_ends","_law_loops","_law_cell","_law_cut"] ["_law_script"] (ze ZQ):=by walk_at "c"
noncomputable abbrev Qy:Stmt:=top 81
def zbv:FnScope ["_law_script","_law_work_here","_law_number"] ["_law_script","_law_work_here"] (ze Qy):=by walk_at "c"
noncomputable abbrev Qx:Stmt:=top 82
def zbu:FnScope ["_law_work_here","_law_limit_here","_law_told"] ["_law_work_here","_law_limit_here"] (ze Qx):=by walk_at "c"
noncomputable abbrev JT:Stmt:=top 83
def zdi:FnScope ["_law_script","_law_bound","_law_number","_law_cell"] ["_law_script","_law_bound"] (ze JT):=by walk_at "c"
noncomputable abbrev Qz:Stmt:=top 84
def zbw:FnScope ["_law_work_here","_law_cells","_law_row","_law_ware","_law_kinds_here"] ["_law_work_here","_law_cells"] (ze Qz):=by walk_at "c"
noncomputable abbrev wK:Stmt:=top 85
def zak:FnScope ["_law_far","_law_near","_law_next_one","_law_rounds","_law_k","_law_due"] ["_law_far","_law_near","_law_next_one","_law_rounds"] (ze wK):=by walk_at "c"
noncomputable abbrev ZO:Stmt:=top 86
def zgW:FnScope ["_law_script","_law_work_here","_law_limit_here","_law_found","_law_turns","_law_near","_law_rounds","_law_next_one","_law_turn","_law_far","_law_later"] ["_law_script"] (ze ZO):=by walk_at "c"
local macro_rules | `(tactic| walk_at "T")=>`(tactic| (have mq:=T.mq;have gA:=T.gA;have ma:=T.ma;have iY:=T.iY;have iu:=T.iu;have iV:=T.iV;have lM:=T.lM;have mD:=T.mD;have lz:=T.lz;have kh:=T.kh))
structure Ad where
 b:Addr
 c:Addr
 d:Addr
 e:Addr
 f:Addr
 g:Addr
 h:Addr
 i:Addr
 j:Addr
 k:Addr
 l:Addr
 m:Addr
 n:Addr
 o:Addr
 p:Addr
 q:Addr
abbrev KOy (K:A0) (c d:Addr) (b:Bool):Prop:=kitOne K (.ref c) (.ref d)=some b
structure Txt (K:A0) (mg:A6) (a:Ad):Prop where
 lQ:FA K mg "kind_of" Qu ["work","ware"]
 kU:FA K mg "no_counts" vn ["knot"]
 kj:FA K mg "empty_state" jo ["work"]
 iX:FA K mg "copied_state" xr ["state"]
 kA:FA K mg "check_pace" wG ["pace","least"]
 kB:FA K mg "check_kind" wH ["kind"]
 kC:FA K mg "check_ways" wE ["belts"]
 km:FA K mg "first_place" xZ ["wanted","side"]
 ir:FA K mg "place_for_ware" jK ["head","free","side"]
 lB:FA K mg "heads_of" xq ["work","state","knot"]
 kD:FA K mg "taken_ware" wy ["state","number","from_belt"]
 lS:FA K mg "belt_at" Qv ["belts","place"]
 iG:FA K mg "counted_place" jY ["knot","chosen"]
 mH:FA K mg "act" zal ["work","state","number"]
 lT:FA K mg "act_all" Qw ["work","state"]
 kX:FA K mg "move_belt" vo ["cells"]
 kY:FA K mg "pass_turn" xI ["work","state"]
 lC:FA K mg "one_turn" Zx ["work","state"]
 md:FA K mg "played" JQ ["work","turns"]
 lD:FA K mg "kinds_in" wC ["work","cells"]
 kF:FA K mg "kind_place" wD ["work","state","number"]
 lE:FA K mg "shape_of" xp ["work","state"]
 kG:FA K mg "round_ends" wz ["work","limit"]
 kg:FD K mg "round_of" js ["work","limit"] [.int 200]
 kZ:FA K mg "growth_of" xJ ["before","after"]
 iH:FA K mg "cells_by_ware" jZ ["state"]
 k8:FA K mg "origin_of" vm ["ware","lay","before"]
 kH:FA K mg "origins_of" xh ["before","after"]
 mx:FD K mg "leapt" wB ["work","turns","limit"] [.int 200]
 me:FA K mg "common" ZP ["one","other"]
 lU:FA K mg "lasting" Qt ["paces"]
 kI:FA K mg "check_size" wF ["belts","knots"]
 ij:FA K mg "check_each_once" jy ["named","size"]
 mE:FA K mg "_law_at" zbz ["_law_script","_law_k"]
 lF:FA K mg "_law_spread" Zy ["_law_cell","_law_factor"]
 mf:FA K mg "_law_belt" JU ["_law_belts","_law_number","_law_span"]
 lG:FA K mg "_law_source" wJ ["_law_out","_law_cell","_law_number","_law_span"]
 lV:FA K mg "_law_drain" QA ["_law_into","_law_number","_law_span"]
 mh:FA K mg "_law_kind" JR ["_law_knots","_law_cell","_law_number"]
 lH:FA K mg "_law_joined" ZA ["_law_belts","_law_ends","_law_loops","_law_into","_law_cell","_law_span"]
 lI:FA K mg "_law_parted" Zz ["_law_into","_law_outs","_law_kind_here","_law_what"]
 mi:FA K mg "_law_grow" JS ["_law_belts","_law_knots","_law_ends","_law_loops","_law_cell","_law_span"]
 lW:FA K mg "_law_close" QB ["_law_belts","_law_knots","_law_ends","_law_loops","_law_cell","_law_span"]
 mj:FA K mg "_law_work" ZQ ["_law_script"]
 lX:FA K mg "_law_limit" Qy ["_law_script","_law_work_here"]
 lY:FA K mg "_law_round" Qx ["_law_work_here","_law_limit_here"]
 ml:FA K mg "_law_fold" JT ["_law_script","_law_bound"]
 lZ:FA K mg "_law_kinds" Qz ["_law_work_here","_law_cells"]
 lJ:FA K mg "_law_counts" wK ["_law_far","_law_near","_law_next_one","_law_rounds"]
 mq:mg "list"=none
 gA:mg "len"=none
 ma:mg "max"=none
 iY:mg "range"=none
 iu:mg "isinstance"=none
 iV:mg "enumerate"=none
 lM:mg "tuple"=none
 mD:mg "zip"=none
 lz:mg "sorted"=none
 kh:mg "reversed"=none
 lO:mg "State"=some (.ref a.b)
 l5:mg "BadBelt"=some (.ref a.d)
 gU:mg "BadKnot"=some (.ref a.e)
 kJ:mg "BadWork"=some (.ref a.f)
 kK:mg "TooLong"=some (.ref a.g)
 mF:mg "Belt"=some (.ref a.h)
 ki:mg "Source"=some (.ref a.j)
 lP:mg "Drain"=some (.ref a.k)
 mr:mg "Parter"=some (.ref a.l)
 ko:mg "FirstParter"=some (.ref a.m)
 my:mg "Sieve"=some (.ref a.n)
 lA:mg "Joiner"=some (.ref a.o)
 mJ:mg "Lap"=some (.ref a.p)
 mG:mg "Work"=some (.ref a.q)
 ad:Cls K a.b
 dl:NoAttr K a.b "turn"
 gf:NoAttr K a.b "cells"
 gm:NoAttr K a.b "sides"
 gg:NoAttr K a.b "gone"
 mz:WI K a.b
 kM:FK K a.b "State.__init__" jk ["self","turn","cells","sides","gone"]
 ic:Cls K a.h
 hX:NoAttr K a.h "room"
 gQ:NoAttr K a.h "pace"
 k9:FK K a.h "Belt.__init__" xL ["self","room","pace"]
 gw:FB K mg "Knot" "__init__" "Knot.__init__" qY ["self","ins","outs"]
 gy:Cls K a.j
 gG:NoAttr K a.j "pace"
 gu:NoAttr K a.j "kinds"
 iw:NoAttr K a.j "ins"
 gR:NoAttr K a.j "outs"
 mt:WI K a.j
 kq:FK K a.j "Source.__init__" jR ["self","out","pace","kinds"]
 iI:FM K a.j "choice" "Source.choice" j6 ["self","heads","free","turn","side"]
 iJ:FM K a.j "copied" "Source.copied" j5 ["self"]
 gI:Cls K a.k
 gE:NoAttr K a.k "pace"
 ia:NoAttr K a.k "ins"
 ix:NoAttr K a.k "outs"
 mB:WI K a.k
 kN:FK K a.k "Drain.__init__" xj ["self","into","pace"]
 iZ:FM K a.k "choice" "Drain.choice" xy ["self","heads","free","turn","side"]
 i5:FM K a.k "copied" "Drain.copied" xw ["self"]
 gJ:Cls K a.l
 gZ:NoAttr K a.l "ins"
 gH:NoAttr K a.l "outs"
 mv:WI K a.l
 kr:FK K a.l "Parter.__init__" jS ["self","into","outs"]
 iK:FM K a.l "choice" "Parter.choice" j8 ["self","heads","free","turn","side"]
 iL:FM K a.l "copied" "Parter.copied" j7 ["self"]
 gz:Cls K a.m
 gD:NoAttr K a.m "ins"
 gC:NoAttr K a.m "outs"
 ku:WI K a.m
 ie:FK K a.m "FirstParter.__init__" qN ["self","into","outs"]
 g6:FM K a.m "choice" "FirstParter.choice" ja ["self","heads","free","turn","side"]
 g7:FM K a.m "copied" "FirstParter.copied" qZ ["self"]
 gF:Cls K a.n
 g8:NoAttr K a.n "kind"
 ib:NoAttr K a.n "ins"
 g9:NoAttr K a.n "outs"
 mC:WI K a.n
 kO:FK K a.n "Sieve.__init__" xi ["self","into","outs","kind"]
 i6:FM K a.n "choice" "Sieve.choice" xu ["self","heads","free","turn","side"]
 ik:FM K a.n "place_for" "Sieve.place_for" jA ["self","kind"]
 i7:FM K a.n "copied" "Sieve.copied" xt ["self"]
 gL:Cls K a.o
 gM:NoAttr K a.o "ins"
 gS:NoAttr K a.o "outs"
 mw:WI K a.o
 kx:FK K a.o "Joiner.__init__" jT ["self","ins","out"]
 iM:FM K a.o "choice" "Joiner.choice" jq ["self","heads","free","turn","side"]
 iN:FM K a.o "copied" "Joiner.copied" j9 ["self"]
 gq:Cls K a.p
 gx:NoAttr K a.p "before"
 gO:NoAttr K a.p "length"
 ig:NoAttr K a.p "origins"
 hJ:NoAttr K a.p "growth"
 lK:FK K a.p "Lap.__init__" wI ["self","before","after"]
 i8:FM K a.p "new_ware" "Lap.new_ware" xv ["self","origin","rounds"]
 iy:FM K a.p "ware_after" "Lap.ware_after" jL ["self","first","rounds"]
 io:FM K a.p "cells_after" "Lap.cells_after" qS ["self","rounds"]
 iz:FM K a.p "gone_after" "Lap.gone_after" jm ["self","rounds"]
 ip:FM K a.p "state_after" "Lap.state_after" jB ["self","rounds"]
 gj:Cls K a.q
 gk:NoAttr K a.q "belts"
 gi:NoAttr K a.q "knots"
 lh:FK K a.q "Work.__init__" jw ["self","belts","knots"]
 ky:FM K a.q "drains" "Work.drains" jQ ["self"]
 i9:FM K a.q "sources" "Work.sources" jz ["self"]
 lj:FM K a.q "beat" "Work.beat" xK ["self"]
 ll:∃ t,mg "MOST_ROOM"=some (.int 6 t)
 iW:∃ t,mg "MOST_PACE"=some (.int 4 t)
 kP:∃ t,mg "MOST_KINDS"=some (.int 6 t)
 kz:∃ t,mg "FEWEST_WAYS"=some (.int 2 t)
 ly:∃ t,mg "MOST_WAYS"=some (.int 4 t)
 kR:∃ t,mg "MOST_BELTS"=some (.int 24 t)
 kS:∃ t,mg "MOST_KNOTS"=some (.int 24 t)
 l7:XC K a.d
 gW:XC K a.e
 l8:XC K a.g
 kT:XC K a.f
 l9:subIn K (.ref a.g) (.type "BaseException")=some true
 gP:kitCls K (.ref a.g) (.ref a.g)=some true
 iA:KOy K a.j a.o false
 iO:KOy K a.k a.o false
 iB:KOy K a.l a.o false
 gX:KOy K a.m a.o false
 iP:KOy K a.n a.o false
 iC:KOy K a.o a.o true
 iQ:KOy K a.j a.k false
 ka:KOy K a.k a.k true
 iR:KOy K a.l a.k false
 hW:KOy K a.m a.k false
 kb:KOy K a.n a.k false
 iS:KOy K a.o a.k false
 iD:KOy K a.j a.j true
 iT:KOy K a.k a.j false
 iE:KOy K a.l a.j false
 gY:KOy K a.m a.j false
 iU:KOy K a.n a.j false
 iF:KOy K a.o a.j false
 ke:KOy K a.b a.b true
section
variable {P:Ah} {w:World} {K:A0} {mg:A6} {base:Heap} {a:Ad} {f:Addr} {fd:FuncData}
def at0 {α:Type} {x:α} {xs:List α}:atI (x :: xs) 0=some x:=by
 have:=zE (xs:=x :: xs) (j:=0) rfl;simpa using this
noncomputable def iv (ns:A8):List V:=ns.map V.int
noncomputable def kf (l1 l2:Addr):List (Str × V):=zQ "outs" (.ref l2) (zQ "ins" (.ref l1) [])
def zhm {l1 l2:Addr}:(kf l1 l2).lookup ("ins":Str)=some (.ref l1):=by
 unfold kf;rw [zz,ap (by decide +kernel),zz,ar rfl]
def zgb {l1 l2:Addr}:(kf l1 l2).lookup ("outs":Str)=some (.ref l2):=by
 unfold kf;rw [zz,ar rfl]
def zbU {l1 l2:Addr}:(kf l1 l2).length < 1000:=by
 unfold kf;have:=xQ "outs" (V.ref l2) (zQ "ins" (.ref l1) []);have:=xQ "ins" (V.ref l1) [];simp at *;lia
def zic {l1 l2:Addr} {m:Str} (h1:m≠"ins") (h2:m≠"outs"):(kf l1 l2).lookup m=none:=by
 unfold kf;rw [zz,ap h2,zz,ap h1];rfl
def Own (H H':Hp) (y:Addr):Prop:=∀ b o,b≠y->H b=some o->H' b=some o
def Same.own {H H':Hp} {y:Addr} (s:Same H H'):Own H H' y:=λ b o _ h=>s b o h
def Own.trans {H1 H2 H3:Hp} {y:Addr} (s:Own H1 H2 y) (t:Own H2 H3 y):Own H1 H3 y:=λ b o hb h=>t b o hb (s b o hb h)
def jr {y:Addr}:Own H (upd H y o) y:=λ b u hb h=>by rw [mX hb];exact h
def Own.of_new {H H':Hp} {y dx:Addr} {o p:HO} (hy:H y=none) (hd:H dx=none) (s:Own (upd (upd H dx o) y p) H' y):Same H H':=λ b u h =>
 s b u (mY h hy) (by rw [mX (mY h hy),mX (mY h hd)];exact h)
def zT {p b:Addr} (h:upd H p o b=none):H b=none:=by
 by_cases e:b=p
 ·subst e;rw [mW] at h;cases h
 ·rw [mX e] at h;exact h
def JE (K:A0):Sp:=λ vs H Q _=>∃ (y C dx i o:Addr) (xs ys:Ar),vs=[.ref y,.ref i,.ref o]/\H y=some (.ins C dx [])/\Cls K C/\NoAttr K C "ins"/\NoAttr K C "outs"/\SqL K H i xs/\SqL K H o ys/\i≠y/\o≠y /\
 ∀ H' l1 l2,Own H H' y->H' y=some (.ins C dx (kf l1 l2))->H' l1=some (.lst xs)->H' l2=some (.lst ys)->H l1=none->H l2=none->Q .non H'
def zcj {H H':Hp} {y l:Addr} (h:SqL K H l xs) (s:Own H H' y) (hl:l≠y):SqL K H' l xs:=by
 rcases h with h|h
 ·refine .inl ?_;rcases h with h|⟨ob,h⟩
  ·exact .inl (s _ _ hl h)
  ·exact .inr ⟨ob,s _ _ hl h⟩
 ·exact .inr h
def Vv (T:Txt K mg a) (F:Fun K "__init__" "Knot.__init__" qY f fd):FnOk P w K mg base (CXr P w) 1 f fd ["self","ins","outs"] (JE K):=by
 refine F.okx Vj ?_ ?_
 ·walk_at "i"
 walk_at "k";obtain ⟨y,C,dx,i,o,xs,ys,rfl,hy,hC,hN1,hN2,hi,ho,hiy,hoy,k⟩:=h;walk_at "T";refine ⟨_,(zg (qQ (pq 0) (vx vX xU (za (pq 1) zb)) rfl)  (zc (qQ (pq 0) (vx vX xU (za (pq 2) zb)) rfl))),?_⟩;walk_at "a";refine ⟨i,xs,rfl,.inl hi,λ l1 h1=>?_⟩;walk_at "a";have y1:y≠l1:=mY hy h1;refine ⟨y,C,dx,[],rfl,mZ hy h1,hC,hN1,by decide,?_⟩;walk_at "a";have s1:Own H (upd (upd H l1 (.lst xs)) y (.ins C dx (zQ "ins" (.ref l1) []))) y:=(Same.own (zf h1)).trans jr;refine ⟨o,ys,rfl,.inl (zcj ho s1 hoy),λ l2 h2=>?_⟩;walk_at "a";have y2:y≠l2:=mY mW h2;have l12:l1≠l2:=λ z=>by
  rw [<- z,mX (aX y1),mW] at h2;cases h2
 refine ⟨y,C,dx,_,rfl,mZ mW h2,hC,hN2,by show 1 < 1000;decide,?_⟩;refine k _ l1 l2 (s1.trans ((Same.own (zf h2)).trans jr)) mW ?_ ?_ h1 ?_
 ·rw [mX (aX y1),mX l12,mX (aX y1),mW]
 ·rw [mX (aX y2),mW]
 ·rw [mX (aX y2),mX (aX l12)] at h2;exact h2
def gw (T:Txt K mg a):BCal P w K mg base "Knot" "__init__" 1 ["self","ins","outs"] [] (JE K):=T.gw.cal (Vv T)
def V6 (K:A0) (a:Ad):Sp:=λ vs H Q E=>∃ (l:Addr) (xs:Ar),vs=[.ref l]/\SqL K H l xs/\if 2<=xs.length/\xs.length<=4 then Q .non H else E (.ref a.e) none H
def wW (T:Txt K mg a):Cal P w K mg base "check_ways" 1 ["belts"] [] (V6 K a):=T.kC.cal λ F=>by
 refine F.okx XT ?_ ?_
 ·walk_at "i"
 walk_at "k";obtain ⟨l,xs,rfl,hl,k⟩:=h;walk_at "T";refine ⟨_,(zc (zD (jC (jU xB xB wl (z9 zX zW (za (pq 0) zb)) wl))  (zc (jd ⟨rfl,rfl,rfl⟩ rfl (za jF zb)))  zn)),?_⟩;walk_at "a";obtain ⟨t1,g1⟩:=T.kz;obtain ⟨t2,g2⟩:=T.ly;have bad:¬ (2<=xs.length/\xs.length<=4)->∃ C,mg "BadKnot"=some (Value.ref C)/\XC K C/\E (Value.ref C) none H:=λ h=>by
  rw [ap h] at k;exact ⟨a.e,T.gU,T.gW,k⟩
 refine ⟨.int 2,_,g1,⟨_,rfl⟩,?_⟩;walk_at "a";refine ⟨_,.inl ⟨_,hl,rfl⟩,?_⟩;walk_at "r";refine zN (λ h1=>?_) (λ h1=>bad (by lia));refine ⟨.int 4,_,g2,⟨_,rfl⟩,?_⟩;walk_at "r";refine zN (λ h2=>?_) (λ h2=>bad (by lia));rw [ar (by lia)] at k;exact k
def V8 (a:Ad):Sp:=λ vs H Q E=>∃ p q:Int,vs=[.int p,.int q]/\if q<=p/\p<=4 then Q .non H else E (.ref a.e) none H
def Qc (T:Txt K mg a):Cal P w K mg base "check_pace" 1 ["pace","least"] [] (V8 a):=T.kA.cal λ F=>by
 refine F.okx XV ?_ ?_
 ·walk_at "i"
 walk_at "k";obtain ⟨p,q,rfl,k⟩:=h;walk_at "T";refine ⟨_,(zc (zD (jC (jU xB xB (pq 1) (pq 0) wl))  (zc (jd ⟨rfl,rfl,rfl⟩ rfl (za jF zb)))  zn)),?_⟩;walk_at "a";obtain ⟨t1,g1⟩:=T.iW;have bad:¬ (q<=p/\p<=4)->∃ C,mg "BadKnot"=some (Value.ref C)/\XC K C/\E (Value.ref C) none H:=λ h=>by
  rw [ap h] at k;exact ⟨a.e,T.gU,T.gW,k⟩
 refine zN (λ h1=>?_) (λ h1=>bad (by lia));refine ⟨.int 4,_,g1,⟨_,rfl⟩,?_⟩;walk_at "a";refine zN (λ h2=>?_) (λ h2=>bad (by lia));rw [ar (by lia)] at k;walk_at "a";exact k
noncomputable abbrev jH:Int:=1000000000000000000000000000000
def V9 (a:Ad):Sp:=λ vs H Q E=>∃ n:Int,vs=[.int n]/\if 0<=n/\n < jH then Q .non H else E (.ref a.e) none H
def Qd (T:Txt K mg a):Cal P w K mg base "check_kind" 1 ["kind"] [] (V9 a):=T.kB.cal λ F=>by
 refine F.okx XW ?_ ?_
 ·walk_at "i"
 walk_at "k";obtain ⟨n,rfl,k⟩:=h;walk_at "T";refine ⟨_,(zc (zD (jC (jU xB QS zd (pq 0) zbG))  (zc (jd ⟨rfl,rfl,rfl⟩ rfl (za jF zb)))  zn)),?_⟩;walk_at "a";have bad:¬ (0<=n/\n < jH)->∃ C,mg "BadKnot"=some (Value.ref C)/\XC K C/\E (Value.ref C) none H:=λ h=>by
  rw [ap h] at k;exact ⟨a.e,iA3 T.gU T.gW k⟩
 refine zN (λ h1=>?_) (λ h1=>bad (by lia));walk_at "a";refine zN (λ h2=>?_) (λ h2=>bad (by unfold jH;lia));rw [ar (by unfold jH;lia)] at k;walk_at "a";exact k
noncomputable def VG (bs:Ak) (side:Nat):Nat->Nat->Option Nat
 | 0,_=>none
 | n + 1,k=>if bs.getD ((side + k) % bs.length) false=true then some ((side + k) % bs.length) else VG bs side n (k + 1)
noncomputable def jO (bs:Ak) (side:Nat):Option Nat:=VG bs side bs.length 0
noncomputable def Za:Option Nat->V
 | none=>.non
 | some n=>.int n
theorem zcF {bs:Ak} {side:Nat} (h:0 < bs.length):∀ {n k p:Nat},VG bs side n k=some p->p < bs.length
 | 0,_,_,e=>by simp [VG] at e
 | n + 1,k,p,e=>by
  unfold VG at e
  split at e
  ·cases e;exact c8 _ h
  ·exact zcF h e
def wn {bs:Ak} {side p:Nat} (e:jO bs side=some p):p < bs.length:=by
 by_cases h:0 < bs.length
 ·exact zcF h e
 ·unfold jO at e;rw [show bs.length=0 by lia] at e;simp [VG] at e
def WX (K:A0):Sp:=λ vs H Q _=>∃ (l:Addr) (bs:Ak) (side:Nat),vs=[.ref l,.int side]/\SqL K H l (bs.map V.bl)/\bs.length<=1000/\Q (Za (jO bs side)) H
theorem Zk (T:Txt K mg a):Cal P w K mg base "first_place" 1 ["wanted","side"] [] (WX K):=T.km.cal λ F=>by
 refine F.okx JK ?_ ?_
 ·walk_at "i"
 walk_at "k";refine oE3 h λ l bs side m7=>oA4 m7 λ m8 hl hb k=>?_;clear m7 h;subst m8;walk_at "T";refine ⟨_,(zg (ql qC rfl (jD (za (z9 zX zW (za (pq 0) zb)) zb)) (qg 2 JK.nd)  (zg (zp 3 JK.nd (zt qq (zt zJ (pq 1) (pq 2)) (z9 zX zW (za (pq 0) zb))))  (zc (zD (jc (zo (pq 0) (pq 3)) (λ _=>rfl))  (zc (zl (pq 3)))  zn))))  (zc (zl zG))),?_⟩;walk_at "d";walk_at "a";refine ⟨_,iA4 (.inl ⟨_,hl,rfl⟩) (by lia) (by rw [ai];lia) ?_⟩;refine xS (λ i σ H'=>∃ v2 v3,σ=[some (.ref l),some (.int side),v2,v3]/\H'=H/\Q (Za (VG bs side (bs.length - i) i)) H) (iE2 _ _ (iA3 rfl rfl k)) ?_ ?_
 ·intro i σ H' hi m9;refine oE2 m9 λ v2 v3 m7=>oA3 m7 λ m8 mR k=>?_;clear m7 m9;subst m8 mR;have hi:i < bs.length:=by simpa using hi
  walk_at "a";refine ⟨_,.inl ⟨_,hl,rfl⟩,?_⟩;walk_at "r";rw [ai];refine And.intro (by lia) ?_;have e:((side:Int) + (0 + (i:Int))) % (bs.length:Int)=(((side + i) % bs.length:Nat):Int):=by push_cast;rw [cZ]
  rw [e];have hlt:(side + i) % bs.length < bs.length:=c8 _ (by lia);refine zu hl (zE (by rw [am,ac hlt];rfl)) ?_;walk_at "r";have em:bs.length - i=(bs.length - (i + 1)) + 1:=by lia
  rw [em,VG] at k;have eg:bs.getD ((side + i) % bs.length) false=bs[(side + i) % bs.length]:=by simp [hlt]
  rw [eg] at k;cases hbb:bs[(side + i) % bs.length] with
  | true =>
   rw [hbb,ar rfl] at k;walk_at "r";exact k
  | false =>
   rw [hbb,ap (by decide)] at k;walk_at "r"
   first|exact ⟨_,_,rfl,rfl,k⟩|exact ⟨_,_,rfl,k⟩|exact k
 ·intro σ H' m9;refine oE2 m9 λ v2 v3 m7=>oA3 m7 λ m8 mR k=>?_;clear m7 m9;subst m8 mR;walk_at "r";simpa [VG,Za] using k
def zbk (K:A0):Sp:=λ vs H Q _=>∃ (v:V) (l:Addr) (bs:Ak) (side:Nat),vs=[v,.ref l,.int side]/\SqL K H l (bs.map V.bl)/\bs.length<=1000/\Q (if v=.non then .non else Za (jO bs side)) H
def wq (T:Txt K mg a):Cal P w K mg base "place_for_ware" 2 ["head","free","side"] [] (zbk K):=T.ir.cal λ F=>by
 refine F.okx ZL ?_ ?_
 ·walk_at "i"
 walk_at "k";obtain ⟨v,l,bs,side,rfl,hl,hb,k⟩:=h;walk_at "T";refine ⟨_,(zc (zl (wj (zm je (pq 0) zG (zr _)) zG (zx ⟨rfl,rfl,rfl⟩ hr (za (pq 1) (za (pq 2) zb)))))),?_⟩;walk_at "a";refine zN (λ h=>?_) (λ h=>?_)
 ·rw [ar h] at k;walk_at "r";exact k
 ·rw [ap h] at k;walk_at "r";exact ⟨_,_,_,Zk T,l,bs,side,rfl,hl,hb,k⟩
def ji (K:A0) (C CB:Addr):Sp:=λ vs H Q E=>∃ (y dx o:Addr) (into:V) (ys:Ar),vs=[.ref y,into,.ref o]/\H y=some (.ins C dx [])/\SqL K H o ys/\o≠y /\
 if 2<=ys.length/\ys.length<=4 then ∀ H' l1 l2,Own H H' y->H' y=some (.ins C dx (kf l1 l2))->H' l1=some (.lst [into])->H' l2=some (.lst ys)->H l1=none->H l2=none->Q .non H' else E (.ref CB) none H
def J8 (T:Txt K mg a) (F:Fun K "__init__" "Parter.__init__" jS f fd):FnOk P w K mg base (CXr P w) 2 f fd ["self","into","outs"] (ji K a.l a.e):=by
 refine F.okx JO ?_ ?_
 ·walk_at "i"
 walk_at "k";obtain ⟨y,dx,o,into,ys,rfl,hy,ho,hoy,k⟩:=h;walk_at "T";refine ⟨_,(zg (zw (zx ⟨rfl,rfl,rfl⟩ hr (za (pq 2) zb)))  (zc (zw (vR ⟨rfl,rfl,rfl⟩ hr (za (pq 0) (za (zL (za (pq 1) zb)) (za (pq 2) zb))))))),?_⟩;walk_at "a";refine ⟨_,_,_,wW T,o,ys,rfl,ho,zN (λ hok=>?_) (λ hok=>?_)⟩
 ·rw [ar hok] at k;walk_at "a";refine ⟨_,_,_,gw T,λ p hp=>⟨y,a.l,dx,p,o,[into],ys,rfl,mZ hy hp,T.gJ,T.gZ,T.gH,SqL.of mW,(zf hp).seq ho,(mY hy hp).symm,hoy,λ H' l1 l2 s h1 h2 h3 h4 h5=>?_⟩⟩;exact k H' l1 l2 ((Same.own (zf hp)).trans s) h1 h2 h3 (zT h4) (zT h5)
 ·rw [ap hok] at k;exact k
def Xm (T:Txt K mg a):KCal P w K mg base "Parter" a.l 2 ["self","into","outs"] [] (ji K a.l a.e):=T.kr.cal T.mr (J8 T)
def Zb (T:Txt K mg a) (F:Fun K "__init__" "FirstParter.__init__" qN f fd):FnOk P w K mg base (CXr P w) 2 f fd ["self","into","outs"] (ji K a.m a.e):=by
 refine F.okx vZ ?_ ?_
 ·walk_at "i"
 walk_at "k";obtain ⟨y,dx,o,into,ys,rfl,hy,ho,hoy,k⟩:=h;walk_at "T";refine ⟨_,(zg (zw (zx ⟨rfl,rfl,rfl⟩ hr (za (pq 2) zb)))  (zc (zw (vR ⟨rfl,rfl,rfl⟩ hr (za (pq 0) (za (zL (za (pq 1) zb)) (za (pq 2) zb))))))),?_⟩;walk_at "a";refine ⟨_,_,_,wW T,o,ys,rfl,ho,zN (λ hok=>?_) (λ hok=>?_)⟩
 ·rw [ar hok] at k;walk_at "a";refine ⟨_,_,_,gw T,λ p hp=>⟨y,a.m,dx,p,o,[into],ys,rfl,mZ hy hp,T.gz,T.gD,T.gC,SqL.of mW,(zf hp).seq ho,(mY hy hp).symm,hoy,λ H' l1 l2 s h1 h2 h3 h4 h5=>?_⟩⟩;exact k H' l1 l2 ((Same.own (zf hp)).trans s) h1 h2 h3 (zT h4) (zT h5)
 ·rw [ap hok] at k;exact k
def Zg (T:Txt K mg a):KCal P w K mg base "FirstParter" a.m 2 ["self","into","outs"] [] (ji K a.m a.e):=T.ie.cal T.ko (Zb T)
noncomputable def vf (l1 l2:Addr) (n:Int):List (Str × V):=zQ "kind" (.int n) (kf l1 l2)
def zfx {l1 l2:Addr}:(vf l1 l2 n).lookup ("kind":Str)=some (.int n):=by
 unfold vf;rw [zz,ar rfl]
def zhU {l1 l2:Addr} {m:Str} (h1:m≠"ins") (h2:m≠"outs") (h3:m≠"kind"):(vf l1 l2 n).lookup m=none:=by
 unfold vf;rw [zz,ap h3];exact zic h1 h2
def vh (K:A0) (C CB:Addr):Sp:=λ vs H Q E=>∃ (y dx o:Addr) (into:V) (ys:Ar) (n:Int),vs=[.ref y,into,.ref o,.int n]/\H y=some (.ins C dx [])/\SqL K H o ys/\o≠y /\
 if ys.length=2/\0<=n/\n < jH then ∀ H' l1 l2,Own H H' y->H' y=some (.ins C dx (vf l1 l2 n))->H' l1=some (.lst [into])->H' l2=some (.lst ys)->H l1=none->H l2=none->Q .non H' else E (.ref CB) none H
def X2 (T:Txt K mg a) (F:Fun K "__init__" "Sieve.__init__" xi f fd):FnOk P w K mg base (CXr P w) 2 f fd ["self","into","outs","kind"] (vh K a.n a.e):=by
 refine F.okx XY ?_ ?_
 ·walk_at "i"
 walk_at "k";refine oE6 h λ y dx o into ys n m7=>oA5 m7 λ m8 hy ho hoy k=>?_;clear m7 h;subst m8;walk_at "T";refine ⟨_,(zg (zD (zm (Zd hr.units1) (z9 zX zW (za (pq 2) zb)) zd (zr _))  (zc (jd ⟨rfl,rfl,rfl⟩ rfl (za jF zb)))  zn)  (zg (zw (zx ⟨rfl,rfl,rfl⟩ hr (za (pq 3) zb)))  (zg (zw (vR ⟨rfl,rfl,rfl⟩ hr (za (pq 0) (za (zL (za (pq 1) zb)) (za (pq 2) zb)))))  (zc (qQ (pq 0) (pq 3) rfl))))),?_⟩;walk_at "a";refine ⟨_,.inl ⟨_,ho,rfl⟩,?_⟩;walk_at "a";refine zN (λ h1=>?_) (λ h1=>?_)
 ·rw [ap (by lia)] at k;exact ⟨a.e,iA3 T.gU T.gW k⟩
 ·refine iE3 _ _ _ ⟨Qd T,⟨n,rfl,zN (λ hok=>?_) (λ hok=>?_)⟩⟩
  ·rw [ar ⟨by lia,hok⟩] at k;walk_at "a";refine iE3 _ _ _ ⟨gw T,λ p hp=>(iE7 y a.n dx p o ([into]) ys (iA6 rfl (mZ hy hp) T.gF T.ib T.g9 (iA5 (SqL.of mW) ((zf hp).seq ho) ((mY hy hp).symm) hoy (λ H' l1 l2 s h1 h2 h3 h4 h5=>?_))))⟩;walk_at "a";refine iE4 y a.n dx _ (iA6 rfl h1 T.gF T.g8 zbU ?_);exact k _ l1 l2 (((Same.own (zf hp)).trans s).trans jr) mW (by rw [mX (ZY h2 h1 (by intro z;cases z))];exact h2) (by rw [mX (ZY h3 h1 (by intro z;cases z))];exact h3) (zT h4) (zT h5)
  ·rw [ap (λ z=>hok z.2)] at k;exact k
def zcw (T:Txt K mg a):KCal P w K mg base "Sieve" a.n 2 ["self","into","outs","kind"] [] (vh K a.n a.e):=T.kO.cal T.my (X2 T)
def ww (K:A0) (C CB:Addr):Sp:=λ vs H Q E=>∃ (y dx o:Addr) (out:V) (ys:Ar),vs=[.ref y,.ref o,out]/\H y=some (.ins C dx [])/\SqL K H o ys/\o≠y /\
 if 2<=ys.length/\ys.length<=4 then ∀ H' l1 l2,Own H H' y->H' y=some (.ins C dx (kf l1 l2))->H' l1=some (.lst ys)->H' l2=some (.lst [out])->H l1=none->H l2=none->Q .non H' else E (.ref CB) none H
def J9 (T:Txt K mg a) (F:Fun K "__init__" "Joiner.__init__" jT f fd):FnOk P w K mg base (CXr P w) 2 f fd ["self","ins","out"] (ww K a.o a.e):=by
 refine F.okx JP ?_ ?_
 ·walk_at "i"
 walk_at "k";obtain ⟨y,dx,o,out,ys,rfl,hy,ho,hoy,k⟩:=h;walk_at "T";refine ⟨_,(zg (zw (zx ⟨rfl,rfl,rfl⟩ hr (za (pq 1) zb)))  (zc (zw (vR ⟨rfl,rfl,rfl⟩ hr (za (pq 0) (za (pq 1) (za (zL (za (pq 2) zb)) zb))))))),?_⟩;walk_at "a";refine ⟨_,_,_,wW T,o,ys,rfl,ho,zN (λ hok=>?_) (λ hok=>?_)⟩
 ·rw [ar hok] at k;walk_at "a";refine ⟨_,_,_,gw T,λ p hp=>⟨y,a.o,dx,o,p,ys,[out],rfl,mZ hy hp,T.gL,T.gM,T.gS,(zf hp).seq ho,SqL.of mW,hoy,(mY hy hp).symm,λ H' l1 l2 s h1 h2 h3 h4 h5=>?_⟩⟩;exact k H' l1 l2 ((Same.own (zf hp)).trans s) h1 h2 h3 (zT h4) (zT h5)
 ·rw [ap hok] at k;exact k
def Xn (T:Txt K mg a):KCal P w K mg base "Joiner" a.o 2 ["self","ins","out"] [] (ww K a.o a.e):=T.kx.cal T.lA (J9 T)
noncomputable def df (l1 l2:Addr) (p:Int):List (Str × V):=zQ "pace" (.int p) (kf l1 l2)
def VH {l1 l2:Addr} {p:Int}:(df l1 l2 p).lookup ("pace":Str)=some (.int p):=by
 unfold df;rw [zz,ar rfl]
theorem ZS (f:Str) (v:V):∀ fs:List (Str × V),(zQ f v fs).length<=fs.length + 1
 | []=>by simp [zQ]
 | (g,x) :: r=>by
  unfold zQ
  split
  ·simp
  ·have:=ZS f v r;simp;lia
def zgc {l1 l2:Addr}:(kf l1 l2).length<=2:=by
 unfold kf;have h1:=ZS "outs" (V.ref l2) (zQ "ins" (.ref l1) []);have h2:=ZS "ins" (V.ref l1) [];simp only [cW] at h2
 lia
def zhB {l1 l2:Addr} {p:Int}:(df l1 l2 p).length < 1000:=by
 unfold df;have h1:=ZS "pace" (V.int p) (kf l1 l2);have h2:=zgc (l1:=l1) (l2:=l2)
 lia
def vj (C CB:Addr):Sp:=λ vs H Q E=>∃ (y dx:Addr) (into:V) (p:Int),vs=[.ref y,into,.int p]/\H y=some (.ins C dx []) /\
 if 0<=p/\p<=4 then ∀ H' l1 l2,Own H H' y->H' y=some (.ins C dx (df l1 l2 p))->H' l1=some (.lst [into])->H' l2=some (.lst [])->H l1=none->H l2=none->Q .non H' else E (.ref CB) none H
def X3 (T:Txt K mg a) (F:Fun K "__init__" "Drain.__init__" xj f fd):FnOk P w K mg base (CXr P w) 2 f fd ["self","into","pace"] (vj a.k a.e):=by
 refine F.okx XZ ?_ ?_
 ·walk_at "i"
 walk_at "k";obtain ⟨y,dx,into,p,rfl,hy,k⟩:=h;walk_at "T";refine ⟨_,(zg (zw (zx ⟨rfl,rfl,rfl⟩ hr (za (pq 2) (za zd zb))))  (zg (zw (vR ⟨rfl,rfl,rfl⟩ hr (za (pq 0) (za (zL (za (pq 1) zb)) (za (zL zb) zb)))))  (zc (qQ (pq 0) (pq 2) rfl)))),?_⟩;walk_at "a";refine ⟨_,_,_,Qc T,p,0,rfl,zN (λ hok=>?_) (λ hok=>?_)⟩
 ·rw [ar hok] at k;walk_at "a";refine ⟨_,_,_,gw T,λ q1 hq1 q2 hq2=>?_⟩;have n12:q1≠q2:=mY mW hq2;have hy2:=mZ (o:=.lst []) (mZ (o:=.lst [into]) hy hq1) hq2;refine ⟨y,a.k,dx,q1,q2,[into],[],rfl,hy2,T.gI,T.ia,T.ix,SqL.of (mZ mW hq2),SqL.of mW,(mY hy hq1).symm,(mY (mZ hy hq1) hq2).symm,λ H' l1 l2 s h1 h2 h3 h4 h5=>?_⟩;walk_at "a";refine ⟨y,a.k,dx,_,rfl,h1,T.gI,T.gE,zbU,?_⟩;exact k _ l1 l2 (((Same.own ((zf hq1).trans (zf hq2))).trans s).trans jr) mW (by rw [mX (ZY h2 h1 (by intro z;cases z))];exact h2) (by rw [mX (ZY h3 h1 (by intro z;cases z))];exact h3) (zT (zT h4)) (zT (zT h5))
 ·rw [ap hok] at k;exact k
def Z7 (T:Txt K mg a):KCal P w K mg base "Drain" a.k 2 ["self","into","pace"] [] (vj a.k a.e):=T.kN.cal T.lP (X3 T)
noncomputable def sf (l1 l2:Addr) (p:Int) (l3:Addr):List (Str × V):=zQ "kinds" (.ref l3) (df l1 l2 p)
def zfF {l1 l2 l3:Addr} {p:Int}:(sf l1 l2 p l3).lookup ("pace":Str)=some (.int p):=by
 unfold sf;rw [zz,ap (by decide +kernel)];exact VH
def xH (ks:A8):Prop:=∀ n∈ks,0<=n/\n < jH
def wv (K:A0) (C CB:Addr):Sp:=λ vs H Q E=>∃ (y dx l:Addr) (out:V) (p:Int) (ks:A8),vs=[.ref y,out,.int p,.ref l]/\H y=some (.ins C dx [])/\SqL K H l (ks.map V.int)/\l≠y /\
 ((1<=p/\p<=4/\1<=ks.length/\ks.length<=6/\xH ks->∀ H' l1 l2 l3,Own H H' y->H' y=some (.ins C dx (sf l1 l2 p l3))->H' l1=some (.lst [])->H' l2=some (.lst [out])->H' l3=some (.lst (ks.map V.int))->H l1=none->H l2=none->H l3=none->Q .non H') /\
   (¬ (1<=p/\p<=4/\1<=ks.length/\ks.length<=6/\xH ks)->E (.ref CB) none H))
def J6 (T:Txt K mg a) (F:Fun K "__init__" "Source.__init__" jR f fd):FnOk P w K mg base (CXr P w) 2 f fd ["self","out","pace","kinds"] (wv K a.j a.e):=by
 refine F.okx JN ?_ ?_
 ·walk_at "i"
 walk_at "k";refine oE6 h λ y dx l out p ks m7=>oA6 m7 λ m8 hy hl hly kok kbad=>?_;clear m7 h;subst m8;obtain ⟨t1,g1⟩:=T.kP;walk_at "T";refine ⟨_,(zg (zw (zx ⟨rfl,rfl,rfl⟩ hr (za (pq 2) (za zd zb))))  (zg (zD (jC (jU xB xB zd (z9 zX zW (za (pq 3) zb)) wl))  (zc (jd ⟨rfl,rfl,rfl⟩ rfl (za jF zb)))  zn)  (zg (ql qC rfl (qm (pq 3)) (qg 4 JN.nd)  (zc (zw (zx ⟨rfl,rfl,rfl⟩ hr (za (pq 4) zb)))))  (zg (zw (vR ⟨rfl,rfl,rfl⟩ hr (za (pq 0) (za (zL zb) (za (zL (za (pq 1) zb)) zb)))))  (zg (qQ (pq 0) (pq 2) rfl)  (zc (qQ (pq 0) (vx vX xU (za (pq 3) zb)) rfl))))))),?_⟩;walk_at "a";refine iE3 _ _ _ ⟨Qc T,⟨p,1,rfl,zN (λ hp=>?_) (λ hp=>kbad λ z=>hp ⟨z.1,z.2.1⟩)⟩⟩;walk_at "a";refine ⟨_,.inl ⟨_,hl,rfl⟩,?_⟩;rw [ai];walk_at "a";have bad:¬ (1<=ks.length/\ks.length<=6)->∃ C,mg "BadKnot"=some (Value.ref C)/\XC K C/\E (Value.ref C) none H:=λ h=>⟨a.e,T.gU,T.gW,kbad λ z=>h ⟨z.2.2.1,z.2.2.2.1⟩⟩;refine zN (λ h1=>?_) (λ h1=>bad (by lia));refine iE2 (.int 6) _ (iA3 g1 ⟨_,rfl⟩ ?_);walk_at "a";refine zN (λ h2=>?_) (λ h2=>bad (by lia));walk_at "d";refine ⟨l,rfl,.inl ⟨⟨_,hl⟩,?_⟩⟩;refine qM (K:=K) (a:=l) (xs:=ks.map V.int) (λ i σ H'=>∃ v4,σ=[some (.ref y),some out,some (.int p),some (.ref l),v4]/\H'=H/\xH (ks.take i)) ⟨_,iA3 rfl rfl (λ _ h=>nomatch h)⟩ (λ i σ H' _ ⟨_,_,e,_⟩=>e ▸ hl) ?_ ?_
 ·intro i x σ H' hi m9;refine oE1 m9 λ v4 m7=>oA3 m7 λ m8 mR hk=>?_;clear m7 m9;subst m8 mR;rw [am,ao] at hi;obtain ⟨n,hn,rfl⟩:=hi;walk_at "a";refine iE3 _ _ _ ⟨Qd T,⟨n,rfl,zN (λ hok=>?_) (λ hok=>kbad λ z=>hok (z.2.2.2.2 n (ah hn)))⟩⟩;walk_at "a";have:xH (ks.take (i + 1)):=λ m hm=>by
   rw [fX,hn] at hm;rcases aH.mp hm with z|z
   ·exact hk m z
   ·have e:m=n:=by simpa using z
    rw [e];exact hok
  first|exact ⟨_,rfl,rfl,this⟩|exact ⟨_,rfl,this⟩
 ·intro σ H' m9;refine oE1 m9 λ v4 m7=>oA3 m7 λ m8 mR hk=>?_;clear m7 m9;subst m8 mR;rw [ai,aR] at hk;have kok:=kok ⟨hp.1,hp.2,by lia,by lia,hk⟩;walk_at "a";refine iE3 _ _ _ ⟨gw T,λ q1 hq1 q2 hq2=>?_⟩;have hy2:=mZ (o:=.lst [out]) (mZ (o:=.lst []) hy hq1) hq2;have s12:Same H' (upd (upd H' q1 (.lst [])) q2 (.lst [out])):=(zf hq1).trans (zf hq2);refine iE7 y a.j dx q1 q2 ([]) ([out]) (iA6 rfl hy2 T.gy T.iw T.gR (iA5 (SqL.of (mZ mW hq2)) (SqL.of mW) ((mY hy hq1).symm) ((mY (mZ hy hq1) hq2).symm) (λ H2 l1 l2 s h1 h2 h3 h4 h5=>?_)));walk_at "a";refine iE4 y a.j dx _ (iA6 rfl h1 T.gy T.gG zbU ?_);walk_at "a";have s3:Own H' (upd H2 y (.ins a.j dx (df l1 l2 p))) y:=((Same.own s12).trans s).trans jr;have h2':upd H2 y (.ins a.j dx (df l1 l2 p)) l1=some (.lst []):=by rw [mX (ZY h2 h1 (by intro z;cases z))];exact h2
  have h3':upd H2 y (.ins a.j dx (df l1 l2 p)) l2=some (.lst [out]):=by rw [mX (ZY h3 h1 (by intro z;cases z))];exact h3
  refine iE2 l _ (iA3 rfl (.inl (zcj hl s3 hly)) (λ l3 hl3=>?_));walk_at "a";have hy3:upd (upd H2 y (.ins a.j dx (df l1 l2 p))) l3 (.lst (ks.map V.int)) y=some (.ins a.j dx (df l1 l2 p)):=mZ mW hl3;refine iE4 y a.j dx _ (iA6 rfl hy3 T.gy T.gu zhB ?_);have n1:l1≠y:=ZY h2 h1 (by intro z;cases z);have n2:l2≠y:=ZY h3 h1 (by intro z;cases z);have n3:l3≠y:=(mY (mW (H:=H2)) hl3).symm;refine kok _ l1 l2 l3 ((s3.trans (Same.own (zf hl3))).trans jr) mW ?_ ?_ ?_ (zT (zT h4)) (zT (zT h5)) ?_
  ·rw [mX n1];exact mZ h2' hl3
  ·rw [mX n2];exact mZ h3' hl3
  ·rw [mX n3];exact mW
  ·cases e:H' l3 with
   | none=>rfl
   | some o=>exact absurd (hl3.symm.trans (s3 l3 o n3 e)) (by intro z;cases z)
def Z6 (T:Txt K mg a):KCal P w K mg base "Source" a.j 2 ["self","out","pace","kinds"] [] (wv K a.j a.e):=T.kq.cal T.ki (J6 T)
noncomputable def bf (rm pc:Int):List (Str × V):=zQ "pace" (.int pc) (zQ "room" (.int rm) [])
abbrev zB (rm pc:Int):Prop:=1<=rm/\rm<=6/\1<=pc/\pc<=4
def Zp (C CB:Addr):Sp:=λ vs H Q E=>∃ (y dx:Addr) (rm pc:Int),vs=[.ref y,.int rm,.int pc]/\H y=some (.ins C dx [])/\if zB rm pc then Q .non (upd H y (.ins C dx (bf rm pc))) else E (.ref CB) none H
def Vw (T:Txt K mg a) (F:Fun K "__init__" "Belt.__init__" xL f fd):FnOk P w K mg base (CXr P w) 1 f fd ["self","room","pace"] (Zp a.h a.d):=by
 refine F.okx Vk ?_ ?_
 ·walk_at "i"
 walk_at "k";refine oE4 h λ y dx rm pc m7=>oA3 m7 λ m8 hy k=>?_;clear m7 h;subst m8;obtain ⟨t1,g1⟩:=T.ll;obtain ⟨t2,g2⟩:=T.iW;walk_at "T";refine ⟨_,(zg (zD (jC (jU xB xB zd (pq 1) wl))  (zc (jd ⟨rfl,rfl,rfl⟩ rfl (za jF zb)))  zn)  (zg (zD (jC (jU xB xB zd (pq 2) wl))  (zc (jd ⟨rfl,rfl,rfl⟩ rfl (za jF zb)))  zn)  (zg (qQ (pq 0) (pq 1) rfl)  (zc (qQ (pq 0) (pq 2) rfl))))),?_⟩;walk_at "a";have bad:¬ zB rm pc->∃ C,mg "BadBelt"=some (Value.ref C)/\XC K C/\E (Value.ref C) none H:=λ h=>by
  rw [ap h] at k;exact ⟨a.d,iA3 T.l5 T.l7 k⟩
 refine zN (λ h1=>?_) (λ h1=>bad (by unfold zB;lia));refine iE2 (.int 6) _ (iA3 g1 ⟨_,rfl⟩ ?_);walk_at "a";refine zN (λ h2=>?_) (λ h2=>bad (by unfold zB;lia));walk_at "a";refine zN (λ h3=>?_) (λ h3=>bad (by unfold zB;lia));refine iE2 (.int 4) _ (iA3 g2 ⟨_,rfl⟩ ?_);walk_at "a";refine zN (λ h4=>?_) (λ h4=>bad (by unfold zB;lia));rw [ar (by unfold zB;lia)] at k;walk_at "a";refine iE4 y a.h dx ([]) (iA6 rfl hy T.ic T.hX (by decide) ?_);walk_at "a";refine iE4 y a.h dx _ (iA6 rfl mW T.ic T.gQ (by show 1 < 1000;decide) ?_);rw [vK];exact k
def ZE (T:Txt K mg a):KCal P w K mg base "Belt" a.h 1 ["self","room","pace"] [] (Zp a.h a.d):=T.k9.cal T.mF (Vw T)
def qu {y dx b C:Addr} {u:HO} (hy:H y=none) (hdx:H dx=none) (h:H b=some u):upd (upd H dx (.own y)) y (.ins C dx []) b=some u:=by
 rw [mX (mY h hy),mX (mY h hdx)];exact h
def zM {y dx b:Addr} {o p:HO} (h:upd (upd H dx o) y p b=none):H b=none:=zT (zT h)
def zA {H H':Hp} (s:Same H H') (h:H' b=none):H b=none:=by
 cases e:H b with
 | none=>rfl
 | some o=>rw [s b o e] at h;cases h
inductive Wd|source|drain|parter|first|sieve|joiner
deriving DecidableEq
noncomputable def wo (a:Ad):Wd->Addr
 | .source=>a.j
 | .drain=>a.k
 | .parter=>a.l
 | .first=>a.m
 | .sieve=>a.n
 | .joiner=>a.o
structure Row where
 wd:Wd
 ins:List Int
 outs:List Int
 pace:Int
 kinds:List Int
abbrev Av:=List Row
def Row.ok (r:Row):Prop:=match r.wd with
 | .source=>r.ins=[]/\(∃ o,r.outs=[o])/\1<=r.pace/\r.pace<=4/\1<=r.kinds.length/\r.kinds.length<=6/\xH r.kinds
 | .drain=>(∃ i,r.ins=[i])/\r.outs=[]/\0<=r.pace/\r.pace<=4
 | .parter=>(∃ i,r.ins=[i])/\2<=r.outs.length/\r.outs.length<=4
 | .first=>(∃ i,r.ins=[i])/\2<=r.outs.length/\r.outs.length<=4
 | .sieve=>(∃ i,r.ins=[i])/\r.outs.length=2/\∃ k,r.kinds=[k]/\0<=k/\k < jH
 | .joiner=>(∃ o,r.outs=[o])/\2<=r.ins.length/\r.ins.length<=4
noncomputable def zaD (r:Row):List (Str × D):=match r.wd with
 | .source=>[("pace",.int r.pace),("kinds",.ints r.kinds)]
 | .drain=>[("pace",.int r.pace)]
 | .sieve=>[("kind",.int (r.kinds.headD 0))]
 | _=>[]
noncomputable def Xk (r:Row):List (Str × D):=("ins",.ints r.ins) :: ("outs",.ints r.outs) :: zaD r
noncomputable def wZ (a:Ad) (r:Row):D:=.ob (wo a r.wd) (Xk r)
noncomputable def Zi (a:Ad) (b:Int × Int):D:=.ob a.h [("room",.int b.1),("pace",.int b.2)]
def jf {α:Type} {f:Str} {x:α} {r:List (Str × α)}:((f,x) :: r).lookup f=some x:=by simp [List.lookup]
def zU {α:Type} {f g:Str} {x:α} {r:List (Str × α)} (h:f≠g):((g,x) :: r).lookup f=r.lookup f:=by
 have hb:(f == g)=false:=a9.mpr h;simp [List.lookup,hb]
def zga (r:Row):(Xk r).lookup ("ins":Str)=some (.ints r.ins):=jf
def zeV (r:Row):(Xk r).lookup ("outs":Str)=some (.ints r.outs):=(zU (by decide +kernel)).trans jf
def zeU {r:Row} (h:r.wd=.source\/r.wd=.drain):(Xk r).lookup ("pace":Str)=some (.int r.pace):=by
 refine (zU (by decide +kernel)).trans ((zU (by decide +kernel)).trans ?_);unfold zaD;rcases h with h|h <;> (rw [h];exact jf)
def zdB {r:Row} (h:r.wd=.source):(Xk r).lookup ("kinds":Str)=some (.ints r.kinds):=by
 refine (zU (by decide +kernel)).trans ((zU (by decide +kernel)).trans ?_);unfold zaD;rw [h];exact (zU (by decide +kernel)).trans jf
def zeX {r:Row} {k:Int} (h:r.wd=.sieve) (e:r.kinds=[k]):(Xk r).lookup ("kind":Str)=some (.int k):=by
 refine (zU (by decide +kernel)).trans ((zU (by decide +kernel)).trans ?_);unfold zaD;rw [h,e];exact jf
def zeW {r:Row} {f:Str} (h1:f≠"ins") (h2:f≠"outs") (h3:f≠"pace") (h4:f≠"kinds") (h5:f≠"kind"):(Xk r).lookup f=none:=by
 refine (zU h1).trans ((zU h2).trans ?_);unfold zaD
 split
 ·exact (zU h3).trans (zU h4)
 ·exact zU h3
 ·exact zU h5
 ·rfl
def KnP (a:Ad) (H:Hp) (p:A7) (v:V) (r:Row):Prop:=Rep H p v (wZ a r)
def KnP.keep {H H':Hp} {p q:A7} {r:Row} (h:KnP a H p v r) (s:∀ b o,p b->H b=some o->q b/\H' b=some o):KnP a H' q v r:=Rep.keep s h
def KnP.inv {r:Row} (h:KnP a H p v r):∃ y dx l1 l2 l3 fs,v=.ref y/\p y/\p l1/\p l2/\(r.wd=.source->p l3)/\H y=some (.ins (wo a r.wd) dx fs)/\fs.lookup ("ins":Str)=some (.ref l1)/\fs.lookup ("outs":Str)=some (.ref l2) /\
  fs.lookup ("copied":Str)=none/\H l1=some (.lst (iv r.ins))/\H l2=some (.lst (iv r.outs))/\(r.wd=.source->fs.lookup ("kinds":Str)=some (.ref l3)/\H l3=some (.lst (iv r.kinds)))/\((r.wd=.source\/r.wd=.drain)->fs.lookup ("pace":Str)=some (.int r.pace)):=by
 obtain ⟨y,dx,fs,rfl,py,hy,g1,g2⟩:=Rep.ob' h;obtain ⟨u1,e1,r1⟩:=g1 _ _ (zga r);obtain ⟨l1,rfl,p1,h1⟩:=r1.ints';obtain ⟨u2,e2,r2⟩:=g1 _ _ (zeV r);obtain ⟨l2,rfl,p2,h2⟩:=r2.ints';have e3:=g2 ("copied":Str) (zeW (by decide +kernel) (by decide +kernel) (by decide +kernel) (by decide +kernel) (by decide +kernel));have pc:(r.wd=.source\/r.wd=.drain)->fs.lookup ("pace":Str)=some (.int r.pace):=λ z=>by
  obtain ⟨u,e,ru⟩:=g1 _ _ (zeU z);cases ru;exact e
 by_cases hs:r.wd=.source
 ·obtain ⟨u3,e4,r3⟩:=g1 _ _ (zdB hs);obtain ⟨l3,rfl,p3,h3⟩:=r3.ints';exact ⟨y,dx,l1,l2,l3,fs,rfl,py,p1,p2,λ _=>p3,hy,e1,e2,e3,h1,h2,λ _=>⟨e4,h3⟩,pc⟩
 ·exact ⟨y,dx,l1,l2,l1,fs,rfl,py,p1,p2,λ z=>absurd z hs,hy,e1,e2,e3,h1,h2,λ z=>absurd z hs,pc⟩
def Xl {l1 l2:Addr}:kf l1 l2=([(("ins":Str),V.ref l1),(("outs":Str),V.ref l2)]:At):=by
 unfold kf;simp only [zQ];rw [ap (by decide +kernel)]
def zfg {l1 l2:Addr}:df l1 l2 n=([(("ins":Str),V.ref l1),(("outs":Str),V.ref l2),(("pace":Str),V.int n)]:At):=by
 unfold df;rw [Xl];simp only [zQ];rw [ap (by decide +kernel),ap (by decide +kernel)]
def zgy {l1 l2 l3:Addr}:sf l1 l2 n l3=([(("ins":Str),V.ref l1),(("outs":Str),V.ref l2),(("pace":Str),V.int n),(("kinds":Str),V.ref l3)]:At):=by
 unfold sf;rw [zfg];simp only [zQ];rw [ap (by decide +kernel),ap (by decide +kernel),ap (by decide +kernel)]
def zgt {l1 l2:Addr}:vf l1 l2 n=([(("ins":Str),V.ref l1),(("outs":Str),V.ref l2),(("kind":Str),V.int n)]:At):=by
 unfold vf;rw [Xl];simp only [zQ];rw [ap (by decide +kernel),ap (by decide +kernel)]
def wL {l C dx:Addr} {gs:List (Str × D)} (pl:p l) (e:H l=some (.ins C dx fs)) (n:fs.map (·.1)=gs.map (·.1)) (r:Reps H p (fs.map (·.2)) (gs.map (·.2))):Rep H p (.ref l) (.ob C gs) :=
 .ob pl e n λ i f g hf hg=>r.g i f.2 g.2 (by rw [am,hf];rfl) (by rw [am,hg];rfl)
section
variable {H:Hp} {p:A7} {z dz m1 m2 m3:Addr} {ins outs kinds:A8} {pace:Int}
def Ww (q0:p z) (q1:p m1) (q2:p m2) (q3:p m3) (h0:H z=some (.ins a.j dz (sf m1 m2 pace m3))) (h1:H m1=some (.lst (iv ins))) (h2:H m2=some (.lst (iv outs))) (h3:H m3=some (.lst (iv kinds))):KnP a H p (.ref z) ⟨.source,ins,outs,pace,kinds⟩:=by
 rw [zgy] at h0;exact wL q0 h0 rfl (.cons (qj q1 h1) (.cons (qj q2 h2) (.cons .int (.cons (qj q3 h3) .nil))))
def zaO (q0:p z) (q1:p m1) (q2:p m2) (h0:H z=some (.ins a.k dz (df m1 m2 pace))) (h1:H m1=some (.lst (iv ins))) (h2:H m2=some (.lst (iv outs))):KnP a H p (.ref z) ⟨.drain,ins,outs,pace,kinds⟩:=by
 rw [zfg] at h0;exact wL q0 h0 rfl (.cons (qj q1 h1) (.cons (qj q2 h2) (.cons .int .nil)))
def zaM {k:Int} (q0:p z) (q1:p m1) (q2:p m2) (h0:H z=some (.ins a.n dz (vf m1 m2 k))) (h1:H m1=some (.lst (iv ins))) (h2:H m2=some (.lst (iv outs))):KnP a H p (.ref z) ⟨.sieve,ins,outs,pace,[k]⟩:=by
 rw [zgt] at h0;exact wL q0 h0 rfl (.cons (qj q1 h1) (.cons (qj q2 h2) (.cons .int .nil)))
def Wx (q0:p z) (q1:p m1) (q2:p m2) (h0:H z=some (.ins a.l dz (kf m1 m2))) (h1:H m1=some (.lst (iv ins))) (h2:H m2=some (.lst (iv outs))):KnP a H p (.ref z) ⟨.parter,ins,outs,pace,kinds⟩:=by
 rw [Xl] at h0;exact wL q0 h0 rfl (.cons (qj q1 h1) (.cons (qj q2 h2) .nil))
def zaN (q0:p z) (q1:p m1) (q2:p m2) (h0:H z=some (.ins a.m dz (kf m1 m2))) (h1:H m1=some (.lst (iv ins))) (h2:H m2=some (.lst (iv outs))):KnP a H p (.ref z) ⟨.first,ins,outs,pace,kinds⟩:=by
 rw [Xl] at h0;exact wL q0 h0 rfl (.cons (qj q1 h1) (.cons (qj q2 h2) .nil))
def Wy (q0:p z) (q1:p m1) (q2:p m2) (h0:H z=some (.ins a.o dz (kf m1 m2))) (h1:H m1=some (.lst (iv ins))) (h2:H m2=some (.lst (iv outs))):KnP a H p (.ref z) ⟨.joiner,ins,outs,pace,kinds⟩:=by
 rw [Xl] at h0;exact wL q0 h0 rfl (.cons (qj q1 h1) (.cons (qj q2 h2) .nil))
end
def BtP (a:Ad) (H:Hp) (p:A7) (v:V) (r:Int × Int):Prop:=Rep H p v (Zi a r)
def BtP.keep {H H':Hp} {p q:A7} {r:Int × Int} (h:BtP a H p v r) (s:∀ b o,p b->H b=some o->q b/\H' b=some o):BtP a H' q v r:=Rep.keep s h
def zit {rm pc:Int}:bf rm pc=([(("room":Str),V.int rm),(("pace":Str),V.int pc)]:At):=by
 unfold bf;simp only [zQ];rw [ap (by decide +kernel)]
def zgI {y dx:Addr} {rm pc:Int} (q0:p y) (h0:H y=some (.ins a.h dx (bf rm pc))):BtP a H p (.ref y) (rm,pc):=by
 rw [zit] at h0;exact wL q0 h0 rfl (.cons .int (.cons .int .nil))
def BtP.inv {r:Int × Int} (h:BtP a H p v r):∃ y dx fs,v=.ref y/\p y/\H y=some (.ins a.h dx fs)/\fs.lookup ("room":Str)=some (.int r.1)/\fs.lookup ("pace":Str)=some (.int r.2):=by
 obtain ⟨y,dx,fs,rfl,py,hy,g1,g2⟩:=Rep.ob' h;obtain ⟨u1,e1,r1⟩:=g1 ("room":Str) _ jf;obtain ⟨u2,e2,r2⟩:=g1 ("pace":Str) _ ((zU (by decide +kernel)).trans jf);cases r1;cases r2;exact ⟨y,dx,fs,rfl,py,hy,e1,e2⟩
structure Kns (a:Ad) (H:Hp) (p:A7) (vs:Ar) (rs:Av):Prop where
 len:vs.length=rs.length
 g:∀ (i:Nat) v r,vs[i]?=some v->rs[i]?=some r->KnP a H p v r
def Kns.keep {H H':Hp} {p q:A7} {rs:Av} (h:Kns a H p vs rs) (s:∀ b o,p b->H b=some o->q b/\H' b=some o):Kns a H' q vs rs:=⟨h.len,λ i v r e1 e2=>(h.g i v r e1 e2).keep s⟩
def Kns.nil:Kns a H p [] []:=⟨rfl,λ i v r h=>by simp at h⟩
def Kns.append {vs us:Ar} {rs qs:Av} (h:Kns a H p vs rs) (k:Kns a H p us qs):Kns a H p (vs ++ us) (rs ++ qs):=by
 refine ⟨by rw [aQ,aQ,h.len,k.len],λ i v r e1 e2=>?_⟩;by_cases hi:i < vs.length
 ·rw [aO hi] at e1;rw [aO (by rw [<- h.len];exact hi)] at e2;exact h.g i v r e1 e2
 ·rw [aI (by lia)] at e1;rw [aI (by rw [<- h.len];lia),<- h.len] at e2;exact k.g _ v r e1 e2
def Kns.one {r:Row} (h:KnP a H p v r):Kns a H p [v] [r] :=
 ⟨rfl,λ i u q e1 e2=>by
  have hi:=(aa.mp e1).1;have:i=0:=by simp at hi;lia
  subst this;have e1:v=u:=by simpa using e1
  have e2:r=q:=by simpa using e2
  rw [<- e1,<- e2];exact h⟩
def Kns.at {rs:Av} (h:Kns a H p vs rs) (e:vs[i]?=some v):∃ r,rs[i]?=some r/\KnP a H p v r:=by
 have hi:=(aa.mp e).1;have e2:rs[i]?=some (rs[i]'(by rw [<- h.len];exact hi)):=ac _;exact ⟨_,e2,h.g i v _ e e2⟩
structure Bts (a:Ad) (H:Hp) (p:A7) (vs:Ar) (rs:A3):Prop where
 len:vs.length=rs.length
 g:∀ (i:Nat) v r,vs[i]?=some v->rs[i]?=some r->BtP a H p v r
def Bts.keep {H H':Hp} {p q:A7} {rs:A3} (h:Bts a H p vs rs) (s:∀ b o,p b->H b=some o->q b/\H' b=some o):Bts a H' q vs rs:=⟨h.len,λ i v r e1 e2=>(h.g i v r e1 e2).keep s⟩
def Bts.nil:Bts a H p [] []:=⟨rfl,λ i v r h=>by simp at h⟩
def Bts.push {rs:A3} {r:Int × Int} (h:Bts a H p vs rs) (k:BtP a H p v r):Bts a H p (vs ++ [v]) (rs ++ [r]):=by
 refine ⟨by rw [aQ,aQ,h.len];rfl,λ i u q e1 e2=>?_⟩;by_cases hi:i < vs.length
 ·rw [aO hi] at e1;rw [aO (by rw [<- h.len];exact hi)] at e2;exact h.g i u q e1 e2
 ·rw [aI (by lia)] at e1;rw [aI (by rw [<- h.len];lia),<- h.len] at e2;have hj:=(aa.mp e1).1;have:i - vs.length=0:=by simp at hj;lia
  rw [this] at e1 e2;have e1:v=u:=by simpa using e1
  have e2:r=q:=by simpa using e2
  rw [<- e1,<- e2];exact k
def Bts.at {rs:A3} (h:Bts a H p vs rs) (e:vs[i]?=some v):∃ r,rs[i]?=some r/\BtP a H p v r:=by
 have hi:=(aa.mp e).1;have e2:rs[i]?=some (rs[i]'(by rw [<- h.len];exact hi)):=ac _;exact ⟨_,e2,h.g i v _ e e2⟩
abbrev New (H:Hp):Addr->Prop:=λ b=>H b=none
def xn (a:Ad) (wd:Wd):Sp:=λ vs H Q _=>∃ (y:Addr) (r:Row) (p:A7),vs=[.ref y]/\KnP a H p (.ref y) r/\r.wd=wd/\r.ok/\∀ v H',Same H H'->KnP a H' (New H) v r->Q v H'
def Kns.reps {rs:Av} (h:Kns a H p vs rs):Reps H p vs (rs.map (wZ a)):=⟨by rw [h.len,ai],λ i v d e1 e2=>by
 rw [am,ao] at e2;obtain ⟨r,e2,rfl⟩:=e2;exact h.g i v r e1 e2⟩
def Bts.reps {rs:A3} (h:Bts a H p vs rs):Reps H p vs (rs.map (Zi a)):=⟨by rw [h.len,ai],λ i v d e1 e2=>by
 rw [am,ao] at e2;obtain ⟨r,e2,rfl⟩:=e2;exact h.g i v r e1 e2⟩
def Kns.of {rs:Av} (h:Reps H p vs (rs.map (wZ a))):Kns a H p vs rs:=⟨by rw [h.len,ai],λ i v r e1 e2=>h.g i v _ e1 (by rw [am,e2];rfl)⟩
def Bts.of {rs:A3} (h:Reps H p vs (rs.map (Zi a))):Bts a H p vs rs:=⟨by rw [h.len,ai],λ i v r e1 e2=>h.g i v _ e1 (by rw [am,e2];rfl)⟩
def Q9 (T:Txt K mg a):MCal P w K mg base a.j "copied" 4 ["self"] [] (xn a .source):=T.iJ.cal T.gy λ F=>by
 refine F.okx Qn ?_ ?_
 ·walk_at "i"
 walk_at "k";refine oE3 h λ y m7 p m8=>oA5 m8 λ mR hK hw hok k=>?_;clear m8 h;obtain ⟨wd,ins,outs,pace,kinds⟩:=m7;subst mR;cases hw;have hK0:=hK;refine oE6 hK.inv λ y' dx l1 l2 l3 fs m7=>oA9 m7 λ e p0 p1 p2 p3 h0 e1 e2 m8=>oA5 m8 λ e3 h1 h2 h3 h4=>?_;clear m7 m8;cases e;obtain ⟨hk,hk'⟩:=h3 rfl;have hp:=h4 (.inl rfl);refine oA7 hok λ q1 m7 q3 q4 q5 q6 q7=>?_;clear hok;obtain ⟨ov,q2⟩:=m7;simp only at q1 q2;subst q1 q2;walk_at "T";refine ⟨_,(zc (zl (qr (x:="Source") ⟨rfl,rfl,rfl⟩ hr (za (zo (zj (pq 0) rfl) zd) (za (zj (pq 0) rfl) (za (zj (pq 0) rfl) zb)))))),?_⟩;walk_at "a";refine iE4 a.j _ _ _ ⟨(Z6 T).mono,iE5 y a.j dx fs _ (iA6 rfl h0 T.gy T.gR e2 (zu (SqL.of h2) at0 ?_))⟩;refine ra h0 T.gy T.gG hp ?_;refine ra h0 T.gy T.gu hk ?_;intro z dz hz hdz hne;refine iE6 z dz l3 (.int ov) pace kinds (iA6 rfl mW (SqL.of (qu hz hdz hk')) (mY hk' hz) (λ _ H' m1 m2 m3 s' g1 g2 g3 g4 n1 n2 n3=>⟨rfl,?_⟩) (λ hbad=>absurd (iA5 q3 q4 q5 q6 q7) hbad));exact k _ _ (Own.of_new hz hdz s') (Ww (p:=New H) (ins:=[]) (outs:=[ov]) hz (zM n1) (zM n2) (zM n3) g1 g2 g3 g4)
def Xi (T:Txt K mg a):MCal P w K mg base a.k "copied" 4 ["self"] [] (xn a .drain):=T.i5.cal T.gI λ F=>by
 refine F.okx Q7 ?_ ?_
 ·walk_at "i"
 walk_at "k";refine oE3 h λ y m7 p m8=>oA5 m8 λ mR hK hw hok k=>?_;clear m8 h;obtain ⟨wd,ins,outs,pace,kinds⟩:=m7;subst mR;cases hw;have hK0:=hK;refine oE6 hK.inv λ y' dx l1 l2 l3 fs m7=>oA9 m7 λ e p0 p1 p2 p3 h0 e1 e2 m8=>oA5 m8 λ e3 h1 h2 h3 h4=>?_;clear m7 m8;cases e;have hp:=h4 (.inr rfl);refine oA4 hok λ m7 q2 q3 q4=>?_;clear hok;obtain ⟨iv',q1⟩:=m7;simp only at q1 q2;subst q1 q2;walk_at "T";refine ⟨_,(zc (zl (qr (x:="Drain") ⟨rfl,rfl,rfl⟩ hr (za (zo (zj (pq 0) rfl) zd) (za (zj (pq 0) rfl) zb))))),?_⟩;walk_at "a";refine iE4 a.k _ _ _ ⟨(Z7 T).mono,iE5 y a.k dx fs _ (iA6 rfl h0 T.gI T.ia e1 (zu (SqL.of h1) at0 ?_))⟩;refine ra h0 T.gI T.gE hp ?_;intro z dz hz hdz hne;refine iE4 z dz (.int iv') pace (iA3 rfl mW ?_);rw [ar ⟨q3,q4⟩];intro H' m1 m2 s' g1 g2 g3 n1 n2;exact ⟨rfl,k _ _ (Own.of_new hz hdz s') (zaO (p:=New H) (ins:=[iv']) (outs:=[]) hz (zM n1) (zM n2) g1 g2 g3)⟩
def Jb (T:Txt K mg a):MCal P w K mg base a.l "copied" 4 ["self"] [] (xn a .parter):=T.iL.cal T.gJ λ F=>by
 refine F.okx Qp ?_ ?_
 ·walk_at "i"
 walk_at "k";refine oE3 h λ y m7 p m8=>oA5 m8 λ mR hK hw hok k=>?_;clear m8 h;obtain ⟨wd,ins,outs,pace,kinds⟩:=m7;subst mR;cases hw;have hK0:=hK;refine oE6 hK.inv λ y' dx l1 l2 l3 fs m7=>oA9 m7 λ e p0 p1 p2 p3 h0 e1 e2 m8=>oA5 m8 λ e3 h1 h2 h3 h4=>?_;clear m7 m8;cases e;obtain ⟨⟨iv',q1⟩,q3,q4⟩:=hok;simp only at q1 q3 q4;subst q1;walk_at "T";refine ⟨_,(zc (zl (qr (x:="Parter") ⟨rfl,rfl,rfl⟩ hr (za (zo (zj (pq 0) rfl) zd) (za (zj (pq 0) rfl) zb))))),?_⟩;walk_at "a";refine iE4 a.l _ _ _ ⟨(Xm T).mono,iE5 y a.l dx fs _ (iA6 rfl h0 T.gJ T.gZ e1 (zu (SqL.of h1) at0 ?_))⟩;refine ra h0 T.gJ T.gH e2 ?_;intro z dz hz hdz hne;refine iE5 z dz l2 (.int iv') (iv outs) (iA5 rfl mW (SqL.of (qu hz hdz h2)) (mY h2 hz) ?_);rw [ar (by rw [iv,ai];exact ⟨q3,q4⟩)];intro H' m1 m2 s' g1 g2 g3 n1 n2;exact ⟨rfl,k _ _ (Own.of_new hz hdz s') (Wx (p:=New H) (ins:=[iv']) (outs:=outs) hz (zM n1) (zM n2) g1 g2 g3)⟩
def vC (T:Txt K mg a):MCal P w K mg base a.m "copied" 4 ["self"] [] (xn a .first):=T.g7.cal T.gz λ F=>by
 refine F.okx w9 ?_ ?_
 ·walk_at "i"
 walk_at "k";refine oE3 h λ y m7 p m8=>oA5 m8 λ mR hK hw hok k=>?_;clear m8 h;obtain ⟨wd,ins,outs,pace,kinds⟩:=m7;subst mR;cases hw;have hK0:=hK;refine oE6 hK.inv λ y' dx l1 l2 l3 fs m7=>oA9 m7 λ e p0 p1 p2 p3 h0 e1 e2 m8=>oA5 m8 λ e3 h1 h2 h3 h4=>?_;clear m7 m8;cases e;obtain ⟨⟨iv',q1⟩,q3,q4⟩:=hok;simp only at q1 q3 q4;subst q1;walk_at "T";refine ⟨_,(zc (zl (qr (x:="FirstParter") ⟨rfl,rfl,rfl⟩ hr (za (zo (zj (pq 0) rfl) zd) (za (zj (pq 0) rfl) zb))))),?_⟩;walk_at "a";refine iE4 a.m _ _ _ ⟨(Zg T).mono,iE5 y a.m dx fs _ (iA6 rfl h0 T.gz T.gD e1 (zu (SqL.of h1) at0 ?_))⟩;refine ra h0 T.gz T.gC e2 ?_;intro z dz hz hdz hne;refine iE5 z dz l2 (.int iv') (iv outs) (iA5 rfl mW (SqL.of (qu hz hdz h2)) (mY h2 hz) ?_);rw [ar (by rw [iv,ai];exact ⟨q3,q4⟩)];intro H' m1 m2 s' g1 g2 g3 n1 n2;exact ⟨rfl,k _ _ (Own.of_new hz hdz s') (zaN (p:=New H) (ins:=[iv']) (outs:=outs) hz (zM n1) (zM n2) g1 g2 g3)⟩
def Xf (T:Txt K mg a):MCal P w K mg base a.n "copied" 4 ["self"] [] (xn a .sieve):=T.i7.cal T.gF λ F=>by
 refine F.okx Q4 ?_ ?_
 ·walk_at "i"
 walk_at "k";refine oE3 h λ y m7 p m8=>oA5 m8 λ mR hK hw hok k=>?_;clear m8 h;obtain ⟨wd,ins,outs,pace,kinds⟩:=m7;subst mR;cases hw;have hK0:=hK;refine oE6 hK.inv λ y' dx l1 l2 l3 fs m7=>oA9 m7 λ e p0 p1 p2 p3 h0 e1 e2 m8=>oA5 m8 λ e3 h1 h2 h3 h4=>?_;clear m7 m8;cases e;refine oA3 hok λ m7 q3 m8=>oE1 m8 λ kk mR=>oA3 mR λ q4 q5 q6=>?_;clear m8 mR hok;obtain ⟨iv',q1⟩:=m7;simp only at q1 q3 q4;subst q1 q4;walk_at "T";refine ⟨_,(zc (zl (qr (x:="Sieve") ⟨rfl,rfl,rfl⟩ hr (za (zo (zj (pq 0) rfl) zd) (za (zj (pq 0) rfl) (za (zj (pq 0) rfl) zb)))))),?_⟩;walk_at "a";refine iE4 a.n _ _ _ ⟨(zcw T).mono,iE5 y a.n dx fs _ (iA6 rfl h0 T.gF T.ib e1 (zu (SqL.of h1) at0 ?_))⟩;refine ra h0 T.gF T.g9 e2 ?_;refine zfN hK0 T.gF T.g8 (zeX rfl rfl) λ u ru=>?_;cases ru;intro z dz hz hdz hne;refine iE6 z dz l2 (.int iv') (iv outs) kk (iA5 rfl mW (SqL.of (qu hz hdz h2)) (mY h2 hz) ?_);rw [ar (by rw [iv,ai];exact ⟨q3,q5,q6⟩)];intro H' m1 m2 s' g1 g2 g3 n1 n2;exact ⟨rfl,k _ _ (Own.of_new hz hdz s') (zaM (p:=New H) (ins:=[iv']) (outs:=outs) hz (zM n1) (zM n2) g1 g2 g3)⟩
def Jd (T:Txt K mg a):MCal P w K mg base a.o "copied" 4 ["self"] [] (xn a .joiner):=T.iN.cal T.gL λ F=>by
 refine F.okx Qr ?_ ?_
 ·walk_at "i"
 walk_at "k";refine oE3 h λ y m7 p m8=>oA5 m8 λ mR hK hw hok k=>?_;clear m8 h;obtain ⟨wd,ins,outs,pace,kinds⟩:=m7;subst mR;cases hw;have hK0:=hK;refine oE6 hK.inv λ y' dx l1 l2 l3 fs m7=>oA9 m7 λ e p0 p1 p2 p3 h0 e1 e2 m8=>oA5 m8 λ e3 h1 h2 h3 h4=>?_;clear m7 m8;cases e;obtain ⟨⟨ov,q1⟩,q3,q4⟩:=hok;simp only at q1 q3 q4;subst q1;walk_at "T";refine ⟨_,(zc (zl (qr (x:="Joiner") ⟨rfl,rfl,rfl⟩ hr (za (zj (pq 0) rfl) (za (zo (zj (pq 0) rfl) zd) zb))))),?_⟩;walk_at "a";refine iE4 a.o _ _ _ ⟨(Xn T).mono,iE5 y a.o dx fs _ (iA6 rfl h0 T.gL T.gM e1 ?_)⟩;refine ra h0 T.gL T.gS e2 (zu (SqL.of h2) at0 ?_);intro z dz hz hdz hne;refine iE5 z dz l1 (.int ov) (iv ins) (iA5 rfl mW (SqL.of (qu hz hdz h1)) (mY h1 hz) ?_);rw [ar (by rw [iv,ai];exact ⟨q3,q4⟩)];intro H' m1 m2 s' g1 g2 g3 n1 n2;exact ⟨rfl,k _ _ (Own.of_new hz hdz s') (Wy (p:=New H) (ins:=ins) (outs:=[ov]) hz (zM n1) (zM n2) g1 g2 g3)⟩
def CT (T:Txt K mg a) (wd:Wd):Cls K (wo a wd):=by
 cases wd
 ·exact T.gy
 ·exact T.gI
 ·exact T.gJ
 ·exact T.gz
 ·exact T.gF
 ·exact T.gL
def NI (T:Txt K mg a) (wd:Wd):NoAttr K (wo a wd) "ins":=by
 cases wd
 ·exact T.iw
 ·exact T.ia
 ·exact T.gZ
 ·exact T.gD
 ·exact T.ib
 ·exact T.gM
def NO (T:Txt K mg a) (wd:Wd):NoAttr K (wo a wd) "outs":=by
 cases wd
 ·exact T.gR
 ·exact T.ix
 ·exact T.gH
 ·exact T.gC
 ·exact T.g9
 ·exact T.gS
def WT (T:Txt K mg a) (wd:Wd):WI K (wo a wd):=by
 cases wd
 ·exact T.mt
 ·exact T.mB
 ·exact T.mv
 ·exact T.ku
 ·exact T.mC
 ·exact T.mw
def zeP (T:Txt K mg a) (wd:Wd):MCal P w K mg base (wo a wd) "copied" 4 ["self"] [] (xn a wd):=by
 cases wd
 ·exact Q9 T
 ·exact Xi T
 ·exact Jb T
 ·exact vC T
 ·exact Xf T
 ·exact Jd T
theorem Wi:∀ (xs ys:A8),xs.Perm ys->xs.Pairwise (·<=·)->ys.Pairwise (·<=·)->xs=ys
 | [],ys,h,_,_=>(List.nil_perm.mp h).symm
 | x :: xs,[],h,_,_=>absurd h.length_eq (by simp)
 | x :: xs,y :: ys,h,hx,hy=>by
  have e:x=y:=by
   have h1:y∈x :: xs:=h.mem_iff.mpr (by simp);have h2:x∈y :: ys:=h.mem_iff.mp (by simp);rcases az.mp h1 with e|m1
   ·exact e.symm
   rcases az.mp h2 with e|m2
   ·exact e
   have:=(da.mp hx).1 y m1;have:=(da.mp hy).1 x m2
   lia
  subst e;rw [Wi xs ys h.cons_inv (da.mp hx).2 (da.mp hy).2]
noncomputable def rgI (n:Nat):List Int:=(List.range n).map λ (i:Nat)=>(i:Int)
def zbC (n:Nat):(rgI n).Pairwise (·<=·):=by
 unfold rgI;rw [List.pairwise_map];exact List.pairwise_lt_range.imp λ {i j} h=>by lia
def zfL (n:Nat):rgL 0 n=iv (rgI n):=by
 simp [rgL,iv,rgI,eQ,eD]
theorem Zs:∀ ms ns:List Int,xb (iv ms) (iv ns)=decide (ms=ns)
 | [],[]=>rfl
 | [],_ :: _=>rfl
 | _ :: _,[]=>rfl
 | m :: ms,n :: ns=>by
  show (eqV (.int m) (.int n) && xb (iv ms) (iv ns))=_
  rw [Zs ms ns];by_cases e:m=n
  ·subst e;simp [eqV]
  ·simp [eqV,e]
def vW (ns:A8):(iv ns).all xF=true:=bM.mpr λ x hx=>by
 obtain ⟨n,_,rfl⟩:=be.mp hx
 rfl
def zfM {p q:Addr} {ms ns:A8} (h1:SqL K H p (iv ms)) (h2:SqL K H q (iv ns)) (k:Q (.bl (!decide (ms=ns))) H):X0 K (.ref p) (.ref q) H Q :=
 .inr (.inl ⟨p,q,iv ms,iv ns,rfl,rfl,.inl ⟨h1,h2⟩,vW ms,vW ns,by rw [Zs];exact k⟩)
def V7 (K:A0) (a:Ad):Sp:=λ vs H Q E=>∃ (bl kl:Addr) (xs ys:Ar),vs=[.ref bl,.ref kl]/\SqL K H bl xs/\SqL K H kl ys/\if (1<=xs.length/\xs.length<=24)/\1<=ys.length/\ys.length<=24 then Q .non H else E (.ref a.f) none H
def VO (T:Txt K mg a):Cal P w K mg base "check_size" 1 ["belts","knots"] [] (V7 K a):=T.kI.cal λ F=>by
 refine F.okx XU ?_ ?_
 ·walk_at "i"
 walk_at "k";obtain ⟨bl,kl,xs,ys,rfl,h1,h2,k⟩:=h;obtain ⟨t1,g1⟩:=T.kR;obtain ⟨t2,g2⟩:=T.kS;walk_at "T";refine ⟨_,(zg (zD (jC (jU xB xB zd (z9 zX zW (za (pq 0) zb)) wl))  (zc (jd ⟨rfl,rfl,rfl⟩ rfl (za jF zb)))  zn)  (zc (zD (jC (jU xB xB zd (z9 zX zW (za (pq 1) zb)) wl))  (zc (jd ⟨rfl,rfl,rfl⟩ rfl (za jF zb)))  zn))),?_⟩;walk_at "a";have bad:¬ ((1<=xs.length/\xs.length<=24)/\1<=ys.length/\ys.length<=24)->∃ C,mg "BadWork"=some (Value.ref C)/\XC K C/\E (Value.ref C) none H:=λ h=>by
  rw [ap h] at k;exact ⟨a.f,T.kJ,T.kT,k⟩
 refine ⟨_,.inl ⟨_,h1,rfl⟩,?_⟩;walk_at "a";refine zN (λ b1=>?_) (λ b1=>bad (by lia));refine ⟨.int 24,_,g1,⟨_,rfl⟩,?_⟩;walk_at "a";refine zN (λ b2=>?_) (λ b2=>bad (by lia));walk_at "a";refine ⟨_,.inl ⟨_,h2,rfl⟩,?_⟩;walk_at "a";refine zN (λ b3=>?_) (λ b3=>bad (by lia));refine ⟨.int 24,_,g2,⟨_,rfl⟩,?_⟩;walk_at "a";refine zN (λ b4=>?_) (λ b4=>bad (by lia));rw [ar (by lia)] at k;walk_at "a";exact k
def zbn (K:A0) (a:Ad):Sp:=λ vs H Q E=>∃ (l:Addr) (ns:A8) (n:Nat),vs=[.ref l,.int n]/\SqL K H l (iv ns)/\ns.length < 64/\n<=1000/\(ns.Perm (rgI n)->∀ H',Same H H'->Q .non H')/\(¬ ns.Perm (rgI n)->∀ H',Same H H'->E (.ref a.f) none H')
def xT (T:Txt K mg a):Cal P w K mg base "check_each_once" 1 ["named","size"] [] (zbn K a):=T.ij.cal λ F=>by
 refine F.okx Zt ?_ ?_
 ·walk_at "i"
 walk_at "k";obtain ⟨l,ns,n,rfl,hl,h64,hn,kok,kbad⟩:=h;walk_at "T";refine ⟨_,(zc (zD (zm (Zd hr.units1) (z9 zdZ zdY (za (pq 0) zb)) (vx (zfp rfl) xU (za (zg7 (za (pq 1) zb)) zb)) (zr _))  (zc (jd ⟨rfl,rfl,rfl⟩ rfl (za jF zb)))  zn)),?_⟩;walk_at "a";refine ⟨l,ns,rfl,hl,h64,λ ms q1 hp hs hq1=>?_⟩;walk_at "a";intro q2 hq2;refine ⟨q2,0,n,rfl,mW,⟨by lia,by lia,by lia,by lia,by lia⟩,λ q3 hq3=>?_⟩;rw [show ((n:Int) - 0).toNat=n by lia,zfL];walk_at "a";have sm:Same H (upd (upd (upd H q1 (.lst (iv ms))) q2 (.rng 0 n)) q3 (.lst (iv (rgI n)))):=(zf hq1).trans ((zf hq2).trans (zf hq3));refine zfM (ms:=ms) (ns:=rgI n) (SqL.of (mZ (mZ mW hq2) hq3)) (SqL.of mW) ?_;walk_at "a";refine zN (λ b1=>?_) (λ b1=>?_)
 ·refine ⟨a.f,T.kJ,T.kT,kbad (λ z=>b1 (Wi _ _ (hp.trans z) hs (zbC n))) _ sm⟩
 ·walk_at "a";refine kok ?_ _ sm;have e:ms=rgI n:=fI b1;rw [<- e];exact hp.symm
noncomputable def xg (rs:Av):List Int:=rs.flatMap Row.outs
noncomputable def qH (rs:Av):List Int:=rs.flatMap Row.ins
noncomputable def wf (l1 l2:Addr):List (Str × V):=zQ "knots" (.ref l2) (zQ "belts" (.ref l1) [])
def zR (bs:A3) (rs:Av):Prop:=((1<=bs.length/\bs.length<=24)/\1<=rs.length/\rs.length<=24)/\(xg rs).Perm (rgI bs.length)/\(qH rs).Perm (rgI bs.length)
def Zo (K:A0) (a:Ad):Sp:=λ vs H Q E=>∃ (y dx bl kl:Addr) (bvs mK:Ar) (bs:A3) (rs:Av) (p:A7),vs=[.ref y,.ref bl,.ref kl]/\H y=some (.ins a.q dx [])/\bl≠y/\kl≠y/\(∀ b,p b->b≠y) /\
 H bl=some (.lst bvs)/\H kl=some (.lst mK)/\Bts a H p bvs bs/\Kns a H p mK rs/\(∀ b∈bs,zB b.1 b.2)/\(∀ r∈rs,r.ok)/\(xg rs).length < 64/\(qH rs).length < 64/\bs.length<=1000 /\
 (zR bs rs->∀ H' l1 l2 bvs' kvs',Own H H' y->H' y=some (.ins a.q dx (wf l1 l2))->H' l1=some (.lst bvs')->H' l2=some (.lst kvs')->Bts a H' (New H) bvs' bs->Kns a H' (New H) kvs' rs->H l1=none->H l2=none->Q .non H') /\
 (¬ zR bs rs->∀ H',Same H H'->E (.ref a.f) none H')
def zb5 {rs:Av} {r:Row} (h:rs[i]?=some r):xg (rs.take (i + 1))=xg (rs.take i) ++ r.outs:=by
 unfold xg;rw [aN,h,fB];simp
def WS {rs:Av} {r:Row} (h:rs[i]?=some r):qH (rs.take (i + 1))=qH (rs.take i) ++ r.ins:=by
 unfold qH;rw [aN,h,fB];simp
def xk (f:Row->List Int) (rs:Av) (i:Nat):((rs.take i).flatMap f).length<=(rs.flatMap f).length:=by
 conv=>rhs;rw [<- fD i rs,fB,aQ]
 lia
def zbW (xs ys:A8):iv xs ++ iv ys=iv (xs ++ ys):=by rw [iv,iv,iv,bg]
def Vu (T:Txt K mg a) (F:Fun K "__init__" "Work.__init__" jw f fd):FnOk P w K mg base (CXr P w) 5 f fd ["self","belts","knots"] (Zo K a):=by
 refine F.okx Vh ?_ ?_
 ·walk_at "i"
 walk_at "k";refine oE5 h λ y dx bl kl bvs m7=>oE4 m7 λ mK bs rs p m8=>oA9 m8 λ mR hy nby nky hpy hb hk hB mU=>oA8 mU λ hKs hbo hro h64 h64' hlb kok kbad=>?_;clear m7 m8 mU h;subst mR;walk_at "T";refine ⟨_,(zh (zw (zx ⟨rfl,rfl,rfl⟩ hr (za (pq 1) (za (pq 2) zb))))  (zh (zp 3 Vh.nd (zL zb))  (zh (zp 4 Vh.nd (zL zb))  (zh (ql qC rfl (qm (pq 2)) (qg 5 Vh.nd)  (zh (zw (qy aq cj ci vS (pq 3) (za (zj (pq 5) rfl) zb)))  (zc (zw (qy aq cj ci vS (pq 4) (za (zj (pq 5) rfl) zb))))))  (zh (zw (zx ⟨rfl,rfl,rfl⟩ hr (za (pq 3) (za (z9 zX zW (za (pq 1) zb)) zb))))  (zh (zw (zx ⟨rfl,rfl,rfl⟩ hr (za (pq 4) (za (z9 zX zW (za (pq 1) zb)) zb))))  (zh (qQ (pq 0) (jG (vars:=["belt"]) (caps:=[]) (N:=["belt"]) (ON:=["self","belts","knots","fed","taken","knot"]) (osc:=ze jw) rfl rfl (by first|decide +kernel|kernel_rfl) rfl rfl (qm (pq 1)) (λ _ _ _ _=>(qg 0 (show (["belt"]:Aa).Nodup from by decide +kernel))) (λ _ _ _ _=>qe) (λ _ _ _ _=>(zg8 (x:="Belt") hr (za (zj (pq 0) rfl) (za (zj (pq 0) rfl) zb))))) rfl)  (zc (qQ (pq 0) (jG (vars:=["knot"]) (caps:=[]) (N:=["knot"]) (ON:=["self","belts","knots","fed","taken","knot"]) (osc:=ze jw) rfl rfl (by first|decide +kernel|kernel_rfl) rfl rfl (qm (pq 2)) (λ _ _ _ _=>(qg 0 (show (["knot"]:Aa).Nodup from by decide +kernel))) (λ _ _ _ _=>qe) (λ _ _ _ _=>(zeB hr (pq 0)))) rfl))))))))),?_⟩;walk_at "a";refine uc (VO T).mono (iE4 bl kl bvs mK (iA4 rfl (SqL.of hb) (SqL.of hk) (zN (λ b1=>?_) (λ b1=>?_))))
 rotate_left
 ·refine kbad (λ z=>b1 ?_) H (Same.refl _);rw [hB.len,hKs.len];exact z.1
 rw [hB.len,hKs.len] at b1;walk_at "a";intro fl hfl;walk_at "a";intro tl htl;have nft:fl≠tl:=mY mW htl;have htl0:H tl=none:=zT htl;walk_at "d";walk_at "a";have s2:Same H (upd (upd H fl (.lst [])) tl (.lst [])):=(zf hfl).trans (zf htl);refine ⟨kl,rfl,.inl ⟨⟨_,SqL.of (s2 _ _ hk)⟩,?_⟩⟩;let mS:Nat->St->Hp->Prop:=λ i σ H'=>∃ v5,σ=[some (.ref y),some (.ref bl),some (.ref kl),some (.ref fl),some (.ref tl),v5]/\Same H H'/\H' fl=some (.lst (iv (xg (rs.take i))))/\H' tl=some (.lst (iv (qH (rs.take i))));refine qM (K:=K) (a:=kl) (xs:=mK) mS ⟨_,iA4 rfl s2 (mZ mW htl) mW⟩ (λ i σ H' _ ⟨_,_,s,_⟩=>SqL.of (s _ _ hk)) ?_ ?_
 ·intro i x σ H' hi m9;refine oE1 m9 λ v5 m7=>oA4 m7 λ m8 s3 e1 e2=>?_;clear m7 m9;subst m8;obtain ⟨r,hr',hKn0⟩:=hKs.at hi;refine oE6 hKn0.inv λ y1 dx1 l1 l2 l3 fs m7=>oA9 m7 λ m8 p0 p1 p2 p3 h0 f1 f2 mR=>oA5 mR λ f3 h1 h2 h3 h4=>?_;clear m7 mR;subst m8;have L1:=xk Row.outs rs i;have L2':=xk Row.ins rs i;have L3:=xk Row.outs rs (i + 1);have L4:=xk Row.ins rs (i + 1);have E1:=zb5 hr';have E2:=WS hr';have n1:∀ {b:Addr} {o:HO},H b=some o->b≠fl:=λ h=>mY h hfl;have n2:∀ {b:Addr} {o:HO},H b=some o->b≠tl:=λ h=>mY h htl0;walk_at "a";refine ⟨.inl ⟨rfl,_,SqL.of e1⟩,iE5 y1 (wo a r.wd) dx1 fs _ (iA6 rfl (s3 _ _ h0) (CT T _) (NO T _) f2 ?_)⟩;refine iE4 fl l2 _ _ (iA6 rfl rfl e1 (s3 _ _ h2) ?_ ?_)
  ·refine bI (zk ?_);have:=bt List.length E1;rw [aQ] at this;rw [iv,iv,ai,ai];unfold xg at this h64 ⊢
   lia
  walk_at "a";have e2':upd H' fl (.lst (iv (xg (rs.take i)) ++ iv r.outs)) tl=some (.lst (iv (qH (rs.take i)))):=by rw [mX (aX nft)];exact e2
  refine ⟨.inl ⟨rfl,_,SqL.of e2'⟩,iE5 y1 (wo a r.wd) dx1 fs _ (iA6 rfl ?_ (CT T _) (NI T _) f1 ?_)⟩
  ·rw [mX (n1 h0)];exact s3 _ _ h0
  refine iE4 tl l1 _ (iv r.ins) (iA6 rfl rfl e2' ?_ ?_ ?_)
  ·rw [mX (n1 h1)];exact s3 _ _ h1
  ·refine bI (zk ?_);have:=bt List.length E2;rw [aQ] at this;rw [iv,iv,ai,ai];unfold qH at this h64' ⊢
   lia
  refine ⟨_,iA4 rfl (λ b o hb=>?_) ?_ ?_⟩
  ·rw [mX (n2 hb),mX (n1 hb)];exact s3 _ _ hb
  ·rw [mX nft,mW,E1,zbW]
  ·rw [mW,E2,zbW]
 ·intro σ H1 m9;refine oE1 m9 λ v5 m7=>oA4 m7 λ m8 s3 e1 e2=>?_;clear m7 m9;subst m8;rw [hKs.len,aR] at e1 e2;walk_at "a";refine uc (xT T).mono ⟨gA,⟨_,⟨.inl ⟨_,SqL.of (s3 _ _ hb),rfl⟩,?_⟩⟩⟩;rw [hB.len];refine iE3 fl (xg rs) bs.length (iA6 rfl (SqL.of e1) h64 hlb (λ g1 H2 s4=>?_) (λ g1 H2 s4=>kbad (λ z=>g1 z.2.1) _ (s3.trans s4)));walk_at "a";refine uc (xT T).mono ⟨gA,⟨_,⟨.inl ⟨_,SqL.of (s4 _ _ (s3 _ _ hb)),rfl⟩,?_⟩⟩⟩;rw [hB.len];refine iE3 tl (qH rs) bs.length (iA6 rfl (SqL.of (s4 _ _ e2)) h64' hlb (λ g2 H3 s5=>?_) (λ g2 H3 s5=>kbad (λ z=>g2 z.2.2) _ (s3.trans (s4.trans s5))));have kok:=kok ⟨b1,g1,g2⟩;have s6:=s3.trans (s4.trans s5);clear s3 s4 s5 e1 e2;clear g1 g2;walk_at "a";walk_at "e";walk_at "a";refine ⟨bl,rfl,.inl ⟨⟨_,SqL.of (s6 _ _ hb)⟩,λ _ _ _ _ mQ hacc=>?_⟩⟩;have nacc:H mQ=none:=zA s6 hacc;let mT:Nat->St->Hp->Prop:=λ i σ H'=>∃ v us,σ=[v]/\Same H3 H'/\H' mQ=some (.lst us)/\Bts a H' (λ b=>H3 b=none/\b≠mQ) us (bs.take i);refine qM (K:=K) (a:=bl) (xs:=bvs) mT (iE2 _ ([]) (iA4 rfl (zf hacc) mW (by rw [bZ];exact .nil))) (λ i σ H' _ ⟨_,_,_,s,_⟩=>SqL.of (s _ _ (s6 _ _ hb))) ?_ ?_
  ·intro i x σ H' hi m9;refine oE2 m9 λ v us m7=>oA4 m7 λ m8 s7 e1 hU=>?_;clear m7 m9;subst m8;obtain ⟨⟨rm,pc⟩,hr',hBt0⟩:=hB.at hi;refine oE3 hBt0.inv λ y1 dx1 fs m7=>oA5 m7 λ m8 p0 h0 f1 f2=>?_;clear m7;subst m8;have hok:=hbo _ (ah hr');have hil:i < bs.length:=(aa.mp hr').1;have h0':=s7 _ _ (s6 _ _ h0);walk_at "a";refine iE4 a.h _ _ _ ⟨(ZE T).mono,iE5 y1 a.h dx1 fs _ (iA6 rfl h0' T.ic T.hX f1 (iE5 y1 a.h dx1 fs _ (iA6 rfl h0' T.ic T.gQ f2 ?_)))⟩;intro z dz hz hdz hne;refine iE4 z dz rm pc (iA3 rfl mW ?_);rw [ar hok,vK];have sN:Same H' (upd (upd H' dz (.own z)) z (.ins a.h dz (bf rm pc))):=λ b o h=>by rw [mX (mY h hz),mX (mY h hdz)];exact h
   have hz':upd (upd H' dz (.own z)) z (.ins a.h dz (bf rm pc)) z=some (.ins a.h dz (bf rm pc)):=mW;generalize upd (upd H' dz (.own z)) z (.ins a.h dz (bf rm pc))=H4 at sN hz' ⊢;have hzn:z≠mQ:=λ q=>by rw [q,e1] at hz;cases hz
   refine ⟨rfl,⟨_,iA3 (sN _ _ e1) (zk (by have:=hU.len;rw [aS] at this;lia)) (iE2 _ (us ++ [.ref z]) (iA4 rfl (λ b o hb=>?_) mW ?_))⟩⟩
   ·rw [mX (mY hb hacc)];exact sN _ _ (s7 _ _ hb)
   ·rw [aN,hr'];refine Bts.push (hU.keep λ b o hp hb=>⟨hp,by rw [mX hp.2];exact sN _ _ hb⟩) (zgI (p:=λ b=>H3 b=none/\b≠mQ) ⟨zA s7 hz,hzn⟩ (by rw [mX hzn];exact hz'))
  ·intro σ H4 m9;refine oE2 m9 λ v us m7=>oA4 m7 λ m8 s7 e1 hU=>?_;clear m7 m9;subst m8;rw [hB.len,aR] at hU;have s8:=s6.trans s7;have nacy:mQ≠y:=(mY hy nacc).symm;walk_at "a";refine iE4 y a.q dx ([]) (iA6 rfl (s8 _ _ hy) T.gj T.gk (by decide) ?_);have o9:Own H (upd H4 y (.ins a.q dx (zQ "belts" (.ref mQ) []))) y:=(Same.own s8).trans jr;have hy9:upd H4 y (.ins a.q dx (zQ "belts" (.ref mQ) [])) y=some (.ins a.q dx (zQ "belts" (.ref mQ) [])):=mW;have e9:upd H4 y (.ins a.q dx (zQ "belts" (.ref mQ) [])) mQ=some (.lst us):=by rw [mX nacy];exact e1
   have hU9:Bts a (upd H4 y (.ins a.q dx (zQ "belts" (.ref mQ) []))) (λ b=>H b=none/\b≠y) us bs:=hU.keep λ b o hp hb=>by
    have q1:H b=none:=zA s6 hp.1;have q2:b≠y:=(mY hy q1).symm;exact ⟨⟨q1,q2⟩,by rw [mX q2];exact hb⟩
   generalize upd H4 y (.ins a.q dx (zQ "belts" (.ref mQ) []))=H5 at o9 hy9 e9 hU9 ⊢;walk_at "a";walk_at "e";walk_at "a";refine ⟨kl,rfl,.inl ⟨⟨_,SqL.of (o9 _ _ nky hk)⟩,λ _ _ _ _ ac2 hac2=>?_⟩⟩;let mV:Nat->St->Hp->Prop:=λ i σ H'=>∃ v us2,σ=[v]/\Same H5 H'/\H' ac2=some (.lst us2)/\Kns a H' (λ b=>H5 b=none/\b≠ac2) us2 (rs.take i);refine qM (K:=K) (a:=kl) (xs:=mK) mV (iE2 _ ([]) (iA4 rfl (zf hac2) mW (by rw [bZ];exact .nil))) (λ i σ H' _ ⟨_,_,_,s,_⟩=>SqL.of (s _ _ (o9 _ _ nky hk))) ?_ ?_
   ·intro i x σ H' hi m9;refine oE2 m9 λ v us2 m7=>oA4 m7 λ m8 s10 e2 hV=>?_;clear m7 m9;subst m8;obtain ⟨r,hr',hKn⟩:=hKs.at hi;have hok:=hro _ (ah hr');have hil:i < rs.length:=(aa.mp hr').1;have hKn':KnP a H' p x r:=hKn.keep λ b o hp hb=>⟨hp,s10 _ _ (o9 _ _ (hpy b hp) hb)⟩;refine oE6 hKn'.inv λ y1 dx1 l1 l2 l3 fs m7=>oA9 m7 λ m8 p0 p1 p2 p3 h0 f1 f2 mR=>oA5 mR λ f3 h1 h2 h3 h4=>?_;clear m7 mR;subst m8;walk_at "a";refine iE7 y1 (wo a r.wd) dx1 fs _ _ _ (iA5 rfl h0 f3 ((zeP T r.wd).mono) ?_);refine iE3 y1 r p (iA5 rfl hKn' rfl hok (λ v' H6 s11 hN=>?_));refine ⟨_,iA3 (s11 _ _ e2) (zk (by have:=hV.len;rw [aS] at this;lia)) (iE2 _ (us2 ++ [v']) (iA4 rfl (λ b o hb=>?_) mW ?_))⟩
    ·rw [mX (mY hb hac2)];exact s11 _ _ (s10 _ _ hb)
    ·rw [aN,hr'];refine Kns.append (hV.keep λ b o hp hb=>⟨hp,by rw [mX hp.2];exact s11 _ _ hb⟩) (Kns.one (hN.keep λ b o hp hb=>?_));have q2:b≠ac2:=λ z=>by rw [z] at hp;rw [New,e2] at hp;cases hp
     exact ⟨⟨zA s10 hp,q2⟩,by rw [mX q2];exact hb⟩
   ·intro σ H6 m9;refine oE2 m9 λ v us2 m7=>oA4 m7 λ m8 s10 e2 hV=>?_;clear m7 m9;subst m8;rw [hKs.len,aR] at hV;have hy10:=s10 _ _ hy9;walk_at "a";refine iE4 y a.q dx _ (iA6 rfl hy10 T.gj T.gi (by show 1 < 1000;decide) ?_);have n2y:ac2≠y:=λ z=>by rw [z,hy9] at hac2;cases hac2
    have ho:∀ b,H5 b=none->b≠y->H b=none:=λ b h1 h2=>by
     cases e:H b with
     | none=>rfl
     | some o=>rw [o9 b o h2 e] at h1;cases h1
    refine kok _ mQ ac2 us us2 ((o9.trans (Same.own s10)).trans jr) mW ?_ ?_ ?_ ?_ nacc (ho _ hac2 n2y)
    ·rw [mX nacy];exact s10 _ _ e9
    ·rw [mX n2y];exact e2
    ·exact hU9.keep λ b o hp hb=>⟨hp.1,by rw [mX hp.2];exact s10 _ _ hb⟩
    ·refine hV.keep λ b o hp hb=>?_;have q:b≠y:=λ z=>by rw [z,hy9] at hp;cases hp.1
     exact ⟨ho b hp.1 q,by rw [mX q];exact hb⟩
def zbV (T:Txt K mg a):KCal P w K mg base "Work" a.q 5 ["self","belts","knots"] [] (Zo K a):=T.lh.cal T.mG (Vu T)
noncomputable def zir (b:Int × Int):D:=.tup [.int b.1,.int b.2]
def Vl (n:Nat):(rgI n).length=n:=by simp [rgI]
def zan (n:Nat):rgI (n + 1)=rgI n ++ [(n:Int)]:=by simp [rgI,range_succ]
def zy (ns:A8):(iv ns).length=ns.length:=by rw [iv,ai]
def Zh {x:V} (h:(iv ns)[i]?=some x):∃ n,ns[i]?=some n/\x=.int n:=by
 rw [iv,am,ao] at h;obtain ⟨n,h1,h2⟩:=h;exact ⟨n,h1,h2.symm⟩
def jN (h:ns[i]?=some n):(iv ns)[i]?=some (.int n):=by rw [iv,am,h];rfl
def Xp (ns:A8) (k:Nat):(iv ns).eraseIdx k=iv (ns.eraseIdx k):=by
 induction ns generalizing k with
 | nil=>simp [iv]
 | cons n ns ih =>
  cases k with
  | zero=>simp [iv]
  | succ k=>simpa [iv] using ih k
def qI (ns:A8) (n:Int):iv ns ++ [.int n]=iv (ns ++ [n]):=by simp [iv]
abbrev ms4 (L R E B:Addr):List Addr:=[L,R,E,B]
structure WInv (bs:A3) (rs:Av) (es ks:A8):Prop where
 tk:(qH rs ++ es).Perm (rgI bs.length)
 fd:(xg rs ++ ks).Perm (rgI bs.length)
 ro:∀ r∈rs,r.ok
 bo:∀ b∈bs,zB b.1 b.2
def zb6 (rs:Av) (r:Row):xg (rs ++ [r])=xg rs ++ r.outs:=by simp [xg]
def WU (rs:Av) (r:Row):qH (rs ++ [r])=qH rs ++ r.ins:=by simp [qH]
def VJ {us:Ar} {n:Nat} (h:us.length=n + 1):∃ a vs,us=a :: vs/\vs.length=n:=by
 cases us with
 | nil=>cases h
 | cons a vs=>exact ⟨a,vs,rfl,Nat.succ.inj h⟩
def two_of {us:Ar} (h:us.length=2):∃ a b,us=[a,b]:=by
 obtain ⟨a,_,rfl,h1⟩:=VJ h;obtain ⟨b,_,rfl,h2⟩:=VJ h1;exact ⟨a,b,by rw [bz.mp h2]⟩
theorem ZT:∀ {es:A8} {j:Nat} {y:Int},es[j]?=some y->(y :: es.eraseIdx j).Perm es
 | [],_,_,h=>by simp at h
 | e :: es,0,y,h=>by
  have h:e=y:=by simpa using h
  subst h;simp
 | e :: es,j + 1,y,h=>by
  have ih:=ZT (es:=es) (j:=j) (y:=y) (by simpa using h);rw [List.eraseIdx_cons_succ];exact (List.Perm.swap e y _).trans (ih.cons e)
def zf6 {n:Nat} {x:Int} (h:x∈rgI n):0<=x/\x < n:=by
 unfold rgI at h;obtain ⟨i,hi,rfl⟩:=be.mp h;have:=dN.mp hi
 lia
def zcJ {α:Type} {xs:List α} {x:α} (h:xs[i]?=some x):xs.drop i=x :: xs.drop (i + 1):=by
 obtain ⟨hi,rfl⟩:=aa.mp h;exact List.drop_eq_getElem_cons hi
def vy {b:Int × Int} (h:Rep H p v (zir b)):∃ t,v=.ref t/\H t=some (.tup [.int b.1,.int b.2]):=by
 obtain ⟨t,us,rfl,_,ht,rr⟩:=Rep.tup' h;have g:=rr.g;obtain ⟨x0,x1,rfl⟩:=two_of rr.len;have a0:=g 0 x0 _ rfl rfl;have a1:=g 1 x1 _ rfl rfl;cases a0;cases a1;exact ⟨t,rfl,ht⟩
noncomputable def qz (a:Ad) (bs:A3) (rs:Av):D:=.ob a.q [("belts",.lst (bs.map (Zi a))),("knots",.lst (rs.map (wZ a)))]
def zhT {l1 l2:Addr}:wf l1 l2=([(("belts":Str),V.ref l1),(("knots":Str),V.ref l2)]:At):=by
 unfold wf;simp only [zQ];rw [ap (by decide +kernel)]
def VR {a:Ad} {rs:Av}:([("belts",.lst (bs.map (Zi a))),("knots",.lst (rs.map (wZ a)))]:List (Str × D)).lookup ("belts":Str)=some (.lst (bs.map (Zi a))):=jf
def zd4 {a:Ad} {rs:Av}:([("belts",.lst (bs.map (Zi a))),("knots",.lst (rs.map (wZ a)))]:List (Str × D)).lookup ("knots":Str)=some (.lst (rs.map (wZ a))):=(zU (by decide +kernel)).trans jf
def zhS {a:Ad} {rs:Av} {f:Str} (h1:f≠"belts") (h2:f≠"knots"):([("belts",.lst (bs.map (Zi a))),("knots",.lst (rs.map (wZ a)))]:List (Str × D)).lookup f=none:=(zU h1).trans (zU h2)
def zeJ {x b:Addr} (h:H x=some o) (hb:H b=none):b ∉ [x]:=λ z=>by rw [ay.mp z,h] at hb;cases hb
section
variable {H:Hp} {z dz:Addr} {Q:VK} {EX:XK}
def vT {rm pc:Int} (hz:H z=none) (hdz:H dz=none) (ok:zB rm pc) (k:∀ H',Same H H'->BtP a H' (New H) (.ref z) (rm,pc)->Q .non H'):Zp a.h a.d [.ref z,.int rm,.int pc] (upd (upd H dz (.own z)) z (.ins a.h dz [])) Q EX:=by
 refine ⟨z,dz,rm,pc,rfl,mW,?_⟩;rw [ar ok,vK];exact k _ (λ b o h=>by rw [mX (mY h hz),mX (mY h hdz)];exact h) (zgI hz mW)
def ZZ {y pc:Int} (hz:H z=none) (hdz:H dz=none) (h0:0<=pc) (h4:pc<=4) (k:∀ H',Same H H'->KnP a H' (New H) (.ref z) ⟨.drain,[y],[],pc,[]⟩->Q .non H'):vj a.k a.e [.ref z,.int y,.int pc] (upd (upd H dz (.own z)) z (.ins a.k dz [])) Q EX:=by
 refine ⟨z,dz,.int y,pc,rfl,mW,?_⟩;rw [ar ⟨h0,h4⟩];intro H' m1 m2 s' g1 g2 g3 n1 n2;exact k _ (Own.of_new hz hdz s') (zaO (p:=New H) (ins:=[y]) (outs:=[]) hz (zM n1) (zM n2) g1 g2 g3)
def QF {y pc:Int} {kd:A8} (hz:H z=none) (hdz:H dz=none) (hl:H l=some (.lst (iv kd))) (h1:1<=pc) (h4:pc<=4) (k1:1<=kd.length) (k6:kd.length<=6) (kk:xH kd) (k:∀ H',Same H H'->KnP a H' (New H) (.ref z) ⟨.source,[],[y],pc,kd⟩->Q .non H'):wv K a.j a.e [.ref z,.int y,.int pc,.ref l] (upd (upd H dz (.own z)) z (.ins a.j dz [])) Q EX:=by
 refine ⟨z,dz,l,.int y,pc,kd,rfl,mW,SqL.of (qu hz hdz hl),mY hl hz,λ _ H' m1 m2 m3 s' g1 g2 g3 g4 n1 n2 n3=>?_,λ hbad=>absurd ⟨h1,h4,k1,k6,kk⟩ hbad⟩;exact k _ (Own.of_new hz hdz s') (Ww (p:=New H) (ins:=[]) (outs:=[y]) hz (zM n1) (zM n2) (zM n3) g1 g2 g3 g4)
def Wq {y:Int} (hz:H z=none) (hdz:H dz=none) (hl:H l=some (.lst (iv outs))) (h2:2<=outs.length) (h4:outs.length<=4) (k:∀ H',Same H H'->KnP a H' (New H) (.ref z) ⟨.parter,[y],outs,0,[]⟩->Q .non H'):ji K a.l a.e [.ref z,.int y,.ref l] (upd (upd H dz (.own z)) z (.ins a.l dz [])) Q EX:=by
 refine ⟨z,dz,l,.int y,iv outs,rfl,mW,SqL.of (qu hz hdz hl),mY hl hz,?_⟩;rw [ar (by rw [zy];exact ⟨h2,h4⟩)];intro H' m1 m2 s' g1 g2 g3 n1 n2;exact k _ (Own.of_new hz hdz s') (Wx (p:=New H) (ins:=[y]) (outs:=outs) hz (zM n1) (zM n2) g1 g2 g3)
def zeO {y:Int} (hz:H z=none) (hdz:H dz=none) (hl:H l=some (.lst (iv outs))) (h2:2<=outs.length) (h4:outs.length<=4) (k:∀ H',Same H H'->KnP a H' (New H) (.ref z) ⟨.first,[y],outs,0,[]⟩->Q .non H'):ji K a.m a.e [.ref z,.int y,.ref l] (upd (upd H dz (.own z)) z (.ins a.m dz [])) Q EX:=by
 refine ⟨z,dz,l,.int y,iv outs,rfl,mW,SqL.of (qu hz hdz hl),mY hl hz,?_⟩;rw [ar (by rw [zy];exact ⟨h2,h4⟩)];intro H' m1 m2 s' g1 g2 g3 n1 n2;exact k _ (Own.of_new hz hdz s') (zaN (p:=New H) (ins:=[y]) (outs:=outs) hz (zM n1) (zM n2) g1 g2 g3)
def zeN {y kk:Int} (hz:H z=none) (hdz:H dz=none) (hl:H l=some (.lst (iv outs))) (h2:outs.length=2) (k0:0<=kk) (k1:kk < jH) (k:∀ H',Same H H'->KnP a H' (New H) (.ref z) ⟨.sieve,[y],outs,0,[kk]⟩->Q .non H'):vh K a.n a.e [.ref z,.int y,.ref l,.int kk] (upd (upd H dz (.own z)) z (.ins a.n dz [])) Q EX:=by
 refine ⟨z,dz,l,.int y,iv outs,kk,rfl,mW,SqL.of (qu hz hdz hl),mY hl hz,?_⟩;rw [ar (by rw [zy];exact ⟨h2,k0,k1⟩)];intro H' m1 m2 s' g1 g2 g3 n1 n2;exact k _ (Own.of_new hz hdz s') (zaM (p:=New H) (ins:=[y]) (outs:=outs) hz (zM n1) (zM n2) g1 g2 g3)
def Wr {y:Int} {ins:A8} (hz:H z=none) (hdz:H dz=none) (hl:H l=some (.lst (iv ins))) (h2:2<=ins.length) (h4:ins.length<=4) (k:∀ H',Same H H'->KnP a H' (New H) (.ref z) ⟨.joiner,ins,[y],0,[]⟩->Q .non H'):ww K a.o a.e [.ref z,.ref l,.int y] (upd (upd H dz (.own z)) z (.ins a.o dz [])) Q EX:=by
 refine ⟨z,dz,l,.int y,iv ins,rfl,mW,SqL.of (qu hz hdz hl),mY hl hz,?_⟩;rw [ar (by rw [zy];exact ⟨h2,h4⟩)];intro H' m1 m2 s' g1 g2 g3 n1 n2;exact k _ (Own.of_new hz hdz s') (Wy (p:=New H) (ins:=ins) (outs:=[y]) hz (zM n1) (zM n2) g1 g2 g3)
end
def WInv.knot {rs:Av} {es ks es' ks':A8} {r:Row} (h:WInv bs rs es ks) (pe:(r.ins ++ es').Perm es) (pk:(r.outs ++ ks').Perm ks) (ok:r.ok):WInv bs (rs ++ [r]) es' ks':=by
 refine ⟨?_,?_,λ x hx=>?_,h.bo⟩
 ·rw [WU,bP];exact (bQ _ pe).trans h.tk
 ·rw [zb6,bP];exact (bQ _ pk).trans h.fd
 ·rcases aH.mp hx with hx|hx
  ·exact h.ro x hx
  ·rw [ay.mp hx];exact ok
def WInv.perm {rs:Av} {es ks es' ks':A8} (h:WInv bs rs es ks) (pe:es'.Perm es) (pk:ks'.Perm ks):WInv bs rs es' ks':=⟨(bQ _ pe).trans h.tk,(bQ _ pk).trans h.fd,h.ro,h.bo⟩
def WInv.belt {rs:Av} {es ks:A8} {b:Int × Int} (h:WInv bs rs es ks) (hb:zB b.1 b.2):WInv (bs ++ [b]) rs (es ++ [(bs.length:Int)]) (ks ++ [(bs.length:Int)]):=by
 refine ⟨?_,?_,h.ro,λ x hx=>?_⟩
 ·rw [aQ,cm,zan,<- bP];exact cF _ h.tk
 ·rw [aQ,cm,zan,<- bP];exact cF _ h.fd
 ·rcases aH.mp hx with hx|hx
  ·exact h.bo x hx
  ·rw [ay.mp hx];exact hb
structure GS (a:Ad) (ms:Ae) (H0 H:Hp) (L R E B:Addr) (bs:A3) (rs:Av) (es ks:A8):Prop where
 f:Fr (ms4 L R E B) H0 H
 nLR:L≠R
 nLE:L≠E
 nLB:L≠B
 nRE:R≠E
 nRB:R≠B
 nEB:E≠B
 m:∀ b∈ms4 L R E B,b∈ms
 hs:∀ b∈ms,∃ xs,H b=some (.lst xs)
 hL:∃ bvs,H L=some (.lst bvs)/\Reps H (Off ms) bvs (bs.map (Zi a))
 hR:∃ rvs,H R=some (.lst rvs)/\Reps H (Off ms) rvs (rs.map (wZ a))
 hE:H E=some (.lst (iv es))
 hB:H B=some (.lst (iv ks))
section
variable {ms:Ae} {H0 H H':Hp} {L R E B:Addr} {bs bs':A3} {rs rs':Av} {es ks es' ks':A8}
def GS.same (w:GS a ms H0 H L R E B bs rs es ks) (s:Same H H'):GS a ms H0 H' L R E B bs rs es ks:=by
 obtain ⟨bvs,h1,r1⟩:=w.hL;obtain ⟨rvs,h2,r2⟩:=w.hR;exact { w with f:=w.f.trans s.fr,hs:=λ b hb=>by obtain ⟨xs,h⟩:=w.hs b hb;exact ⟨xs,s _ _ h⟩,hL:=⟨bvs,s _ _ h1,r1.same s⟩,hR:=⟨rvs,s _ _ h2,r2.same s⟩,hE:=s _ _ w.hE,hB:=s _ _ w.hB }
def GS.off (w:GS a ms H0 H L R E B bs rs es ks) (h:H x=none):x ∉ ms:=λ z=>by
 obtain ⟨xs,hx⟩:=w.hs x z;rw [hx] at h;cases h
def GS.here (w:GS a ms H0 H L R E B bs rs es ks):GS a ms H H L R E B bs rs es ks:={ w with f:=Fr.refl }
def GS.trans (w:GS a ms H0 H L R E B bs rs es ks) (v:GS a ms H H' L R E B bs' rs' es' ks'):GS a ms H0 H' L R E B bs' rs' es' ks':={ v with f:=w.f.trans v.f }
def Xs (h:∀ b∈ms,∃ xs,H b=some (.lst xs)):∀ b∈ms,∃ ys,upd H x (.lst xs) b=some (.lst ys):=λ b hb=>by
 by_cases e:b=x
 ·subst e;exact ⟨_,mW⟩
 ·obtain ⟨ys,h⟩:=h b hb;exact ⟨ys,by rw [mX e];exact h⟩
def GS.setE (w:GS a ms H0 H L R E B bs rs es ks) (es':A8):GS a ms H0 (upd H E (.lst (iv es'))) L R E B bs rs es' ks:=by
 obtain ⟨bvs,h1,r1⟩:=w.hL;obtain ⟨rvs,h2,r2⟩:=w.hR;have f:Fr ms H (upd H E (.lst (iv es'))):=qA (w.m E (by simp));exact { w with f:=w.f.trans (qA (by simp)),hs:=Xs w.hs,hL:=⟨bvs,by rw [mX w.nLE];exact h1,r1.fr f⟩,hR:=⟨rvs,by rw [mX w.nRE];exact h2,r2.fr f⟩,hE:=mW,hB:=by rw [mX w.nEB.symm];exact w.hB }
def GS.setB (w:GS a ms H0 H L R E B bs rs es ks) (ks':A8):GS a ms H0 (upd H B (.lst (iv ks'))) L R E B bs rs es ks':=by
 obtain ⟨bvs,h1,r1⟩:=w.hL;obtain ⟨rvs,h2,r2⟩:=w.hR;have f:Fr ms H (upd H B (.lst (iv ks'))):=qA (w.m B (by simp));exact { w with f:=w.f.trans (qA (by simp)),hs:=Xs w.hs,hL:=⟨bvs,by rw [mX w.nLB];exact h1,r1.fr f⟩,hR:=⟨rvs,by rw [mX w.nRB];exact h2,r2.fr f⟩,hE:=by rw [mX w.nEB];exact w.hE,hB:=mW }
def GS.setX (w:GS a ms H0 H L R E B bs rs es ks) (hx:x∈ms) (nx:x ∉ ms4 L R E B) (h0:H0 x=none):GS a ms H0 (upd H x (.lst xs)) L R E B bs rs es ks:=by
 obtain ⟨bvs,h1,r1⟩:=w.hL;obtain ⟨rvs,h2,r2⟩:=w.hR;have f:Fr ms H (upd H x (.lst xs)):=qA hx;have n:∀ b∈ms4 L R E B,b≠x:=λ b hb z=>nx (by rw [<- z];exact hb);refine { w with f:=λ b o nb hb=>?_,hs:=Xs w.hs,hL:=⟨bvs,by rw [mX (n L (by simp))];exact h1,r1.fr f⟩,hR:=⟨rvs,by rw [mX (n R (by simp))];exact h2,r2.fr f⟩,hE:=by rw [mX (n E (by simp))];exact w.hE,hB:=by rw [mX (n B (by simp))];exact w.hB };rw [mX (λ z=>by rw [z,h0] at hb;cases hb)];exact w.f b o nb hb
def GS.ext (w:GS a ms H0 H L R E B bs rs es ks) (hx:H x=none):GS a (x :: ms) H0 (upd H x (.lst xs)) L R E B bs rs es ks/\x ∉ ms4 L R E B:=by
 have w1:=w.same (zf (o:=.lst xs) hx);have nx:=w.off hx;obtain ⟨bvs,h1,r1⟩:=w.hL;obtain ⟨rvs,h2,r2⟩:=w.hR;have s:=zf (o:=.lst xs) hx;have mo:∀ b∈x :: ms,b∈ms\/H b=none:=λ b hb=>by
  rcases az.mp hb with rfl|hb
  ·exact .inr hx
  ·exact .inl hb
 refine ⟨{ w1 with m:=λ b hb=>aF _ (w.m b hb),hs:=λ b hb=>?_,hL:=⟨bvs,s _ _ h1,(r1.more mo).same s⟩,hR:=⟨rvs,s _ _ h2,(r2.more mo).same s⟩ },λ z=>nx (w.m x z)⟩;rcases az.mp hb with rfl|hb
 ·exact ⟨_,mW⟩
 ·exact w1.hs b hb
def GS.less (w:GS a (x :: ms) H0 H L R E B bs rs es ks) (nx:x ∉ ms4 L R E B):GS a ms H0 H L R E B bs rs es ks:=by
 obtain ⟨bvs,h1,r1⟩:=w.hL;obtain ⟨rvs,h2,r2⟩:=w.hR;have mo:∀ b∈ms,b∈x :: ms\/H b=none:=λ b hb=>.inl (aF _ hb);refine { w with m:=λ b hb=>?_,hs:=λ b hb=>w.hs b (aF _ hb),hL:=⟨bvs,h1,r1.more mo⟩,hR:=⟨rvs,h2,r2.more mo⟩ };rcases az.mp (w.m b hb) with rfl|h
 ·exact absurd hb nx
 ·exact h
def GS.addL (w:GS a ms H0 H L R E B bs rs es ks) {H1:Hp} {b:Int × Int} {bvs:Ar} (e:H L=some (.lst bvs)) (s:Same H H1) (q:BtP a H1 (New H) v b):GS a ms H0 (upd H1 L (.lst (bvs ++ [v]))) L R E B (bs ++ [b]) rs es ks/\bvs.length=bs.length:=by
 have w1:=w.same s;obtain ⟨bvs',h1,r1⟩:=w1.hL;rw [s _ _ e] at h1;cases h1;obtain ⟨rvs,h2,r2⟩:=w1.hR;have f:Fr ms H1 (upd H1 L (.lst (bvs ++ [v]))):=qA (w.m L (by simp));refine ⟨{ w1 with f:=w1.f.trans (qA (by simp)),hs:=Xs w1.hs,hL:=⟨_,mW,?_⟩,hR:=⟨rvs,by rw [mX w.nLR.symm];exact h2,r2.fr f⟩,hE:=by rw [mX w.nLE.symm];exact w1.hE,hB:=by rw [mX w.nLB.symm];exact w1.hB },by rw [r1.len,ai]⟩;rw [bg];exact (r1.fr f).append (.one (Rep.fr (q.keep λ b o hb ho=>⟨w.off hb,ho⟩) f))
def GS.addR (w:GS a ms H0 H L R E B bs rs es ks) {H1:Hp} {r:Row} {rvs:Ar} (e:H R=some (.lst rvs)) (s:Same H H1) (q:KnP a H1 (Off ms) v r):GS a ms H0 (upd H1 R (.lst (rvs ++ [v]))) L R E B bs (rs ++ [r]) es ks/\rvs.length=rs.length:=by
 have w1:=w.same s;obtain ⟨bvs,h1,r1⟩:=w1.hL;obtain ⟨rvs',h2,r2⟩:=w1.hR;rw [s _ _ e] at h2;cases h2;have f:Fr ms H1 (upd H1 R (.lst (rvs ++ [v]))):=qA (w.m R (by simp));refine ⟨{ w1 with f:=w1.f.trans (qA (by simp)),hs:=Xs w1.hs,hL:=⟨bvs,by rw [mX w.nLR];exact h1,r1.fr f⟩,hR:=⟨_,mW,?_⟩,hE:=by rw [mX w.nRE.symm];exact w1.hE,hB:=by rw [mX w.nRB.symm];exact w1.hB },by rw [r2.len,ai]⟩;rw [bg];exact (r2.fr f).append (.one (Rep.fr q f))
def GS.newK (w:GS a ms H0 H L R E B bs rs es ks) {H1:Hp} {r:Row} (q:KnP a H1 (New H) v r):KnP a H1 (Off ms) v r:=q.keep λ b o hb ho=>⟨w.off hb,ho⟩
end
def zgd {A C P G:Prop} [Decidable A] (p:A\/C->P) (g:¬ A->(C->P)->G):if A then P else G:=by
 by_cases a:A
 ·rw [ar a];exact p (.inl a)
 ·rw [ap a];exact g a λ c=>p (.inr c)
def ZR {α:Type} (xs:List α) (k:Nat):(xs.drop k ++ xs.take k).Perm xs:=by
 refine List.perm_append_comm.trans ?_;rw [fD]
def zaV (xs:Ar) (k:Nat) (h:k<=xs.length):Qa xs (some (k:Int)) none=xs.drop k:=by
 unfold Qa;rw [HT.sIx_nat,HT.sIx_none,Nat.min_eq_left h];exact cP (by rw [dA];lia)
def Xx (xs:Ar) (n:Nat):Qa xs none (some (n:Int))=xs.take n:=by
 have h:=HT.sIx_nat xs.length xs.length n;unfold Qa;rw [HT.sIx_none,h,Nat.sub_zero,List.drop_zero];by_cases e:n<=xs.length
 ·rw [Nat.min_eq_left e]
 ·rw [Nat.min_eq_right (by lia),aR,cP (by lia)]
def zhG (ns:A8) (m:Nat):∃ cs:List Int,Qa (iv ns) (some 1) (some (1 + (m:Int)))=iv cs/\cs.length<=m:=by
 unfold Qa;rw [show (1:Int) + (m:Int)=((1 + m:Nat):Int) by lia,show (some (1:Int))=some ((1:Nat):Int) from rfl,HT.sIx_nat,HT.sIx_nat,zy];refine ⟨(ns.drop (min 1 ns.length)).take (min (1 + m) ns.length - min 1 ns.length),by simp [iv],?_⟩;rw [aS]
 lia
def Vy {z dz L R:Addr} {EX:XK} {bvs rvs:Ar} {rs:Av} {p q:A7} (hz:H z=none) (hdz:H dz=none) (hL:H L=some (.lst bvs)) (hR:H R=some (.lst rvs)) (rB:Reps H p bvs (bs.map (Zi a))) (rK:Reps H q rvs (rs.map (wZ a))) (mP:zR bs rs) (bo:∀ b∈bs,zB b.1 b.2) (ro:∀ r∈rs,r.ok)
  (k:∀ H',Same H H'->Rep H' (Off []) (.ref z) (qz a bs rs)->Q .non H'):Zo K a [.ref z,.ref L,.ref R] (upd (upd H dz (.own z)) z (.ins a.q dz [])) Q EX:=by
 have lb:=mP.1.1.2;refine ⟨z,dz,L,R,bvs,rvs,bs,rs,λ b=>b≠z,rfl,mW,mY hL hz,mY hR hz,λ _ h=>h,qu hz hdz hL,qu hz hdz hR,
  (Bts.of rB).keep λ b o _ hb=>⟨mY hb hz,qu hz hdz hb⟩,(Kns.of rK).keep λ b o _ hb=>⟨mY hb hz,qu hz hdz hb⟩,bo,ro,by rw [mP.2.1.length_eq,Vl];lia,by rw [mP.2.2.length_eq,Vl];lia,by lia,λ _ H4 m1 m2 bv kv o4 g0 g1 g2 gB gK n1 n2=>?_,λ y=>absurd mP y⟩
 refine k _ (Own.of_new hz hdz o4) ?_;rw [zhT] at g0;exact wL (λ z=>nomatch z) g0 rfl (.cons (gB.reps.all.mk' (λ z=>nomatch z) g1) (.cons (gK.reps.all.mk' (λ z=>nomatch z) g2) .nil))
def WInv.work {rs rs':Av} (h:WInv bs rs [] []) (pm:rs'.Perm rs) (b24:bs.length<=24) (r1:1<=rs.length) (r24:rs.length<=24):zR bs rs'/\(∀ r∈rs',r.ok):=by
 have tk:=h.tk;have fd:=h.fd;rw [bY] at tk fd;have pl:=pm.length_eq;have b1:1<=bs.length:=by
  obtain ⟨r,rs0,rfl⟩:=cU (eY (by lia:0 < rs.length));have ok:=h.ro r (by simp);have lt:=tk.length_eq;have lf:=fd.length_eq;rw [Vl] at lt lf;have e1:(qH (r :: rs0)).length=r.ins.length + (qH rs0).length:=by simp [qH]
  have e2:(xg (r :: rs0)).length=r.outs.length + (xg rs0).length:=by simp [xg]
  have:1<=r.ins.length + r.outs.length:=by
   obtain ⟨wd,ins,outs,pc,kd⟩:=r;cases wd
   ·obtain ⟨_,⟨o,q⟩,_⟩:=ok;simp only at q;subst q;simp
   ·obtain ⟨⟨o,q⟩,_⟩:=ok;simp only at q;subst q;simp
   ·obtain ⟨⟨o,q⟩,_⟩:=ok;simp only at q;subst q;simp
   ·obtain ⟨⟨o,q⟩,_⟩:=ok;simp only at q;subst q;simp
   ·obtain ⟨⟨o,q⟩,_⟩:=ok;simp only at q;subst q;simp
   ·obtain ⟨⟨o,q⟩,_⟩:=ok;simp only at q;subst q;simp
  lia
 refine ⟨⟨⟨⟨b1,b24⟩,by lia,by lia⟩,?_,?_⟩,λ r hr=>h.ro r (pm.mem_iff.mp hr)⟩
 ·exact (pm.flatMap_right _).trans fd
 ·exact (pm.flatMap_right _).trans tk
noncomputable def QY (ns:A8) (k:Nat):Int:=ns.getD k 0
def zgT (K:A0):Sp:=λ vs H Q _=>∃ (l:Addr) (ns:A8) (k:Nat),vs=[.ref l,.int k]/\SqL K H l (ns.map V.int)/\Q (.int (QY ns k)) H
def zfo (T:Txt K mg a):Cal P w K mg base "_law_at" 1 ["_law_script","_law_k"] [] (zgT K):=T.mE.cal λ F=>by
 refine F.okx zfH ?_ ?_
 ·walk_at "i"
 walk_at "k";refine oE3 h λ l ns n m7=>oA3 m7 λ m8 hl k=>?_;clear m7 h;subst m8;walk_at "T";refine ⟨_,(zg (zD (zm QS (pq 1) (z9 zX zW (za (pq 0) zb)) (zr _))  (zc (zl (zo (pq 0) (pq 1))))  zn)  (zc (zl zd))),?_⟩;walk_at "a";refine ⟨_,.inl ⟨_,hl,rfl⟩,?_⟩;walk_at "r";rw [ai];refine zN (λ h=>?_) (λ h=>?_)
 ·have h:n < ns.length:=by lia
  refine zu hl (zE (by rw [am,ac h];rfl)) ?_;have e:ns[n]=QY ns n:=by simp [QY,h]
  rw [e];exact k
 ·have e:QY ns n=0:=by
   have h:ns.length<=n:=by lia
   simp [QY,h]
  rw [e] at k;walk_at "r";exact k
def wu (c f:Int):Int:=(c % 2147483647 + 1) * f % 2147483647
def ju (c f:Int):0<=wu c f:=aJ _ (by decide)
def zeb:Sp:=λ vs H Q _=>∃ c f:Int,vs=[.int c,.int f]/\0<=f/\f < 2147483647/\Q (.int (wu c f)) H
def jh (T:Txt K mg a):Cal P w K mg base "_law_spread" 1 ["_law_cell","_law_factor"] [] zeb:=T.lF.cal λ F=>by
 refine F.okx zag ?_ ?_
 ·walk_at "i"
 walk_at "k";refine oE2 h λ c n m7=>oA4 m7 λ m8 h0 h1 k=>?_;clear m7 h;subst m8;walk_at "T";refine ⟨_,(zc (zl (zZ (zt jM (zt zJ (zZ (pq 0)) zd) (pq 1))))),?_⟩;walk_at "r";exact ⟨mul_okR (by lia) (by lia),k⟩
def zgU (a:Ad):Sp:=λ vs H Q _=>∃ (L:Addr) (bvs:Ar) (n sp:Int),vs=[.ref L,.int n,.int sp]/\0<=n/\1<=sp/\sp<=4/\H L=some (.lst bvs)/\bvs.length<=100 /\
 ∀ rm pc z H1,zB rm pc->Same H H1->BtP a H1 (New H) (.ref z) (rm,pc)->Q (.int bvs.length) (upd H1 L (.lst (bvs ++ [.ref z])))
def vI (T:Txt K mg a):Cal P w K mg base "_law_belt" 3 ["_law_belts","_law_number","_law_span"] [] (zgU a):=T.mf.cal λ F=>by
 refine F.okx zdj ?_ ?_
 ·walk_at "i"
 walk_at "j";refine oE4 h λ L bvs n sp m7=>oA7 m7 λ m8 n0 p1 p4 hL lb k=>?_;clear m7 h;subst m8;walk_at "T";refine ⟨_,(zg (zp 3 zdj.nd (zt zJ zd (zZ (pq 1))))  (qd (zD (PW.pt (pw_and (zm (qK hr.units1) (zZ (qb (pq 1))) zd (zr _)) (pw_and1 (zm QS (z9 zX zW (za (pq 0) zb)) zd (zr _)))))  (zc (zp 3 zdj.nd (zt zJ (pq 3) zd)))  zn)  (zg (zw (qy aq ax aw zK (pq 0) (za (qr (x:="Belt") ⟨rfl,rfl,rfl⟩ hr (za (pq 3) (za (zt zJ zd (zt qq (qb (pq 1)) (pq 2))) zb))) zb)))  (zc (zl (zt xC (z9 zX zW (za (pq 0) zb)) zd)))))),?_⟩;walk_at "a";have z0:=aJ n (show (3:Int)≠0 by decide);have z1:=aG n (show (0:Int) < 3 by decide);refine cut (λ σ' H'=>∃ rm:Int,σ'=[some (.ref L),some (.int n),some (.int sp),some (.int rm)]/\H'=H/\1<=rm/\rm<=6) ?_ ?_
 ·walk_at "a";refine (zN (λ _=>⟨gA,⟨_,⟨.inl ⟨_,SqL.of hL,rfl⟩,zN (λ _=>⟨_,iA3 rfl (by lia) (by lia)⟩) (λ _=>⟨_,iA3 rfl (by lia) (by lia)⟩)⟩⟩⟩) (λ _=>⟨_,iA3 rfl (by lia) (by lia)⟩))
 intro σ' H' m9;refine oE1 m9 λ rm m7=>oA4 m7 λ m8 mR r1 r6=>?_;clear m7 m9;subst m8 mR;walk_at "a";have y0:=aJ (n / 24) (show (sp:Int)≠0 by lia);have y1:=aG (n / 24) (show (0:Int) < sp by lia);refine ⟨.inl ⟨rfl,_,SqL.of hL⟩,iE4 a.h _ _ _ (iA3 ((ZE T).mono) (by lia) ?_)⟩;intro z dz hz hdz hne;refine vT hz hdz (iA4 r1 r6 (by lia) (by lia)) λ H1 s1 q1=>⟨rfl,?_⟩;refine iE3 L bvs _ (iA5 rfl rfl (s1 _ _ hL) (zk (by lia)) ?_);have k:=k rm _ z H1 ⟨r1,r6,by lia,by lia⟩ s1 q1;have e:upd H1 L (.lst (bvs ++ [.ref z])) L=some (.lst (bvs ++ [.ref z])):=mW;generalize upd H1 L (.lst (bvs ++ [.ref z]))=H2 at k e ⊢;walk_at "a";refine ⟨_,.inl ⟨_,SqL.of e,rfl⟩,?_⟩;rw [aQ,cm,show (((bvs.length + 1:Nat):Int) - 1)=bvs.length by lia];exact k
def zfC (a:Ad):Sp:=λ vs H Q _=>∃ y n sp:Int,vs=[.int y,.int n,.int sp]/\0<=n/\1<=sp/\sp<=4/\∀ v H' pc,Same H H'->0<=pc->pc<=4->KnP a H' (New H) v ⟨.drain,[y],[],pc,[]⟩->Q v H'
def WM (T:Txt K mg a):Cal P w K mg base "_law_drain" 4 ["_law_into","_law_number","_law_span"] [] (zfC a):=T.lV.cal λ F=>by
 refine F.okx zbx ?_ ?_
 ·walk_at "i"
 walk_at "j";refine oE3 h λ y n sp m7=>oA5 m7 λ m8 n0 p1 p4 k=>?_;clear m7 h;subst m8;walk_at "T";refine ⟨_,(zg (zD (zm (qK hr.units1) (zZ (pq 1)) zd (zr _))  (zc (zl (qr (x:="Drain") ⟨rfl,rfl,rfl⟩ hr (za (pq 0) (za zd zb)))))  zn)  (zc (zl (qr (x:="Drain") ⟨rfl,rfl,rfl⟩ hr (za (pq 0) (za (zt zJ zd (zt qq (qb (pq 1)) (pq 2))) zb)))))),?_⟩;walk_at "a";refine zN (λ _=>?_) (λ _=>?_)
 ·walk_at "a";refine iE4 a.k _ _ _ ⟨(Z7 T).mono,?_⟩;intro z dz hz hdz hne;exact ZZ hz hdz (by decide) (by decide) λ H1 s1 q1=>⟨rfl,k _ _ _ s1 (by decide) (by decide) q1⟩
 ·walk_at "a";have y0:=aJ (n / 8) (show (sp:Int)≠0 by lia);have y1:=aG (n / 8) (show (0:Int) < sp by lia);refine iE4 a.k _ _ _ (iA3 ((Z7 T).mono) (by lia) ?_);intro z dz hz hdz hne;exact ZZ hz hdz (by lia) (by lia) λ H1 s1 q1=>⟨rfl,k _ _ _ s1 (by lia) (by lia) q1⟩
def zf7 {n u:Int} (u0:1<=u) (u6:u<=6):∃ m:Int,atI [V.int 1,.int 1,.int 2,.int 2,.int 3,.int u] (n % 6)=some (.int m)/\1<=m/\m<=6:=by
 have h0:=aJ n (show (6:Int)≠0 by decide);have h1:=aG n (show (0:Int) < 6 by decide);generalize n % 6=j at h0 h1 ⊢;have:j=0\/j=1\/j=2\/j=3\/j=4\/j=5:=by lia
 rcases this with rfl|rfl|rfl|rfl|rfl|rfl
 ·exact ⟨1,rfl,by decide,by decide⟩
 ·exact ⟨1,rfl,by decide,by decide⟩
 ·exact ⟨2,rfl,by decide,by decide⟩
 ·exact ⟨2,rfl,by decide,by decide⟩
 ·exact ⟨3,rfl,by decide,by decide⟩
 ·exact ⟨u,rfl,u0,u6⟩
def zec (a:Ad):Sp:=λ vs H Q _=>∃ y c n sp:Int,vs=[.int y,.int c,.int n,.int sp]/\0<=n/\1<=sp/\sp<=4/\∀ v H' pc kd,Same H H'->1<=pc->pc<=4->1<=kd.length->kd.length<=6->xH kd->KnP a H' (New H) v ⟨.source,[],[y],pc,kd⟩->Q v H'
def XB (T:Txt K mg a):Cal P w K mg base "_law_source" 4 ["_law_out","_law_cell","_law_number","_law_span"] [] (zec a):=T.lG.cal λ F=>by
 refine F.okx zah ?_ ?_
 ·walk_at "i"
 walk_at "j";refine oE4 h λ y c n sp m7=>oA5 m7 λ m8 n0 p1 p4 k=>?_;clear m7 h;subst m8;walk_at "T";refine ⟨_,(zh (zp 4 zah.nd (zo (zL (za zd (za zd (za zd (za zd (za zd (za (zt zJ zd (zZ (qb (pq 2)))) zb))))))) (zZ (pq 2))))  (qd (zD (zm (qK hr.units1) (zZ (qb (pq 2))) zd (zr _))  (zc (JW (i:=1) zah.nd rfl (Or.inr rfl) (zZ (pq 1))))  zn)  (zh (JX (i:=5) zah.nd rfl (Or.inl rfl) (vars:=["_law_k"]) (caps:=[1,2]) (N:=["_law_k","_law_cell","_law_number"]) (ON:=["_law_out","_law_cell","_law_number","_law_span","_law_many","_law_kinds_here"]) (osc:=ze wJ) rfl rfl (by first|decide +kernel|kernel_rfl) rfl rfl (jD (za (pq 4) zb)) (λ _ _ _ _=>(qg 0 (show (["_law_k","_law_cell","_law_number"]:Aa).Nodup from by decide +kernel))) (λ _ _ _ _=>qe) (λ _ _ _ _=>(zbI (zt zJ (pq 1) (zt jM (pq 0) (zZ (qb (pq 2))))))))  (zc (zl (qr (x:="Source") ⟨rfl,rfl,rfl⟩ hr (za (pq 0) (za (zt zJ zd (zt qq (qb (pq 2)) (pq 3))) (za (pq 5) zb))))))))),?_⟩;walk_at "a";have u0:=aJ (n / 6) (show (6:Int)≠0 by decide);have u1:=aG (n / 6) (show (0:Int) < 6 by decide);refine oE1 (zf7 (n:=n) (u:=1 + n / 6 % 6) (by lia) (by lia)) λ m m7=>oA3 m7 λ em m1 m6=>?_;clear m7;refine (λ q hq=>zu (SqL.of mW) em ?_);have s1:=zf (o:=.lst [V.int 1,.int 1,.int 2,.int 2,.int 3,.int (1 + n / 6 % 6)]) hq;generalize upd H q (.lst [V.int 1,.int 1,.int 2,.int 2,.int 3,.int (1 + n / 6 % 6)])=H1 at s1 ⊢;clear em u0 u1;walk_at "a";refine cut (λ σ' H'=>∃ c:Int,σ'=[some (.int y),some (.int c),some (.int n),some (.int sp),some (.int m),none]/\H'=H1) ?_ ?_
 ·walk_at "a";walk_at "f";walk_at "a";exact zN (λ _=>⟨_,rfl⟩) (λ _=>⟨_,rfl⟩)
 rintro σ' H2 ⟨c2,rfl,rfl⟩;walk_at "e";walk_at "a";refine ⟨by lia,by lia,λ _ _ _ _ mQ hacc=>?_⟩;refine xS (n:=m.toNat) (λ i σ H'=>∃ v ks,σ=[v,some (.int c2),some (.int n)]/\Same H2 H'/\ks.length=i/\xH ks/\H' mQ=some (.lst (iv ks))) (iE2 _ ([]) (iA5 rfl (zf hacc) rfl (λ _ z=>nomatch z) mW)) ?_ ?_
 ·intro i σ H3 hi m9;refine oE2 m9 λ v ks m7=>oA5 m7 λ m8 s3 lk hkk ha=>?_;clear m7 m9;subst m8;walk_at "a";have w0:=aJ (n / 36) (show (3:Int)≠0 by decide);have w1:=aG (n / 36) (show (0:Int) < 3 by decide);refine ⟨mul_okR (by lia) (by lia),?_⟩;walk_at "a";have x0:=aJ (c2 + (0 + (i:Int)) * (n / 36 % 3)) (show (1000000000000000000000000000000:Int)≠0 by decide);have x1:=aG (c2 + (0 + (i:Int)) * (n / 36 % 3)) (show (0:Int) < 1000000000000000000000000000000 by decide);generalize (c2 + (0 + (i:Int)) * (n / 36 % 3)) % 1000000000000000000000000000000=kk at x0 x1 ⊢;refine ⟨_,iA3 ha (zk (by rw [zy];lia)) (iE2 _ (ks ++ [kk]) (iA5 rfl (λ b o hb=>by rw [mX (mY hb hacc)];exact s3 b o hb) (by simp [lk]) ?_ (by rw [mW,qI])))⟩;intro z hz;rcases aH.mp hz with hz|hz
  ·exact hkk z hz
  ·rw [ay.mp hz];exact ⟨x0,x1⟩
 intro σ H3 m9;refine oE2 m9 λ v ks m7=>oA5 m7 λ m8 s3 lk hkk ha=>?_;clear m7 m9;subst m8;walk_at "a";have y0:=aJ (n / 108) (show (sp:Int)≠0 by lia);have y1:=aG (n / 108) (show (0:Int) < sp by lia);refine iE4 a.j _ _ _ (iA3 ((Z6 T).mono) (by lia) ?_);intro z dz hz hdz hne;have s13:=s1.trans s3;refine QF hz hdz ha (by lia) (by lia) (by lia) (by lia) hkk λ H4 s4 q4=>⟨rfl,k _ _ _ _ (s13.trans s4) (by lia) (by lia) (by lia) (by lia) hkk (q4.keep λ b o hb ho=>⟨zA s13 hb,ho⟩)⟩
def zib (T:Txt K mg a) (wd:Wd):kitOne K (.ref (wo a wd)) (.ref a.j)=some (decide (wd=.source)):=by
 cases wd
 ·exact T.iD
 ·exact T.iT
 ·exact T.iE
 ·exact T.gY
 ·exact T.iU
 ·exact T.iF
def zgR (a:Ad):Sp:=λ vs H Q _=>∃ (R:Addr) (rvs:Ar) (rs:Av) (c n:Int) (p:A7),vs=[.ref R,.int c,.int n]/\H R=some (.lst rvs)/\Reps H p rvs (rs.map (wZ a))/\(∀ r∈rs,r.ok)/\rs.length<=60/\0<=n/\∀ H' kk,Same H H'->0<=kk->kk < jH->Q (.int kk) H'
def za6 (T:Txt K mg a):Cal P w K mg base "_law_kind" 1 ["_law_knots","_law_cell","_law_number"] [] (zgR a):=T.mh.cal λ F=>by
 refine F.okx zdg ?_ ?_
 ·walk_at "i"
 walk_at "j";refine oE6 h λ R rvs rs c n p m7=>oA7 m7 λ m8 hR rR ro lr n0 k=>?_;clear m7 h;subst m8;have lR:rvs.length=rs.length:=by rw [rR.len,ai]
 walk_at "T";refine ⟨_,(zg (zp 3 zdg.nd (zL (za (zbI (pq 1)) zb)))  (qd (ql qC rfl (qm (pq 0)) (qg 4 zdg.nd)  (zc (zD (jc (z9 XF jp (za (pq 4) (za wl zb))) (λ _=>rfl))  (zc (zw (qy aq cj ci vS (pq 3) (za (zj (pq 4) rfl) zb))))  zn)))  (zc (zl (zo (pq 3) (zt qq (pq 2) (z9 zX zW (za (pq 3) zb)))))))),?_⟩;walk_at "a";have x0:=aJ c (show (1000000000000000000000000000000:Int)≠0 by decide);have x1:=aG c (show (0:Int) < 1000000000000000000000000000000 by decide);intro I hI;have s1:=zf (o:=.lst [V.int (c % 1000000000000000000000000000000)]) hI;have hI1:upd H I (.lst [V.int (c % 1000000000000000000000000000000)]) I=some (.lst (iv [c % 1000000000000000000000000000000])):=mW;generalize upd H I (.lst [V.int (c % 1000000000000000000000000000000)])=H1 at s1 hI1 ⊢;generalize c % 1000000000000000000000000000000=k0 at x0 x1 hI1;refine cut (λ σ' H'=>∃ (v4:As) (ks:A8),σ'=[some (.ref R),some (.int c),some (.int n),some (.ref I),v4]/\Same H H'/\H' I=some (.lst (iv ks))/\1<=ks.length/\ks.length<=1 + 6 * rs.length/\xH ks) ?_ ?_
 ·walk_at "d";walk_at "a";refine ⟨R,rfl,.inl ⟨⟨_,SqL.of (s1 _ _ hR)⟩,?_⟩⟩;refine qM (K:=K) (a:=R) (xs:=rvs) (λ i σ H'=>∃ (v4:As) (ks:A8),σ=[some (.ref R),some (.int c),some (.int n),some (.ref I),v4]/\Same H H'/\H' I=some (.lst (iv ks))/\1<=ks.length/\ks.length<=1 + 6 * i/\xH ks) (iE2 _ ([k0]) (iA6 rfl s1 hI1 (au _) (au _) (λ z hz=>by rw [ay.mp hz];exact ⟨x0,x1⟩))) (λ i σ H' _ h=>by obtain ⟨_,_,_,s,_⟩:=h;exact SqL.of (s _ _ hR)) ?_ ?_
  ·intro i x σ H2 hi m9;refine oE2 m9 λ v4 ks m7=>oA6 m7 λ m8 s2 hI2 k1 k6 kk=>?_;clear m7 m9;subst m8;obtain ⟨d,hd,rx⟩:=rR.at hi;rw [am,ao] at hd;obtain ⟨r,hr',rfl⟩:=hd;have hil:=(aa.mp hr').1;have ok:=ro r (ah hr');refine oE6 (KnP.inv rx) λ y1 dx1 m1 m2 m3 fs1 m7=>oA9 m7 λ m8 _ _ _ _ g0 f1 f2 mR=>oA5 mR λ _ g1 g2 g3 _=>?_;clear m7 mR;subst m8;walk_at "a";refine iE2 (.ref a.j) _ (iA3 T.ki rfl (iE4 _ _ _ _ (iA4 rfl ((WT T r.wd).ty (CT T r.wd) (s2 _ _ g0)) (.inl ⟨_,rfl,zib T r.wd⟩) ?_)));walk_at "a";refine zN (λ b=>?_) (λ b=>(iE2 _ ks (iA6 rfl s2 hI2 k1 (by lia) kk)));obtain ⟨f3,h3⟩:=g3 b;have ok:r.kinds.length<=6/\xH r.kinds:=by
    unfold Row.ok at ok;rw [b] at ok;exact ⟨ok.2.2.2.2.2.1,ok.2.2.2.2.2.2⟩
   rw [b] at g0;refine ⟨.inl ⟨rfl,_,SqL.of hI2⟩,iE5 y1 a.j dx1 fs1 _ (iA6 rfl (s2 _ _ g0) T.gy T.gu f3 ?_)⟩;refine iE4 I m3 (iv ks) (iv r.kinds) (iA6 rfl rfl hI2 (s2 _ _ h3) ?_ ?_)
   ·rw [zy,zy];exact bI (zk (by lia))
   refine iE2 _ (ks ++ r.kinds) (iA6 rfl (λ b o hb=>by rw [mX (mY hb hI)];exact s2 b o hb) (by rw [mW];simp [iv]) (by simp;lia) (by simp;lia) (λ z hz=>?_));rcases aH.mp hz with hz|hz
   ·exact kk z hz
   ·exact ok.2 z hz
  ·intro σ H2 m9;refine oE2 m9 λ v4 ks m7=>oA6 m7 λ m8 s2 hI2 k1 k6 kk=>?_;clear m7 m9;subst m8;rw [lR] at k6;exact iE2 v4 ks (iA6 rfl s2 hI2 k1 k6 kk)
 intro σ' H2 m9;refine oE2 m9 λ v4 ks m7=>oA6 m7 λ m8 s2 hI2 k1 k6 kk=>?_;clear m7 m9;subst m8;walk_at "a";refine ⟨_,.inl ⟨_,SqL.of hI2,rfl⟩,?_⟩;rw [zy];refine ⟨by lia,?_⟩;have v0:=aJ n (show (ks.length:Int)≠0 by lia);have v1:=aG n (show (0:Int) < (ks.length:Int) by lia);obtain ⟨j,ej⟩:∃ j:Nat,n % (ks.length:Int)=j:=⟨(n % (ks.length:Int)).toNat,by lia⟩;rw [ej] at v1 ⊢;obtain ⟨y,hy⟩:∃ y,ks[j]?=some y:=⟨ks[j]'(by lia),ac _⟩;refine zu (SqL.of hI2) (zE (jN hy)) ?_;have:=kk y (ah hy);exact k _ y s2 this.1 this.2
def zgM (n:Int):Wd:=if n=0 then .first else if n=1 then .sieve else .parter
def Wm (y kk wt:Int) (outs:A8):Row:=⟨zgM wt,[y],outs,0,if wt=1 then [kk] else []⟩
def zau {y kk wt:Int} (h2:2<=outs.length) (h4:outs.length<=4) (h1:wt=1->outs.length=2) (k0:0<=kk) (k1:kk < jH):(Wm y kk wt outs).ok:=by
 unfold Wm zgM Row.ok;by_cases z:wt=0
 ·subst z;exact ⟨⟨_,rfl⟩,h2,h4⟩
 ·by_cases o:wt=1
  ·subst o;exact ⟨⟨_,rfl⟩,h1 rfl,kk,rfl,k0,k1⟩
  ·simp only [ap z,ap o];exact ⟨⟨_,rfl⟩,h2,h4⟩
def zeg (a:Ad):Sp:=λ vs H Q _=>∃ (y kk wt:Int) (O:Addr) (outs:A8),vs=[.int y,.ref O,.int kk,.int wt]/\H O=some (.lst (iv outs))/\2<=outs.length/\outs.length<=4/\(wt=1->outs.length=2)/\0<=kk/\kk < jH/\∀ v H',Same H H'->KnP a H' (New H) v (Wm y kk wt outs)->Q v H'
def XD (T:Txt K mg a):Cal P w K mg base "_law_parted" 4 ["_law_into","_law_outs","_law_kind_here","_law_what"] [] (zeg a):=T.lI.cal λ F=>by
 refine F.okx zai ?_ ?_
 ·walk_at "i"
 walk_at "j";refine oE5 h λ y kk wt O outs m7=>oA8 m7 λ m8 hO o2 o4 o1 k0 k1 k=>?_;clear m7 h;subst m8;walk_at "T";refine ⟨_,(zg (zD (zm (qK hr.units1) (pq 3) zd (zr _))  (zc (zl (qr (x:="FirstParter") ⟨rfl,rfl,rfl⟩ hr (za (pq 0) (za (pq 1) zb)))))  zn)  (zg (zD (zm (qK hr.units1) (pq 3) zd (zr _))  (zc (zl (qr (x:="Sieve") ⟨rfl,rfl,rfl⟩ hr (za (pq 0) (za (wg Qk (pq 1) ZU (wM zd)) (za (pq 2) zb))))))  zn)  (zc (zl (qr (x:="Parter") ⟨rfl,rfl,rfl⟩ hr (za (pq 0) (za (pq 1) zb))))))),?_⟩;walk_at "a";refine zN (λ b=>?_) (λ b=>?_)
 ·subst b;walk_at "a";refine iE4 a.m _ _ _ ⟨(Zg T).mono,?_⟩;intro z dz hz hdz hne;exact zeO hz hdz hO o2 o4 λ H1 s1 q1=>⟨rfl,k _ _ s1 q1⟩
 walk_at "a";refine zN (λ b1=>?_) (λ b1=>?_)
 ·subst b1;walk_at "a";refine iE4 a.n _ _ _ ⟨(zcw T).mono,QC (SqL.of hO) λ q hq=>?_⟩;have s1:=zf (o:=.lst (iv outs)) hq;rw [show Qa (iv outs) none (some 2)=iv outs from (Xx (iv outs) 2).trans (cP (by rw [zy];have:=o1 rfl;lia))];have hq1:upd H q (.lst (iv outs)) q=some (.lst (iv outs)):=mW;generalize upd H q (.lst (iv outs))=H1 at s1 hq1 ⊢;intro z dz hz hdz hne;exact zeN hz hdz hq1 (o1 rfl) k0 k1 λ H2 s2 q2=>⟨rfl,k _ _ (s1.trans s2) (q2.keep λ b o hb ho=>⟨zA s1 hb,ho⟩)⟩
 walk_at "a";refine iE4 a.l _ _ _ ⟨(Xm T).mono,?_⟩;intro z dz hz hdz hne;refine Wq hz hdz hO o2 o4 λ H1 s1 q1=>⟨rfl,k _ _ s1 ?_⟩;unfold Wm zgM;rw [ap b,ap b1,ap b1];exact q1
def zhh {p q:Addr} {xs:A8} (h1:H p=some (.lst (iv xs))) (h2:H q=some (.lst [])) (k:Q (.bl (!decide (xs=[]))) H):X0 K (.ref p) (.ref q) H Q:=by
 refine .inr (.inl ⟨p,q,iv xs,[],rfl,rfl,.inl ⟨SqL.of h1,SqL.of h2⟩,by simp [iv,xF],rfl,?_⟩);cases xs with
 | nil=>exact k
 | cons x xs=>exact k
def zfd {p q:Addr} {xs:A8} (h1:H p=some (.lst (iv xs))) (h2:H q=some (.lst [])) (k:Q (.bl (decide (xs=[]))) H):Vo K (.ref p) (.ref q) H Q:=by
 refine .inr (.inl ⟨p,q,iv xs,[],rfl,rfl,.inl ⟨SqL.of h1,SqL.of h2⟩,by simp [iv,xF],rfl,?_⟩);cases xs with
 | nil=>exact k
 | cons x xs=>exact k
def Qg {xs:A8} {y:Int}:atI (iv (xs ++ [y])) (-1)=some (.int y):=by
 rw [show iv (xs ++ [y])=iv xs ++ [V.int y] by simp [iv]];unfold atI ixN;rw [ap (by decide),aQ,cm,ar (by lia),show (-1 + (((iv xs).length + 1:Nat):Int)).toNat=(iv xs).length by lia];simp
def zek (a:Ad):Sp:=λ vs H Q _=>∃ (ms:Ae) (L R En B:Addr) (bs:A3) (rs:Av) (es ks:A8) (y c sp:Int),vs=[.ref L,.ref En,.ref B,.int y,.int c,.int sp]/\GS a ms H H L R En B bs rs es ks/\WInv bs rs (y :: es) ks/\1<=sp/\sp<=4/\bs.length<=60/\es.length<=60/\ks.length<=60 /\
 ∀ v H' bs' es' ks' r,GS a ms H H' L R En B bs' rs es' ks'->KnP a H' (Off ms) v r->WInv bs' (rs ++ [r]) es' ks'->bs'.length + ks'.length<=bs.length + ks.length + 3->es'.length + ks'.length<=es.length + ks.length + 2->Q v H'
def zcf (T:Txt K mg a):Cal P w K mg base "_law_joined" 4 ["_law_belts","_law_ends","_law_loops","_law_into","_law_cell","_law_span"] [] (zek a):=T.lH.cal λ F=>by
 refine F.okx zaj ?_ ?_
 ·walk_at "i"
 walk_at "j";refine oE8 h λ ms L R E B bs rs es m7=>oE4 m7 λ ks y c sp m8=>oA9 m8 λ mR W I0 p1 p4 lb le lk k=>?_;clear m7 m8 h;subst mR;walk_at "T";refine ⟨_,(zh (zp 6 zaj.nd (zx ⟨rfl,rfl,rfl⟩ hr (za (pq 4) (za zd zb))))  (zh (zp 7 zaj.nd (zL (za (pq 3) zb)))  (qd (ql qC rfl (jD (za (zZ (pq 6)) zb)) (qg 8 zaj.nd)  (zc (zD (zm (Zd hr.units1) (pq 1) (zL zb) (zr _))  (zc (zw (qy aq ax aw zK (pq 7) (za (qy aq dI dH Xd (pq 1) (za (zt qq (qb (pq 6)) (z9 zX zW (za (pq 1) zb))) zb)) zb))))  zn)))  (qd (zD (zm (qK hr.units1) (z9 zX zW (za (pq 7) zb)) zd (zr _))  (zh (zw (qy aq ax aw zK (pq 2) (za (zx ⟨rfl,rfl,rfl⟩ hr (za (pq 0) (za (zx ⟨rfl,rfl,rfl⟩ hr (za (pq 4) (za zd zb))) (za (pq 5) zb)))) zb)))  (zc (zw (qy aq ax aw zK (pq 7) (za (zo (pq 2) (Zc xY zd)) zb)))))  zn)  (qd (zD (zm (qK hr.units1) (zZ (qb (pq 6))) zd (zr _))  (zc (zp 7 zaj.nd (zt zJ (wg Qk (pq 7) (wM zd) ZU) (wg Qk (pq 7) ZU (wM zd)))))  zn)  (zh (zw (qy aq ax aw zK (pq 1) (za (zx ⟨rfl,rfl,rfl⟩ hr (za (pq 0) (za (qb (pq 6)) (za (pq 5) zb)))) zb)))  (zc (zl (qr (x:="Joiner") ⟨rfl,rfl,rfl⟩ hr (za (pq 7) (za (zo (pq 1) (Zc xY zd)) zb))))))))))),?_⟩;walk_at "a";refine uc (jh T).mono (iE2 c _ (iA4 rfl (by decide) (by decide) ?_));have n0:=ju c 1618033989;generalize wu c 1618033989=nu at n0 ⊢;walk_at "a";intro I hI;obtain ⟨W1,nI⟩:=W.ext (xs:=[V.int y]) hI;have hI1:upd H I (.lst [V.int y]) I=some (.lst (iv [y])):=mW;generalize upd H I (.lst [V.int y])=H1 at W1 hI1 ⊢;have mI:I∈I :: ms:=by simp
 have nu0:=aJ nu (show (4:Int)≠0 by decide);have nu1:=aG nu (show (0:Int) < 4 by decide);walk_at "a";refine cut (λ σ' H'=>∃ (v8:As) (ins es2:A8),σ'=[some (.ref L),some (.ref E),some (.ref B),some (.int y),some (.int c),some (.int sp),some (.int nu),some (.ref I),v8]/\GS a (I :: ms) H H' L R E B bs rs es2 ks/\H' I=some (.lst (iv ins))/\(ins ++ es2).Perm (y :: es)/\1<=ins.length/\ins.length<=4) ?_ ?_
 ·walk_at "d";walk_at "a";refine ⟨by lia,by lia,?_⟩;refine xS (n:=(nu % 4).toNat) (λ i σ' H'=>∃ (v8:As) (ins es2:A8),σ'=[some (.ref L),some (.ref E),some (.ref B),some (.int y),some (.int c),some (.int sp),some (.int nu),some (.ref I),v8]/\GS a (I :: ms) H H' L R E B bs rs es2 ks/\H' I=some (.lst (iv ins))/\(ins ++ es2).Perm (y :: es)/\1<=ins.length/\ins.length<=1 + i) (iE3 _ ([y]) es (iA6 rfl W1 hI1 (aU _) (au _) (au _))) ?_ ?_
  ·clear W1 hI1;intro i σ' H3 hi m9;refine oE3 m9 λ v8 ins es2 m7=>oA6 m7 λ m8 W3 hI3 p3 i1 ii=>?_;clear m7 m9;subst m8;have pl:=p3.length_eq;rw [aQ,bB] at pl;walk_at "a";intro q hq;have sq:=zf (o:=.lst []) hq;have W4:=W3.same sq;have hI4:=sq _ _ hI3;refine zhh W4.hE (mW) ?_;generalize upd H3 q (.lst [])=H4 at W4 hI4 ⊢;clear W3 hI3 hq sq;walk_at "a";refine zN (λ b=>?_) (λ b=>(iE3 _ ins es2 (iA6 rfl W4 hI4 p3 i1 (by lia))));have el:(0:Int) < es2.length:=by
    rcases dY es2.length with z|z
    ·exact absurd (bz.mp z) (by simpa using b)
    ·lia
   refine iA4 (.inl ⟨rfl,_,SqL.of hI4⟩) (.inl ⟨rfl,_,SqL.of W4.hE⟩) gA ⟨_,⟨.inl ⟨_,SqL.of W4.hE,rfl⟩,?_⟩⟩;rw [zy];refine ⟨el,?_⟩;have v0:=aJ (nu / 4) (show (es2.length:Int)≠0 by lia);have v1:=aG (nu / 4) el;generalize nu / 4 % (es2.length:Int)=jj at v0 v1 ⊢;obtain ⟨y2,hy⟩:∃ y,es2[jj.toNat]?=some y:=⟨es2[jj.toNat]'(by lia),ac _⟩;refine iE5 E (iv es2) jj jj.toNat (.int y2) (iA8 rfl rfl W4.hE (by lia) (by lia) (JZ v0 (by rw [zy];exact v1)) (jN hy) ?_);rw [Xp];have W5:=W4.setE (es2.eraseIdx jj.toNat);have p5:=ZT hy;have nIE:I≠E:=λ z=>nI (by rw [z];simp);have hI5:upd H4 E (.lst (iv (es2.eraseIdx jj.toNat))) I=some (.lst (iv ins)):=by rw [mX nIE];exact hI4
   generalize upd H4 E (.lst (iv (es2.eraseIdx jj.toNat)))=H5 at W5 hI5 ⊢;generalize es2.eraseIdx jj.toNat=es3 at p5 W5 ⊢;refine iE3 I _ _ (iA5 rfl rfl hI5 (zk (by rw [zy];lia)) ?_);rw [qI];refine iE3 _ (ins ++ [y2]) es3 (iA6 rfl (W5.setX mI nI hI) mW ?_ (by simp) (by simp;lia));rw [bP];exact (bQ _ p5).trans p3
  ·intro σ' H3 m9;refine oE3 m9 λ v8 ins es2 m7=>oA6 m7 λ m8 W3 hI3 p3 i1 ii=>?_;clear m7 m9;subst m8;exact iE3 v8 ins es2 (iA6 rfl W3 hI3 p3 i1 (by lia))
 clear W1 hI1;intro σ' H2 m9;refine oE3 m9 λ v8 ins es2 m7=>oA6 m7 λ m8 W2 hI2 p2 i1 i4=>?_;clear m7 m9;subst m8;have I2:WInv bs rs (ins ++ es2) ks:=I0.perm p2 (aU _);have pl:=p2.length_eq;rw [aQ,bB] at pl;clear I0 p2;walk_at "a";refine cut (λ σ' H'=>∃ (bs1:A3) (ins ks1:A8),σ'=[some (.ref L),some (.ref E),some (.ref B),some (.int y),some (.int c),some (.int sp),some (.int nu),some (.ref I),v8]/\GS a (I :: ms) H H' L R E B bs1 rs es2 ks1/\H' I=some (.lst (iv ins))/\WInv bs1 rs (ins ++ es2) ks1/\2<=ins.length/\ins.length<=4/\bs1.length + ks1.length<=bs.length + ks.length + 2/\ks1.length<=ks.length + 1/\bs1.length<=bs.length + 1) ?_ ?_
 ·walk_at "a";refine ⟨_,.inl ⟨_,SqL.of hI2,rfl⟩,?_⟩;rw [zy];walk_at "a";refine zN (λ b=>?_) (λ b=>(iE3 bs ins ks (iA8 W2 hI2 I2 (by lia) i4 (by lia) (by lia) (by lia))));obtain ⟨bv,hL,rL⟩:=W2.hL;have lL:bv.length=bs.length:=by rw [rL.len,ai]
  walk_at "a";refine ⟨.inl ⟨rfl,_,SqL.of W2.hB⟩,iE3 _ _ _ ⟨(vI T).mono,iE3 _ _ _ ⟨(jh T).mono,⟨c,_,rfl,by decide,by decide,?_⟩⟩⟩⟩;refine iE4 L bv _ sp (iA7 rfl (ju _ _) p1 p4 hL (by lia) (λ rm pc z H3 bk s3 q3=>?_));obtain ⟨W3,_⟩:=W2.addL hL s3 q3;rw [lL];have nIL:I≠L:=λ z=>nI (by rw [z];simp);have hI3:upd H3 L (.lst (bv ++ [.ref z])) I=some (.lst (iv ins)):=by rw [mX nIL];exact s3 _ _ hI2
  generalize upd H3 L (.lst (bv ++ [.ref z]))=H4 at W3 hI3 ⊢;have I3:=I2.belt (b:=(rm,pc)) bk;refine iE3 B _ _ (iA5 rfl rfl W3.hB (zk (by rw [zy];lia)) ?_);rw [qI];have W4:=W3.setB (ks ++ [(bs.length:Int)]);have nIB:I≠B:=λ z=>nI (by rw [z];simp);have hI4:upd H4 B (.lst (iv (ks ++ [(bs.length:Int)]))) I=some (.lst (iv ins)):=by rw [mX nIB];exact hI3
  generalize upd H4 B (.lst (iv (ks ++ [(bs.length:Int)])))=H5 at W4 hI4 ⊢;walk_at "a";refine ⟨.inl ⟨rfl,_,SqL.of hI4⟩,zu (SqL.of W4.hB) Qg ?_⟩;refine iE3 I _ _ (iA5 rfl rfl hI4 (zk (by rw [zy];lia)) ?_);rw [qI];refine iE3 (bs ++ [(rm,pc)]) (ins ++ [(bs.length:Int)]) (ks ++ [(bs.length:Int)]) (iA8 (W4.setX mI nI hI) mW (I3.perm ?_ (aU _)) (by simp;lia) (by simp;lia) (by simp;lia) (by simp) (by simp));rw [bP,bP];exact bQ _ cV
 have e2l:es2.length<=es.length:=by lia
 clear W2 hI2 I2 i1 i4;intro σ' H3 m9;refine oE3 m9 λ bs1 ins ks1 m7=>oA9 m7 λ m8 W3 hI3 I3 i2 i4 q1 q2 q3=>?_;clear m7 m9;subst m8;walk_at "a";refine cut (λ σ' H'=>∃ (J:Addr) (ins:A8),σ'=[some (.ref L),some (.ref E),some (.ref B),some (.int y),some (.int c),some (.int sp),some (.int nu),some (.ref J),v8]/\GS a ms H H' L R E B bs1 rs es2 ks1/\H' J=some (.lst (iv ins))/\J ∉ ms4 L R E B/\WInv bs1 rs (ins ++ es2) ks1/\2<=ins.length/\ins.length<=4) ?_ ?_
 ·walk_at "a";walk_at "f";walk_at "a";refine zN (λ b=>?_) (λ b=>(iE2 I ins (iA7 rfl (W3.less nI) hI3 nI I3 i2 i4)));walk_at "a";refine QC (SqL.of hI3) λ j1 hj1=>?_;rw [show Qa (iv ins) (some 1) none=iv (ins.drop 1) from (zaV (iv ins) 1 (by rw [zy];lia)).trans (by simp [iv])];have a1:=zf (o:=.lst (iv (ins.drop 1))) hj1;refine QC (SqL.of (a1 _ _ hI3)) λ j2 hj2=>?_;rw [show Qa (iv ins) none (some 1)=iv (ins.take 1) from (Xx (iv ins) 1).trans (by simp [iv])];have a2:=zf (o:=.lst (iv (ins.take 1))) hj2;refine Vn (SqL.of (a2 _ _ mW)) (SqL.of mW) (vM (by rw [zy,zy,dA,aS];lia)) λ j3 hj3=>?_;have a3:=zf (o:=.lst (iv (ins.drop 1) ++ iv (ins.take 1))) hj3;have sA:=(a1.trans a2).trans a3;have W4:=W3.same sA;have n3:=(W3.same (a1.trans a2)).off hj3;refine iE2 j3 (ins.drop 1 ++ ins.take 1) (iA7 rfl (W4.less nI) (by rw [mW];simp [iv]) (λ z=>n3 (aF _ ?_)) (I3.perm (cF _ (ZR ins 1)) (aU _)) (by rw [(ZR ins 1).length_eq];exact i2) (by rw [(ZR ins 1).length_eq];exact i4));exact W.m _ z
 clear W3 hI3 I3 i2 i4;intro σ' H4 m9;refine oE2 m9 λ J ins m7=>oA7 m7 λ m8 W4 hJ4 nJ I4 i2 i4=>?_;clear m7 m9;subst m8;obtain ⟨bv,hL,rL⟩:=W4.hL;have lL:bv.length=bs1.length:=by rw [rL.len,ai]
 walk_at "a";refine ⟨.inl ⟨rfl,_,SqL.of W4.hE⟩,iE3 _ _ _ ⟨(vI T).mono,?_⟩⟩;refine iE4 L bv _ sp (iA7 rfl (b7 n0 (by decide)) p1 p4 hL (by lia) (λ rm pc z H5 bk s5 q5=>?_));obtain ⟨W5,_⟩:=W4.addL hL s5 q5;rw [lL];have nJL:J≠L:=λ z=>nJ (by rw [z];simp);have hJ5:upd H5 L (.lst (bv ++ [.ref z])) J=some (.lst (iv ins)):=by rw [mX nJL];exact s5 _ _ hJ4
 generalize upd H5 L (.lst (bv ++ [.ref z]))=H6 at W5 hJ5 ⊢;have I5:=I4.belt (b:=(rm,pc)) bk;refine iE3 E _ _ (iA5 rfl rfl W5.hE (zk (by rw [zy];lia)) ?_);rw [qI];have W6:=W5.setE (es2 ++ [(bs1.length:Int)]);have nJE:J≠E:=λ z=>nJ (by rw [z];simp);have hJ6:upd H6 E (.lst (iv (es2 ++ [(bs1.length:Int)]))) J=some (.lst (iv ins)):=by rw [mX nJE];exact hJ5
 generalize upd H6 E (.lst (iv (es2 ++ [(bs1.length:Int)])))=H7 at W6 hJ6 ⊢;walk_at "a";refine iE4 a.o _ _ _ ⟨(Xn T).mono,zu (SqL.of W6.hE) Qg ?_⟩;intro z dz hz hdz hne;refine Wr hz hdz hJ6 i2 i4 λ H8 s8 q8=>⟨rfl,?_⟩;refine k _ H8 (bs1 ++ [(rm,pc)]) (es2 ++ [(bs1.length:Int)]) ks1 ⟨.joiner,ins,[(bs1.length:Int)],0,[]⟩ (W6.same s8) (W6.newK q8) (I5.knot ?_ cV ⟨⟨_,rfl⟩,i2,i4⟩) (by simp;lia) (by simp;lia);rw [bP]
noncomputable abbrev stG (L R E B:Addr) (c sp nu:Int) (v8 v9 v10 v11 v12:As):St:=[some (.ref L),some (.ref R),some (.ref E),some (.ref B),some (.int c),some (.int sp),some (.int nu),some (.int (nu % 9)),v8,v9,v10,v11,v12]
def zhz (h:k < 4):∃ m:Int,atI [V.int 941083987,.int 1726512289,.int 1999483721,.int 1103527591] (0 + (k:Int))=some (.int m)/\0<=m/\m < 2147483647:=by
 match k,h with
 | 0,_=>exact ⟨_,rfl,by decide,by decide⟩
 | 1,_=>exact ⟨_,rfl,by decide,by decide⟩
 | 2,_=>exact ⟨_,rfl,by decide,by decide⟩
 | 3,_=>exact ⟨_,rfl,by decide,by decide⟩
def zf5:∃ m:Int,atI [V.int 0,.int 0,.int 1,.int 2] (n % 4)=some (.int m)/\0<=m/\m<=2:=by
 have h0:=aJ n (show (4:Int)≠0 by decide);have h1:=aG n (show (0:Int) < 4 by decide);generalize n % 4=j at h0 h1 ⊢;have:j=0\/j=1\/j=2\/j=3:=by lia
 rcases this with rfl|rfl|rfl|rfl <;> exact ⟨_,rfl,by decide,by decide⟩
def zgS (a:Ad):Sp:=λ vs H Q _=>∃ (ms:Ae) (L R En B:Addr) (bs:A3) (rs:Av) (es ks:A8) (c sp:Int),vs=[.ref L,.ref R,.ref En,.ref B,.int c,.int sp]/\GS a ms H H L R En B bs rs es ks/\WInv bs rs es ks/\1<=sp/\sp<=4/\bs.length<=50/\rs.length<=50/\es.length<=50/\ks.length<=50 /\
 ∀ H' bs' rs' es' ks',GS a ms H H' L R En B bs' rs' es' ks'->WInv bs' rs' es' ks'->bs'.length + ks'.length<=bs.length + ks.length + 4->rs'.length + es'.length + ks'.length<=rs.length + es.length + ks.length + 4->(es=[]->bs'.length + ks'.length<=bs.length + ks.length + 1/\rs'.length + es'.length + ks'.length<=rs.length + es.length + ks.length + 2)->1<=rs'.length->Q .non H'
theorem za7 (T:Txt K mg a):Cal P w K mg base "_law_grow" 5 ["_law_belts","_law_knots","_law_ends","_law_loops","_law_cell","_law_span"] [] (zgS a):=T.mi.cal λ F=>by
 refine F.okx zdh ?_ ?_
 ·walk_at "i"
 walk_at "j";refine oE8 h λ ms L R E B bs rs es m7=>oE3 m7 λ ks c sp m8=>oA6 m8 λ mR W I0 p1 p4 mU=>oA5 mU λ lb lr le lk k=>?_;clear m7 m8 mU h;subst mR;walk_at "T";refine ⟨_,(zh (zp 6 zdh.nd (zx ⟨rfl,rfl,rfl⟩ hr (za (pq 4) (za zd zb))))  (zh (zp 7 zdh.nd (zZ (pq 6)))  (zh (zD (PW.pt (pw_or (zm (qK hr.units1) (pq 2) (zL zb) (zr _)) (pw_or1 (zm (qK hr.units1) (pq 7) zd (zr _)))))  (zh (zw (qy aq ax aw zK (pq 2) (za (zx ⟨rfl,rfl,rfl⟩ hr (za (pq 0) (za (qb (pq 6)) (za (pq 5) zb)))) zb)))  (zh (zw (qy aq ax aw zK (pq 1) (za (zx ⟨rfl,rfl,rfl⟩ hr (za (zo (pq 2) (Zc xY zd)) (za (pq 4) (za (qb (pq 6)) (za (pq 5) zb))))) zb)))  (zc (zl zG))))  zn)  (zh (zp 8 zdh.nd (qy aq dI dH Xd (pq 2) (za (zt qq (qb (pq 6)) (z9 zX zW (za (pq 2) zb))) zb)))  (qd (zD (zm (qK hr.units1) (pq 7) zd (zr _))  (zc (zw (qy aq ax aw zK (pq 1) (za (zx ⟨rfl,rfl,rfl⟩ hr (za (pq 8) (za (qb (pq 6)) (za (pq 5) zb)))) zb))))  (zc (zD (zm zav (pq 7) zd (zr _))  (zc (zw (qy aq ax aw zK (pq 1) (za (zx ⟨rfl,rfl,rfl⟩ hr (za (pq 0) (za (pq 2) (za (pq 3) (za (pq 8) (za (pq 4) (za (pq 5) zb))))))) zb))))  (zh (zp 9 zdh.nd (zL zb))  (zh (zp 10 zdh.nd zd)  (qd (zD (zm (Zd hr.units1) (pq 7) zd (zr _))  (zc (zp 10 zdh.nd (zt zJ zd (zo (zL (za zd (za zd (za zd (za zd zb))))) (zZ (qb (pq 6)))))))  zn)  (qd (ql qC rfl (jD (za (pq 10) zb)) (qg 11 zdh.nd)  (zh (zp 12 zdh.nd (zo (zL (za zd (za zd (za zd (za zd zb))))) (pq 11)))  (zc (zw (qy aq ax aw zK (pq 9) (za (zx ⟨rfl,rfl,rfl⟩ hr (za (pq 0) (za (zx ⟨rfl,rfl,rfl⟩ hr (za (pq 4) (za (pq 12) zb))) (za (pq 5) zb)))) zb))))))  (zh (zw (qy aq cj ci vS (pq 2) (za (pq 9) zb)))  (zc (zw (qy aq ax aw zK (pq 1) (za (zx ⟨rfl,rfl,rfl⟩ hr (za (pq 8) (za (pq 9) (za (zx ⟨rfl,rfl,rfl⟩ hr (za (pq 1) (za (pq 4) (za (qb (pq 6)) zb)))) (za (pq 7) zb))))) zb))))))))))))  (zc (zl zG))))))),?_⟩;walk_at "a";refine uc (jh T).mono (iE2 c _ (iA4 rfl (by decide) (by decide) ?_));have n0:=ju c 1530421987;generalize wu c 1530421987=nu at n0 ⊢;walk_at "a";intro q hq;have sq:=zf (o:=.lst []) hq;have W1:=W.same sq;refine zfd W1.hE mW ?_;generalize upd H q (.lst [])=H1 at W1 ⊢;clear sq hq;walk_at "a";refine zgd (C:=nu % 9=8) (λ z=>?_) (λ a0 hp=>?_)
 ·obtain ⟨bv,hL,rL⟩:=W1.hL;have lL:bv.length=bs.length:=by rw [rL.len,ai]
  walk_at "a";refine ⟨.inl ⟨rfl,_,SqL.of W1.hE⟩,iE3 _ _ _ ⟨(vI T).mono,?_⟩⟩;refine iE4 L bv _ sp (iA7 rfl (b7 n0 (by decide)) p1 p4 hL (by lia) (λ rm pc z H3 bk s3 q3=>?_));obtain ⟨W3,_⟩:=W1.addL hL s3 q3;rw [lL];generalize upd H3 L (.lst (bv ++ [.ref z]))=H4 at W3 ⊢;have I3:=I0.belt (b:=(rm,pc)) bk;refine iE3 E _ _ (iA5 rfl rfl W3.hE (zk (by rw [zy];lia)) ?_);rw [qI];have W4:=W3.setE (es ++ [(bs.length:Int)]);generalize upd H4 E (.lst (iv (es ++ [(bs.length:Int)])))=H5 at W4 ⊢;obtain ⟨rv,hR,rR⟩:=W4.hR;have lR:rv.length=rs.length:=by rw [rR.len,ai]
  walk_at "a";refine ⟨.inl ⟨rfl,_,SqL.of hR⟩,iE3 _ _ _ ⟨(XB T).mono,zu (SqL.of W4.hE) Qg ?_⟩⟩;refine iE4 _ c _ sp (iA5 rfl (b7 n0 (by decide)) p1 p4 (λ v H6 pc' kd s6 c1 c4 d1 d6 dk q6=>?_));obtain ⟨W6,_⟩:=W4.addR hR s6 (W4.newK q6);refine iE3 R _ _ (iA5 rfl rfl (s6 _ _ hR) (zk (by lia)) ?_);walk_at "a";exact k _ _ _ _ _ W6 (I3.knot (r:=⟨.source,[],[(bs.length:Int)],pc',kd⟩) (aU _) cV (iA7 rfl ⟨_,rfl⟩ c1 c4 d1 d6 dk)) (by simp;lia) (by simp;lia) (λ _=>⟨by simp;lia,by simp;lia⟩) (by simp)
 refine zN (λ z=>hp z) (λ n8=>?_);clear hp;have el:(0:Int) < es.length:=by
  rcases dY es.length with z|z
  ·exact absurd (bz.mp z) a0
  ·lia
 have k:=λ H' bs' rs' es' ks' a b c d=>k H' bs' rs' es' ks' a b c d (λ z=>absurd z a0);walk_at "a";refine iA3 (.inl ⟨rfl,_,SqL.of W1.hE⟩) gA ⟨_,⟨.inl ⟨_,SqL.of W1.hE,rfl⟩,?_⟩⟩;rw [zy];refine ⟨el,?_⟩;have v0:=aJ (nu / 9) (show (es.length:Int)≠0 by lia);have v1:=aG (nu / 9) el;generalize nu / 9 % (es.length:Int)=jj at v0 v1 ⊢;obtain ⟨y,hy⟩:∃ y,es[jj.toNat]?=some y:=⟨es[jj.toNat]'(by lia),ac _⟩;refine iE5 E (iv es) jj jj.toNat (.int y) (iA8 rfl rfl W1.hE (by lia) (by lia) (JZ v0 (by rw [zy];exact v1)) (jN hy) ?_);rw [Xp];have W2:=W1.setE (es.eraseIdx jj.toNat);have pp:=ZT hy;have pl:=pp.length_eq;rw [bB] at pl;have I2:=I0.perm pp (aU _);generalize upd H1 E (.lst (iv (es.eraseIdx jj.toNat)))=H2 at W2 ⊢;generalize es.eraseIdx jj.toNat=es1 at pp pl W2 I2 ⊢;clear W W1 I0 pp;obtain ⟨rv,hR,rR⟩:=W2.hR;have lR:rv.length=rs.length:=by rw [rR.len,ai]
 walk_at "a";let mS:St->Hp->Prop:=λ σ' H'=>∃ (v9 v10 v11 v12:As) (bs':A3) (rs':Av) (es' ks':A8),σ'=stG L R E B c sp nu (some (.int y)) v9 v10 v11 v12/\GS a ms H H' L R E B bs' rs' es' ks'/\WInv bs' rs' es' ks'/\bs'.length + ks'.length<=bs.length + ks.length + 4/\rs'.length + es'.length + ks'.length<=rs.length + es.length + ks.length + 4/\1<=rs'.length;refine cut mS ?_ ?_
 ·walk_at "a";refine zN (λ w7=>?_) (λ w7=>?_)
  ·walk_at "a";refine ⟨.inl ⟨rfl,_,SqL.of hR⟩,iE3 _ _ _ ⟨(WM T).mono,?_⟩⟩;refine iE3 y _ sp (iA5 rfl (b7 n0 (by decide)) p1 p4 (λ v H3 pc s3 c0 c4 q3=>?_));obtain ⟨W3,_⟩:=W2.addR hR s3 (W2.newK q3);refine iE3 R _ _ (iA5 rfl rfl (s3 _ _ hR) (zk (by lia)) (iE8 _ _ _ _ bs _ es1 ks (iA6 rfl W3 (I2.knot (r:=⟨.drain,[y],[],pc,[]⟩) (aU _) (aU _) (iA4 ⟨_,rfl⟩ rfl c0 c4)) (by lia) (by simp;lia) (by simp))))
  walk_at "a";refine zN (λ w3=>?_) (λ w3=>?_)
  ·walk_at "a";refine ⟨.inl ⟨rfl,_,SqL.of hR⟩,iE3 _ _ _ ⟨(zcf T).mono,⟨ms,L,R,E,B,bs,rs,es1,ks,y,c,sp,rfl,W2.here,I2,p1,p4,by lia,by lia,by lia,λ v H3 bs' es' ks' r W3 q3 I3 l1 l2=>?_⟩⟩⟩;have W3:=W2.trans W3;obtain ⟨rv3,hR3,rR3⟩:=W3.hR;obtain ⟨W4,_⟩:=W3.addR hR3 (Same.refl _) q3;have lR3:rv3.length=rs.length:=by rw [rR3.len,ai]
   refine iE3 R _ _ (iA5 rfl rfl hR3 (zk (by lia)) (iE8 _ _ _ _ bs' _ es' ks' (iA6 rfl W4 I3 (by lia) (by simp;lia) (by simp))))
  walk_at "a";intro O hO;obtain ⟨W3,nO⟩:=W2.ext (xs:=[]) hO;have hO3:upd H2 O (.lst []) O=some (.lst (iv [])):=mW;have hO0:H O=none:=by
   cases e:H O with
   | none=>rfl
   | some u=>rw [W2.f O u nO e] at hO;cases hO
  generalize upd H2 O (.lst [])=H3 at W3 hO3 ⊢;have mO:O∈O :: ms:=by simp
  walk_at "a";let mT:St->Hp->Prop:=λ σ' H'=>∃ (v10:Nat),σ'=stG L R E B c sp nu (some (.int y)) (some (.ref O)) (some (.int v10)) none none/\GS a (O :: ms) H H' L R E B bs rs es1 ks/\H' O=some (.lst (iv []))/\2<=v10/\v10<=4/\(nu % 9=1->v10=2);refine cut mT ?_ ?_
  ·walk_at "a";refine zN (λ w1=>?_) (λ w1=>⟨2,iA6 rfl W3 hO3 (by decide) (by decide) (λ _=>rfl)⟩);refine oE1 (zf5 (n:=nu / 216)) λ m m7=>oA3 m7 λ em m0 m2=>?_;clear m7;walk_at "a";intro q hq;refine (zu (SqL.of mW) em ?_);have sq:=zf (o:=.lst [V.int 0,.int 0,.int 1,.int 2]) hq;walk_at "a";refine ⟨(2 + m).toNat,iA6 ?_ (W3.same sq) (sq _ _ hO3) (by lia) (by lia) (λ z=>absurd z w1)⟩;rw [show (((2 + m).toNat:Nat):Int)=2 + m by lia]
  clear W3 hO3;intro σ' H4 m9;refine oE1 m9 λ mn m7=>oA6 m7 λ m8 W4 hO4 m2 m4 m1=>?_;clear m7 m9;subst m8;walk_at "a";let mV:St->Hp->Prop:=λ σ' H'=>∃ (v11 v12:As) (bs':A3) (outs:A8),σ'=stG L R E B c sp nu (some (.int y)) (some (.ref O)) (some (.int mn)) v11 v12/\GS a (O :: ms) H H' L R E B bs' rs es1 ks/\H' O=some (.lst (iv outs))/\WInv bs' rs (y :: (es1 ++ outs)) (ks ++ outs)/\outs.length=mn/\bs'.length=bs.length + mn;refine cut mV ?_ ?_
  ·walk_at "d";walk_at "a";refine ⟨by lia,by lia,?_⟩;let M4_:Nat->St->Hp->Prop:=λ i σ' H'=>∃ (v11 v12:As) (bs':A3) (outs:A8),σ'=stG L R E B c sp nu (some (.int y)) (some (.ref O)) (some (.int mn)) v11 v12/\GS a (O :: ms) H H' L R E B bs' rs es1 ks/\H' O=some (.lst (iv outs))/\WInv bs' rs (y :: (es1 ++ outs)) (ks ++ outs)/\outs.length=i/\bs'.length=bs.length + i;refine xS (n:=(mn:Int).toNat) M4_ (iE4 _ _ bs ([]) (iA6 rfl W4 hO4 (by rw [bY,bY];exact I2) rfl rfl)) ?_ ?_
   ·clear W4 hO4;intro i σ' H5 hi m9;refine oE4 m9 λ v11 v12 bs' outs m7=>oA6 m7 λ m8 W5 hO5 I5 lo lb'=>?_;clear m7 m9;subst m8;have hi4:i < 4:=by lia
    refine oE1 (zhz hi4) λ fa m7=>oA3 m7 λ efa f0 f1=>?_;clear m7;walk_at "a";intro q hq;refine zu (SqL.of mW) efa ?_;have sq:=zf (o:=.lst [V.int 941083987,.int 1726512289,.int 1999483721,.int 1103527591]) hq;have W6:=W5.same sq;have hO6:=sq _ _ hO5;generalize upd H5 q (.lst [V.int 941083987,.int 1726512289,.int 1999483721,.int 1103527591])=H6 at W6 hO6 ⊢;clear W5 hO5 sq hq efa;obtain ⟨bv,hL,rL⟩:=W6.hL;have lL:bv.length=bs'.length:=by rw [rL.len,ai]
    walk_at "a";refine ⟨.inl ⟨rfl,_,SqL.of hO6⟩,iE3 _ _ _ ⟨(vI T).mono,iE3 _ _ _ ⟨(jh T).mono,⟨c,fa,rfl,f0,f1,?_⟩⟩⟩⟩;refine iE4 L bv _ sp (iA7 rfl (ju _ _) p1 p4 hL (by lia) (λ rm pc z H7 bk s7 q7=>?_));obtain ⟨W7,_⟩:=W6.addL hL s7 q7;rw [lL];have nOL:O≠L:=λ z=>nO (by rw [z];simp);have hO7:upd H7 L (.lst (bv ++ [.ref z])) O=some (.lst (iv outs)):=by rw [mX nOL];exact s7 _ _ hO6
    generalize upd H7 L (.lst (bv ++ [.ref z]))=H8 at W7 hO7 ⊢;have I7:=I5.belt (b:=(rm,pc)) bk;refine iE3 O _ _ (iA5 rfl rfl hO7 (zk (by rw [zy];lia)) ?_);rw [qI];refine iE4 _ _ (bs' ++ [(rm,pc)]) (outs ++ [(bs'.length:Int)]) (iA6 rfl (W7.setX mO nO hO0) mW ?_ (by simp [lo]) (by simp [lb'];lia));rw [<- bP,<- bP];exact I7
   ·intro σ' H5 m9;refine oE4 m9 λ v11 v12 bs' outs m7=>oA6 m7 λ m8 W5 hO5 I5 lo lb'=>?_;clear m7 m9;subst m8;exact iE4 v11 v12 bs' outs (iA6 rfl W5 hO5 I5 (by lia) (by lia))
  clear W4 hO4;intro σ' H5 m9;refine oE4 m9 λ v11 v12 bs' outs m7=>oA6 m7 λ m8 W5 hO5 I5 lo lb'=>?_;clear m7 m9;subst m8;walk_at "a";refine ⟨.inl ⟨rfl,_,SqL.of W5.hE⟩,iE4 E O (iv es1) (iv outs) (iA6 rfl rfl W5.hE hO5 ?_ ?_)⟩
  ·rw [zy,zy];exact bI (zk (by lia))
  rw [show iv es1 ++ iv outs=iv (es1 ++ outs) by simp [iv]];have W6:=W5.setE (es1 ++ outs);have nOE:O≠E:=λ z=>nO (by rw [z];simp);have hO6:upd H5 E (.lst (iv (es1 ++ outs))) O=some (.lst (iv outs)):=by rw [mX nOE];exact hO5
  generalize upd H5 E (.lst (iv (es1 ++ outs)))=H6 at W6 hO6 ⊢;have W7:=W6.less nO;obtain ⟨rv7,hR7,rR7⟩:=W7.hR;have lR7:rv7.length=rs.length:=by rw [rR7.len,ai]
  walk_at "a";refine ⟨.inl ⟨rfl,_,SqL.of hR7⟩,iE3 _ _ _ ⟨(XD T).mono,iE3 _ _ _ ⟨(za6 T).mono,?_⟩⟩⟩;refine iE6 R rv7 rs c _ _ (iA7 rfl hR7 rR7 I5.ro (by lia) (b7 n0 (by decide)) (λ H8 kk s8 k0 k1=>?_));refine iE5 y kk (nu % 9) O outs (iA8 rfl (s8 _ _ hO6) (by lia) (by lia) (λ z=>by rw [lo];exact m1 z) k0 k1 (λ v H9 s9 q9=>?_));have s79:=s8.trans s9;have q9:KnP a H9 (New H6) v (Wm y kk (nu % 9) outs):=q9.keep λ b o hb ho=>⟨zA s8 hb,ho⟩;obtain ⟨W9,_⟩:=W7.addR hR7 s79 (W7.newK q9);refine iE3 R _ _ (iA5 rfl rfl (s79 _ _ hR7) (zk (by lia)) ?_);refine iE8 _ _ _ _ bs' _ (es1 ++ outs) ks (iA6 rfl W9 (I5.knot (aU _) cV (zau (by lia) (by lia) (λ z=>by rw [lo];exact m1 z) k0 k1)) (by lia) (by simp;lia) (by simp))
 intro σ' H3 m9;refine oE8 m9 λ v9 v10 v11 v12 bs' rs' es' ks' m7=>oA6 m7 λ m8 W3 I3 l1 l2 r1=>?_;clear m7 m9;subst m8;walk_at "a";exact k _ _ _ _ _ W3 I3 l1 l2 r1
noncomputable abbrev stC (L R E B:Addr) (c sp:Int) (v6 v7 v8 v9 v10 v11:As):St:=[some (.ref L),some (.ref R),some (.ref E),some (.ref B),some (.int c),some (.int sp),v6,v7,v8,v9,v10,v11]
def zfD (a:Ad):Sp:=λ vs H Q _=>∃ (ms:Ae) (L R En B:Addr) (bs:A3) (rs:Av) (es ks:A8) (c sp:Int),vs=[.ref L,.ref R,.ref En,.ref B,.int c,.int sp]/\GS a ms H H L R En B bs rs es ks/\WInv bs rs es ks/\1<=sp/\sp<=4/\bs.length + ks.length<=24/\rs.length + es.length + ks.length<=24 /\
 ∀ H' bs' rs' es',GS a ms H H' L R En B bs' rs' es' ks->WInv bs' rs' [] []->bs'.length<=bs.length + ks.length->rs'.length<=rs.length + es.length + ks.length->rs.length<=rs'.length->Q .non H'
def zdX (T:Txt K mg a):Cal P w K mg base "_law_close" 5 ["_law_belts","_law_knots","_law_ends","_law_loops","_law_cell","_law_span"] [] (zfD a):=T.lW.cal λ F=>by
 refine F.okx zby ?_ ?_
 ·walk_at "i"
 walk_at "j";refine oE8 h λ ms L R E B bs rs es m7=>oE3 m7 λ ks c sp m8=>oA8 m8 λ mR W I0 p1 p4 lb lr k=>?_;clear m7 m8 h;subst mR;walk_at "T";refine ⟨_,(qd (ql qC rfl (qB (za (pq 3) zb)) (xA (n:=2) rfl (z8 (qg 6 zby.nd) (z8 (qg 7 zby.nd) jE)))  (zh (zp 8 zby.nd (zx ⟨rfl,rfl,rfl⟩ hr (za (zt zJ (pq 4) (zt jM (pq 6) (pq 6))) (za zd zb))))  (zc (zD (zm (qK hr.units1) (pq 2) (zL zb) (zr _))  (zc (zw (qy aq ax aw zK (pq 1) (za (zx ⟨rfl,rfl,rfl⟩ hr (za (pq 7) (za (pq 4) (za (pq 8) (za (pq 5) zb))))) zb))))  (zh (zp 9 zby.nd (qy aq dI dH Xd (pq 2) (za (zt qq (pq 8) (z9 zX zW (za (pq 2) zb))) zb)))  (zh (zw (qy aq ax aw zK (pq 2) (za (zx ⟨rfl,rfl,rfl⟩ hr (za (pq 0) (za (qb (pq 8)) (za (pq 5) zb)))) zb)))  (zh (zp 10 zby.nd (zL (za (pq 7) (za (zo (pq 2) (Zc xY zd)) zb))))  (qd (zD (zm (qK hr.units1) (zZ (qb (pq 8))) zd (zr _))  (zc (zp 10 zby.nd (zL (za (zo (pq 2) (Zc xY zd)) (za (pq 7) zb)))))  zn)  (zc (zw (qy aq ax aw zK (pq 1) (za (zx ⟨rfl,rfl,rfl⟩ hr (za (pq 9) (za (pq 10) (za (zx ⟨rfl,rfl,rfl⟩ hr (za (pq 1) (za (pq 4) (za (qb (pq 8)) zb)))) (za (zZ (qb (pq 8))) zb))))) zb))))))))))))  (zc (ql qC rfl (qB (za (pq 2) zb)) (xA (n:=2) rfl (z8 (qg 6 zby.nd) (z8 (qg 11 zby.nd) jE)))  (zc (zw (qy aq ax aw zK (pq 1) (za (zx ⟨rfl,rfl,rfl⟩ hr (za (pq 11) (za (zx ⟨rfl,rfl,rfl⟩ hr (za (zt zJ (pq 4) (zt jM (pq 6) (pq 6))) (za zd zb))) (za (pq 5) zb)))) zb))))))),?_⟩;walk_at "a";let mS:St->Hp->Prop:=λ σ' H'=>∃ (v6 v7 v8 v9 v10:As) (bs1:A3) (rs1:Av) (es1:A8),σ'=stC L R E B c sp v6 v7 v8 v9 v10 none/\GS a ms H H' L R E B bs1 rs1 es1 ks/\WInv bs1 rs1 es1 []/\bs1.length<=bs.length + ks.length/\rs1.length + es1.length<=rs.length + es.length + ks.length/\rs.length<=rs1.length;refine cut mS ?_ ?_
 ·walk_at "d";walk_at "a";refine iE2 B _ (iA3 rfl W.hB ?_);let mT:Nat->St->Hp->Prop:=λ i σ H'=>∃ (v6 v7 v8 v9 v10:As) (bs1:A3) (rs1:Av) (es1:A8),σ=stC L R E B c sp v6 v7 v8 v9 v10 none/\GS a ms H H' L R E B bs1 rs1 es1 ks/\WInv bs1 rs1 es1 (ks.drop i)/\bs1.length<=bs.length + i/\rs1.length + es1.length<=rs.length + es.length + i/\rs.length<=rs1.length;refine QX (K:=K) (a:=B) (xs:=iv ks) mT
   ⟨_,_,_,_,_,bs,rs,es,rfl,W,I0,au _,au _,au _⟩ (λ i σ H' _ h=>by obtain ⟨_,_,_,_,_,_,_,_,_,W,_⟩:=h;exact SqL.of W.hB) ?_ ?_
  ·clear W I0;intro i x t σ H1 hi ht m9;refine oE8 m9 λ v6 v7 v8 v9 v10 bs1 rs1 es1 m7=>oA6 m7 λ m8 W1 I1 l1 l2 l3=>?_;clear m7 m9;subst m8;obtain ⟨yl,hyl,rfl⟩:=Zh hi;have hil:=(aa.mp hyl).1;rw [zcJ hyl] at I1;have s2:=zf (o:=.tup [.int i,.int yl]) ht;have W2:=W1.same s2;refine un2 mW ?_;generalize upd H1 t (.tup [.int i,.int yl])=H2 at W2 ⊢;clear W1 s2 ht;walk_at "a";refine uc (jh T).mono ⟨mul_okR (by lia) (by lia),iE2 _ _ (iA4 rfl (by decide) (by decide) ?_)⟩;have n0:=ju (c + (i:Int) * i) 1726512289;generalize wu (c + (i:Int) * i) 1726512289=nu at n0 ⊢;walk_at "a";intro q hq;have W3:=W2.same (zf (o:=.lst []) hq);refine zfd W3.hE mW ?_;generalize upd H2 q (.lst [])=H3 at W3 ⊢;clear W2 hq;obtain ⟨rv,hR,rR⟩:=W3.hR;have lR:rv.length=rs1.length:=by rw [rR.len,ai]
   walk_at "a";refine zN (λ z=>?_) (λ z=>?_)
   ·walk_at "a";refine ⟨.inl ⟨rfl,_,SqL.of hR⟩,iE3 _ _ _ ⟨(XB T).mono,⟨yl,c,nu,sp,rfl,n0,p1,p4,λ v H4 pc kd s4 c1 c4 d1 d6 dk q4=>?_⟩⟩⟩;obtain ⟨W4,_⟩:=W3.addR hR s4 (W3.newK q4);refine iE3 R _ _ (iA5 rfl rfl (s4 _ _ hR) (zk (by lia)) ?_);exact iE8 _ _ _ _ _ bs1 _ es1 (iA6 rfl W4 (I1.knot (r:=⟨.source,[],[yl],pc,kd⟩) (aU _) (aU _) (iA7 rfl ⟨_,rfl⟩ c1 c4 d1 d6 dk)) (by lia) (by simp;lia) (by simp;lia))
   have el:(0:Int) < es1.length:=by
    rcases dY es1.length with y|y
    ·exact absurd (bz.mp y) z
    ·lia
   walk_at "a";refine iA3 (.inl ⟨rfl,_,SqL.of W3.hE⟩) gA ⟨_,⟨.inl ⟨_,SqL.of W3.hE,rfl⟩,?_⟩⟩;rw [zy];refine ⟨el,?_⟩;have v0:=aJ nu (show (es1.length:Int)≠0 by lia);have v1:=aG nu el;generalize nu % (es1.length:Int)=jj at v0 v1 ⊢;obtain ⟨y,hy⟩:∃ y,es1[jj.toNat]?=some y:=⟨es1[jj.toNat]'(by lia),ac _⟩;refine iE5 E (iv es1) jj jj.toNat (.int y) (iA8 rfl rfl W3.hE (by lia) (by lia) (JZ v0 (by rw [zy];exact v1)) (jN hy) ?_);rw [Xp];have W4:=W3.setE (es1.eraseIdx jj.toNat);have pp:=ZT hy;have pl:=pp.length_eq;rw [bB] at pl;have I2:=I1.perm pp (aU _);generalize upd H3 E (.lst (iv (es1.eraseIdx jj.toNat)))=H4 at W4 ⊢;generalize es1.eraseIdx jj.toNat=es2 at pp pl W4 I2 ⊢;clear W3 I1 pp rR hR lR;obtain ⟨bv,hL,rL⟩:=W4.hL;have lL:bv.length=bs1.length:=by rw [rL.len,ai]
   walk_at "a";refine ⟨.inl ⟨rfl,_,SqL.of W4.hE⟩,iE3 _ _ _ ⟨(vI T).mono,?_⟩⟩;refine iE4 L bv _ sp (iA7 rfl (b7 n0 (by decide)) p1 p4 hL (by lia) (λ rm pc z H5 bk s5 q5=>?_));obtain ⟨W5,_⟩:=W4.addL hL s5 q5;rw [lL];generalize upd H5 L (.lst (bv ++ [.ref z]))=H6 at W5 ⊢;have I5:=I2.belt (b:=(rm,pc)) bk;refine iE3 E _ _ (iA5 rfl rfl W5.hE (zk (by rw [zy];lia)) ?_);rw [qI];have W6:=W5.setE (es2 ++ [(bs1.length:Int)]);generalize upd H6 E (.lst (iv (es2 ++ [(bs1.length:Int)])))=H7 at W6 ⊢;clear W5 W4 hL rL lL;walk_at "a";refine zu (SqL.of W6.hE) Qg λ O hO=>?_;have W7:=W6.same (zf (o:=.lst [V.int yl,.int (bs1.length:Int)]) hO);have hO7:upd H7 O (.lst [V.int yl,.int (bs1.length:Int)]) O=some (.lst (iv [yl,(bs1.length:Int)])):=mW;generalize upd H7 O (.lst [V.int yl,.int (bs1.length:Int)])=H8 at W7 hO7 ⊢;clear W6 hO;walk_at "a";let mV:St->Hp->Prop:=λ σ' H'=>∃ (O:Addr) (outs:A8),σ'=stC L R E B c sp (some (.int i)) (some (.int yl)) (some (.int nu)) (some (.int y)) (some (.ref O)) none/\GS a ms H H' L R E B (bs1 ++ [(rm,pc)]) rs1 (es2 ++ [(bs1.length:Int)]) ks/\H' O=some (.lst (iv outs))/\outs.Perm [yl,(bs1.length:Int)];refine cut mV ?_ ?_
   ·walk_at "a";walk_at "f";walk_at "a";refine zN (λ b=>?_) (λ b=>(iE2 O _ (iA4 rfl W7 hO7 (aU _))));walk_at "a";refine zu (SqL.of W7.hE) Qg λ O2 hO2=>?_;walk_at "a";exact iE2 O2 ([(bs1.length:Int),yl]) (iA4 rfl (W7.same (zf hO2)) mW (List.Perm.swap _ _ _))
   clear W7 hO7;intro σ' H9 m9;refine oE2 m9 λ O outs m7=>oA4 m7 λ m8 W8 hO8 po=>?_;clear m7 m9;subst m8;have lo:outs.length=2:=po.length_eq;obtain ⟨rv,hR,rR⟩:=W8.hR;have lR:rv.length=rs1.length:=by rw [rR.len,ai]
   walk_at "a";refine ⟨.inl ⟨rfl,_,SqL.of hR⟩,iE3 _ _ _ ⟨(XD T).mono,iE3 _ _ _ ⟨(za6 T).mono,?_⟩⟩⟩;refine iE6 R rv rs1 c _ _ (iA7 rfl hR rR I5.ro (by lia) (b7 n0 (by decide)) (λ H10 kk s10 k0 k1=>?_));refine iE5 y kk (nu / 48 % 3) O outs (iA8 rfl (s10 _ _ hO8) (by lia) (by lia) (λ z=>lo) k0 k1 (λ v H11 s11 q11=>?_));have s9:=s10.trans s11;have q11:KnP a H11 (New H9) v (Wm y kk (nu / 48 % 3) outs):=q11.keep λ b o hb ho=>⟨zA s10 hb,ho⟩;obtain ⟨W11,_⟩:=W8.addR hR s9 (W8.newK q11);refine iE3 R _ _ (iA5 rfl rfl (s9 _ _ hR) (zk (by lia)) ?_);refine iE8 _ _ _ _ _ _ _ (es2 ++ [(bs1.length:Int)]) (iA6 rfl W11 (I5.knot (ks':=ks.drop (i + 1)) (aU _) ?_ (zau (by lia) (by lia) (λ _=>lo) k0 k1)) (by simp;lia) (by simp;lia) (by simp;lia));refine (cF _ po).trans ?_;exact List.Perm.cons _ cV
  ·intro σ H1 m9;refine oE8 m9 λ v6 v7 v8 v9 v10 bs1 rs1 es1 m7=>oA6 m7 λ m8 W1 I1 l1 l2 l3=>?_;clear m7 m9;subst m8;rw [zy] at I1 l1 l2;rw [List.drop_length] at I1;exact iE8 _ _ _ _ _ bs1 rs1 es1 (iA6 rfl W1 I1 l1 l2 l3)
 clear W I0;intro σ' H1 m9;refine oE8 m9 λ v6 v7 v8 v9 v10 bs1 rs1 es1 m7=>oA6 m7 λ m8 W1 I1 l1 l2 l3=>?_;clear m7 m9;subst m8;walk_at "d";walk_at "a";refine iE2 E _ (iA3 rfl W1.hE ?_);let M4_:Nat->St->Hp->Prop:=λ i σ H'=>∃ (v6 v11:As) (rs2:Av),σ=stC L R E B c sp v6 v7 v8 v9 v10 v11/\GS a ms H H' L R E B bs1 rs2 es1 ks/\WInv bs1 rs2 (es1.drop i) []/\rs2.length + (es1.length - i)<=rs1.length + es1.length/\rs1.length<=rs2.length;refine QX (K:=K) (a:=E) (xs:=iv es1) M4_
  ⟨_,_,rs1,rfl,W1,I1,by lia,au _⟩ (λ i σ H' _ h=>by obtain ⟨_,_,_,_,W,_⟩:=h;exact SqL.of W.hE) ?_ ?_
 ·clear W1 I1;intro i x t σ H2 hi ht m9;refine oE3 m9 λ v6 v11 rs2 m7=>oA5 m7 λ m8 W2 I2 m1 m2=>?_;clear m7 m9;subst m8;obtain ⟨y,hy,rfl⟩:=Zh hi;have hil:=(aa.mp hy).1;rw [zcJ hy] at I2;have s3:=zf (o:=.tup [.int i,.int y]) ht;have W3:=W2.same s3;refine un2 mW ?_;generalize upd H2 t (.tup [.int i,.int y])=H3 at W3 ⊢;clear W2 s3 ht;obtain ⟨rv,hR,rR⟩:=W3.hR;have lR:rv.length=rs2.length:=by rw [rR.len,ai]
  walk_at "a";refine ⟨.inl ⟨rfl,_,SqL.of hR⟩,iE3 _ _ _ ⟨(WM T).mono,iE3 _ _ _ (iA3 ((jh T).mono) (mul_okR (by lia) (by lia)) ⟨_,_,rfl,by decide,by decide,?_⟩)⟩⟩;refine iE3 y _ sp (iA5 rfl (ju _ _) p1 p4 (λ v H4 pc s4 c0 c4 q4=>?_));obtain ⟨W4,_⟩:=W3.addR hR s4 (W3.newK q4);refine iE3 R _ _ (iA5 rfl rfl (s4 _ _ hR) (zk (by lia)) ?_);exact iE3 _ _ _ (iA5 rfl W4 (I2.knot (r:=⟨.drain,[y],[],pc,[]⟩) (aU _) (aU _) (iA4 ⟨_,rfl⟩ rfl c0 c4)) (by simp;lia) (by simp;lia))
 ·intro σ H2 m9;refine oE3 m9 λ v6 v11 rs2 m7=>oA5 m7 λ m8 W2 I2 m1 m2=>?_;clear m7 m9;subst m8;rw [zy] at I2 m1;rw [List.drop_length] at I2;walk_at "a";exact k _ _ _ _ W2 I2 l1 (by lia) (by lia)
noncomputable abbrev stK (l:Addr) (c nu:Int) (v4 v5 v6 v7 v8 v9 v10 v11 v12 v13 v14:As):St:=[some (.ref l),some (.int c),some (.int nu),some (.int (1 + nu % 4)),v4,v5,v6,v7,v8,v9,v10,v11,v12,v13,v14]
def zfJ {x y:Int} (x1:1<=x) (x3:x<=6) (y1:1<=y) (y4:y<=4):zR [(x,y),(2,1),(1,y)] [⟨.joiner,[0,1],[2],0,[]⟩,⟨.parter,[2],[1,0],0,[]⟩]/\(∀ b∈[(x,y),(2,1),(1,y)],zB b.1 b.2)/\∀ r∈([⟨.joiner,[0,1],[2],0,[]⟩,⟨.parter,[2],[1,0],0,[]⟩]:Av),r.ok:=by
 refine ⟨⟨⟨⟨by simp,by simp⟩,by simp,by simp⟩,?_,?_⟩,λ b hb=>?_,λ r hr=>?_⟩
 ·show List.Perm [2,1,0] [0,1,2]
  decide
 ·show List.Perm [0,1,2] [0,1,2]
  exact aU _
 ·simp only [az,bV,cB] at hb;rcases hb with rfl|rfl|rfl
  ·exact ⟨x1,x3,y1,y4⟩
  ·exact ⟨by decide,by decide,by decide,by decide⟩
  ·exact ⟨show (1:Int)<=1 by decide,show (1:Int)<=6 by decide,y1,y4⟩
 ·simp only [az,bV,cB] at hr;rcases hr with rfl|rfl
  ·exact ⟨⟨_,rfl⟩,by simp,by simp⟩
  ·exact ⟨⟨_,rfl⟩,by simp,by simp⟩
def zf9 {k1 k2:A8} (a1:1<=k1.length) (a6:k1.length<=6) (ak:xH k1) (b1:1<=k2.length) (b6:k2.length<=6) (bk:xH k2):zR [(1,1),(1,1)] [⟨.source,[],[0],3,k1⟩,⟨.source,[],[1],4,k2⟩,⟨.drain,[0],[],1,[]⟩,⟨.drain,[1],[],1,[]⟩]/\(∀ b∈[((1:Int),(1:Int)),(1,1)],zB b.1 b.2)/\∀ r∈([⟨.source,[],[0],3,k1⟩,⟨.source,[],[1],4,k2⟩,⟨.drain,[0],[],1,[]⟩,⟨.drain,[1],[],1,[]⟩]:Av),r.ok:=by
 refine ⟨⟨⟨⟨by simp,by simp⟩,by simp,by simp⟩,?_,?_⟩,λ b hb=>?_,λ r hr=>?_⟩
 ·show List.Perm [0,1] [0,1]
  exact aU _
 ·show List.Perm [0,1] [0,1]
  exact aU _
 ·simp only [az,bV,cB] at hb;rcases hb with rfl|rfl <;> exact ⟨by decide,by decide,by decide,by decide⟩
 ·simp only [az,bV,cB] at hr;rcases hr with rfl|rfl|rfl|rfl
  ·exact ⟨rfl,⟨_,rfl⟩,show (1:Int)<=3 by decide,show (3:Int)<=4 by decide,a1,a6,ak⟩
  ·exact ⟨rfl,⟨_,rfl⟩,show (1:Int)<=4 by decide,show (4:Int)<=4 by decide,b1,b6,bk⟩
  ·exact ⟨⟨_,rfl⟩,rfl,by decide,by decide⟩
  ·exact ⟨⟨_,rfl⟩,rfl,by decide,by decide⟩
inductive spWorkOf (K:A0) (a:Ad) (vs:Ar) (H:Hp) (Q:VK) (E:XK):Prop
 | i (l:Addr) (ns:A8):vs=[.ref l]->SqL K H l (iv ns)->(∀ v H' bs rs,Same H H'->Rep H' (Off []) v (qz a bs rs)->zR bs rs->(∀ b∈bs,zB b.1 b.2)->(∀ r∈rs,r.ok)->Q v H')->spWorkOf K a vs H Q E
theorem zfm (T:Txt K mg a):Cal P w K mg base "_law_work" 7 ["_law_script"] [] (spWorkOf K a):=T.mj.cal λ F=>by
 refine F.okx zdf ?_ ?_
 ·walk_at "i"
 walk_at "j";rcases h with ⟨l,ns,rfl,hl,k⟩;walk_at "T";refine ⟨_,(zh (JW (i:=1) zdf.nd rfl (Or.inr rfl) (zx ⟨rfl,rfl,rfl⟩ hr (za (pq 0) (za zd zb))))  (zh (zp 2 zdf.nd (zx ⟨rfl,rfl,rfl⟩ hr (za (pq 1) (za zd zb))))  (zh (zp 3 zdf.nd (zt zJ zd (zZ (pq 2))))  (zh (zp 4 zdf.nd (zt zJ zd (zZ (qb (pq 2)))))  (qd (zD (zm (qK hr.units1) (zZ (qb (pq 2))) zd (zr _))  (zc (zp 4 zdf.nd (zt zJ (pq 4) zd)))  zn)  (zh (zD (zm (qK hr.units1) (zZ (qb (pq 2))) zd (zr _))  (zh (zp 5 zdf.nd (zL (za (qr (x:="Belt") ⟨rfl,rfl,rfl⟩ hr (za (zt zJ zd (zZ (pq 2))) (za (pq 3) zb))) (za (qr (x:="Belt") ⟨rfl,rfl,rfl⟩ hr (za zd (za zd zb))) (za (qr (x:="Belt") ⟨rfl,rfl,rfl⟩ hr (za zd (za (pq 3) zb))) zb)))))  (zc (zl (qr (x:="Work") ⟨rfl,rfl,rfl⟩ hr (za (pq 5) (za (zL (za (qr (x:="Joiner") ⟨rfl,rfl,rfl⟩ hr (za (zL (za zd (za zd zb))) (za zd zb))) (za (qr (x:="Parter") ⟨rfl,rfl,rfl⟩ hr (za zd (za (zL (za zd (za zd zb))) zb))) zb))) zb))))))  zn)  (zh (zD (zm (qK hr.units1) (zZ (qb (pq 2))) zd (zr _))  (zh (zp 6 zdf.nd (zo (zL (za (qO (za zd (za zd zb))) (za (qO (za zd (za zd zb))) zb))) (zZ (qb (pq 2)))))  (zh (JX (i:=7) zdf.nd rfl (Or.inl rfl) (vars:=["_law_count"]) (caps:=[1]) (N:=["_law_count","_law_first"]) (ON:=["_law_script","_law_first","_law_number","_law_span","_law_many","_law_ring","_law_counts_here","_law_kinds_here","_law_lanes","_law_belts","_law_knots","_law_ends","_law_loops","_law_cell","_law_cut"]) (osc:=ze ZQ) rfl rfl (by first|decide +kernel|kernel_rfl) rfl rfl (qm (pq 6)) (λ _ _ _ _=>(qg 0 (show (["_law_count","_law_first"]:Aa).Nodup from by decide +kernel))) (λ _ _ _ _=>qe) (λ s H fp m5=>(jG (vars:=["_law_k"]) (caps:=[1]) (N:=["_law_k","_law_first"]) (ON:=["_law_count","_law_first"]) (osc:=_) rfl rfl (by first|decide +kernel|kernel_rfl) rfl rfl (jD (za (pq 0) zb)) (λ _ _ _ _=>(qg 0 (show (["_law_k","_law_first"]:Aa).Nodup from by decide +kernel))) (λ _ _ _ _=>qe) (λ _ _ _ _=>(zbI (zt zJ (pq 1) (pq 0)))))))  (zh (zp 8 zdf.nd (zL (za (qr (x:="Source") ⟨rfl,rfl,rfl⟩ hr (za zd (za zd (za (zo (pq 7) zd) zb)))) (za (qr (x:="Source") ⟨rfl,rfl,rfl⟩ hr (za zd (za zd (za (zo (pq 7) zd) zb)))) (za (qr (x:="Drain") ⟨rfl,rfl,rfl⟩ hr (za zd (za zd zb))) (za (qr (x:="Drain") ⟨rfl,rfl,rfl⟩ hr (za zd (za zd zb))) zb))))))  (zc (zl (qr (x:="Work") ⟨rfl,rfl,rfl⟩ hr (za (zL (za (qr (x:="Belt") ⟨rfl,rfl,rfl⟩ hr (za zd (za zd zb))) (za (qr (x:="Belt") ⟨rfl,rfl,rfl⟩ hr (za zd (za zd zb))) zb))) (za (pq 8) zb))))))))  zn)  (zh (zp 9 zdf.nd (zL zb))  (zh (zp 10 zdf.nd (zL zb))  (zh (zp 11 zdf.nd (zL zb))  (zh (zp 12 zdf.nd (zL zb))  (qd (ql qC rfl (qm (wg Qk (pq 0) (wM zd) (wM (zt zJ zd (pq 4))))) (qg 13 zdf.nd)  (zc (zw (zx ⟨rfl,rfl,rfl⟩ hr (za (pq 9) (za (pq 10) (za (pq 11) (za (pq 12) (za (pq 13) (za (pq 3) zb))))))))))  (qd (zD (zm (zhg hr.units1) (pq 10) (zL zb) (zr _))  (zc (zw (zx ⟨rfl,rfl,rfl⟩ hr (za (pq 9) (za (pq 10) (za (pq 11) (za (pq 12) (za (pq 1) (za (pq 3) zb)))))))))  zn)  (zh (zw (zx ⟨rfl,rfl,rfl⟩ hr (za (pq 9) (za (pq 10) (za (pq 11) (za (pq 12) (za (pq 1) (za (pq 3) zb))))))))  (zh (zp 14 zdf.nd (zt qq (qb (pq 2)) (z9 zX zW (za (pq 10) zb))))  (zh (zp 10 zdf.nd (zt zJ (wg Qk (pq 10) (wM (pq 14)) ZU) (wg Qk (pq 10) ZU (wM (pq 14)))))  (qd (zD (zm (qK hr.units1) (zZ (qb (pq 2))) zd (zr _))  (zc (zp 10 zdf.nd (zfY rfl (za (pq 10) zb))))  zn)  (zc (zl (qr (x:="Work") ⟨rfl,rfl,rfl⟩ hr (za (pq 9) (za (pq 10) zb)))))))))))))))))))))),?_⟩;walk_at "a";refine uc (zfo T).mono (iE3 l ns 0 (iA3 rfl hl ?_));generalize QY ns 0=c;walk_at "a";refine uc (jh T).mono (iE2 c _ (iA4 rfl (by decide) (by decide) ?_));have n0:=ju c 1873046521;generalize wu c 1873046521=nu at n0 ⊢;have s0:=aJ nu (show (4:Int)≠0 by decide);have s1:=aG nu (show (0:Int) < 4 by decide);have m0:=aJ (nu / 4) (show (4:Int)≠0 by decide);have m1:=aG (nu / 4) (show (0:Int) < 4 by decide);walk_at "a";walk_at "f";walk_at "a";let mS:St->Hp->Prop:=λ σ' H'=>∃ m:Nat,σ'=stK l c nu (some (.int m)) none none none none none none none none none none/\H'=H/\m<=6;refine cut mS ?_ ?_
 ·walk_at "a";walk_at "f";walk_at "a";refine zN (λ _=>?_) (λ _=>?_)
  ·walk_at "a";refine ⟨(1 + nu / 4 % 4 + 2).toNat,iA3 ?_ rfl (by lia)⟩;rw [show (((1 + nu / 4 % 4 + 2).toNat:Nat):Int)=1 + nu / 4 % 4 + 2 by lia]
  ·refine ⟨(1 + nu / 4 % 4).toNat,iA3 ?_ rfl (by lia)⟩;rw [show (((1 + nu / 4 % 4).toNat:Nat):Int)=1 + nu / 4 % 4 by lia]
 intro σ' H' m9;refine oE1 m9 λ mn m7=>oA3 m7 λ m8 mR m6=>?_;clear m7 m9;subst m8 mR;clear m0 m1;walk_at "a";walk_at "f";walk_at "a";refine zN (λ _=>?_) (λ _=>?_)
 ·have z0:=aJ nu (show (3:Int)≠0 by decide);have z1:=aG nu (show (0:Int) < 3 by decide);walk_at "a";refine iE4 a.h _ _ _ ⟨(ZE T).mono,?_⟩;intro b1 d1 hb1 hd1 _;refine vT hb1 hd1 (iA4 (by lia) (by lia) (by lia) (by lia)) λ H1 s1 q1=>⟨rfl,?_⟩;refine iE4 a.h _ _ _ ⟨(ZE T).mono,?_⟩;intro b2 d2 hb2 hd2 _;refine vT hb2 hd2 (iA4 (by decide) (by decide) (by decide) (by decide)) λ H2 s2 q2=>⟨rfl,?_⟩;refine iE4 a.h _ _ _ ⟨(ZE T).mono,?_⟩;intro b3 d3 hb3 hd3 _;refine vT hb3 hd3 (iA4 (by decide) (by decide) (by lia) (by lia)) λ H3 s3 q3=>⟨rfl,?_⟩;intro L hL;have s4:=zf (o:=.lst [V.ref b1,.ref b2,.ref b3]) hL;have hL4:upd H3 L (.lst [V.ref b1,.ref b2,.ref b3]) L=some (.lst [V.ref b1,.ref b2,.ref b3]):=mW;generalize upd H3 L (.lst [V.ref b1,.ref b2,.ref b3])=H4 at s4 hL4 ⊢;walk_at "a";refine iE4 a.q _ _ _ ⟨(zbV T).mono,(iE4 a.o _ _ _ ⟨(Xn T).mono,λ j hj=>?_⟩)⟩;have s5:=zf (o:=.lst [V.int 0,.int 1]) hj;have hj5:upd H4 j (.lst [V.int 0,.int 1]) j=some (.lst (iv [0,1])):=mW;generalize upd H4 j (.lst [V.int 0,.int 1])=H5 at s5 hj5 ⊢;intro k1 e1 hk1 he1 _;refine Wr hk1 he1 hj5 (by decide) (by decide) λ H6 s6 q6=>⟨rfl,?_⟩;refine iE4 a.l _ _ _ ⟨(Xm T).mono,λ j2 hj2=>?_⟩;have s7:=zf (o:=.lst [V.int 1,.int 0]) hj2;have hj7:upd H6 j2 (.lst [V.int 1,.int 0]) j2=some (.lst (iv [1,0])):=mW;generalize upd H6 j2 (.lst [V.int 1,.int 0])=H7 at s7 hj7 ⊢;intro k2 e2 hk2 he2 _;refine Wq hk2 he2 hj7 (by decide) (by decide) λ H8 s8 q8=>⟨rfl,?_⟩;intro R hR;have s9:=zf (o:=.lst [V.ref k1,.ref k2]) hR;have hR9:upd H8 R (.lst [V.ref k1,.ref k2]) R=some (.lst [V.ref k1,.ref k2]):=mW;generalize upd H8 R (.lst [V.ref k1,.ref k2])=H9 at s9 hR9 ⊢;have t69:=(s7.trans s8).trans s9;have t49:=(s5.trans s6).trans t69;have t19:=((s2.trans s3).trans s4).trans t49;have tr:∀ {H1 H2:Hp} {p:A7} {v:V} {d:D},Rep H1 p v d->Same H1 H2->Rep H2 (λ _=>True) v d:=λ r s=>r.keep λ b o _ hb=>⟨trivial,s b o hb⟩;intro z dz hz hdz _;obtain ⟨o1,o2,o3⟩:=zfJ (x:=1 + nu % 3) (y:=1 + nu % 4) (by lia) (by lia) (by lia) (by lia);refine Vy (p:=λ _=>True) (q:=λ _=>True) (bs:=[(1 + nu % 3,1 + nu % 4),(2,1),(1,1 + nu % 4)]) (rs:=[⟨.joiner,[0,1],[2],0,[]⟩,⟨.parter,[2],[1,0],0,[]⟩]) hz hdz (t49 _ _ hL4) hR9 ?_ ?_ ?_ ?_ ?_ λ H10 s10 r10=>⟨rfl,k _ _ _ _ ((s1.trans t19).trans s10) r10 ?_ ?_ ?_⟩
  ·exact .cons (tr q1 t19) (.cons (tr q2 ((s3.trans s4).trans t49)) (.cons (tr q3 (s4.trans t49)) .nil))
  ·exact .cons (tr q6 t69) (.cons (tr q8 s9) .nil)
  ·exact o1
  ·exact o2
  ·exact o3
  ·exact o1
  ·exact o2
  ·exact o3
 walk_at "a";walk_at "f";walk_at "a";refine zN (λ _=>?_) (λ _=>?_)
 ·walk_at "a";intro p hp p1 hp1 p2 hp2;have sA:=((zf (o:=.tup [V.int 5,.int 4]) hp).trans (zf (o:=.tup [V.int 3,.int 5]) hp1)).trans (zf (o:=.lst [V.ref p,.ref p1]) hp2);have g1:=mZ (o:=.lst [V.ref p,.ref p1]) (mZ (o:=.tup [V.int 3,.int 5]) (mW (H:=H') (a:=p) (o:=.tup [V.int 5,.int 4])) hp1) hp2;have g2:=mZ (o:=.lst [V.ref p,.ref p1]) (mW (H:=upd H' p (.tup [V.int 5,.int 4])) (a:=p1) (o:=.tup [V.int 3,.int 5])) hp2;have g3:upd (upd (upd H' p (.tup [V.int 5,.int 4])) p1 (.tup [V.int 3,.int 5])) p2 (.lst [V.ref p,.ref p1]) p2=some (.lst [V.ref p,.ref p1]):=mW;generalize upd (upd (upd H' p (.tup [V.int 5,.int 4])) p1 (.tup [V.int 3,.int 5])) p2 (.lst [V.ref p,.ref p1])=H1 at sA g1 g2 g3 ⊢;obtain ⟨tc,u1,u2,etc,htc,a1,a6,b1,b6⟩:∃ (tc:Addr) (u1 u2:Int),atI [V.ref p,.ref p1] (nu / 51200 % 2)=some (.ref tc)/\H1 tc=some (.tup [.int u1,.int u2])/\1<=u1/\u1<=6/\1<=u2/\u2<=6:=by
   have h:nu / 51200 % 2=0\/nu / 51200 % 2=1:=by lia
   rcases h with h|h <;> rw [h]
   ·exact iE3 p 5 4 (iA6 rfl g1 (by decide) (by decide) (by decide) (by decide))
   ·exact iE3 p1 3 5 (iA6 rfl g2 (by decide) (by decide) (by decide) (by decide))
  refine zu (SqL.of g3) etc ?_;clear g1 g2 g3 etc hp hp1 hp2;walk_at "e";walk_at "a";refine ⟨tc,rfl,.inr ⟨⟨_,SqT.of htc⟩,λ _ _ _ _ mQ hacc=>?_⟩⟩;let mT:Nat->St->Hp->Prop:=λ i σ H'=>∃ (v:As) (as:Ae),σ=[v,some (.int c)]/\Same H1 H'/\H' mQ=some (.lst (as.map V.ref))/\as.length=i/\∀ (j:Nat) b,as[j]?=some b->b≠mQ/\∃ kd:List Int,H' b=some (.lst (iv kd))/\1<=kd.length/\kd.length<=6/\xH kd;refine zig (K:=K) (a:=tc) (xs:=[.int u1,.int u2]) mT (iE2 _ ([]) (iA5 rfl (zf hacc) mW rfl (λ j b h=>by simp at h))) (λ i σ H' _ ⟨_,_,_,s,_⟩=>SqT.of (s _ _ htc)) ?_ ?_
  ·intro i x σ H2 hi m9;refine oE2 m9 λ v as m7=>oA5 m7 λ m8 s2 ha la hk=>?_;clear m7 m9;subst m8;obtain ⟨u,rfl,ub,u6⟩:∃ u:Int,x=.int u/\1<=u/\u<=6:=by
    match i,hi with
    | 0,hi=>cases hi;exact ⟨u1,rfl,a1,a6⟩
    | 1,hi=>cases hi;exact ⟨u2,rfl,b1,b6⟩
   have la2:i < 2:=(aa.mp hi).1;walk_at "e";walk_at "a";refine ⟨by lia,by lia,λ _ _ _ _ ac2 hac2=>?_⟩;let mV:Nat->St->Hp->Prop:=λ j σ H'=>∃ v ks,σ=[v,some (.int c)]/\Same H2 H'/\ks.length=j/\xH ks/\H' ac2=some (.lst (iv ks));refine xS (n:=u.toNat) mV (iE2 _ ([]) (iA5 rfl (zf hac2) rfl (λ _ z=>nomatch z) mW)) ?_ ?_
   ·intro j σ H3 hj m9;refine oE2 m9 λ v ks m7=>oA5 m7 λ m8 s3 lk hkk ha3=>?_;clear m7 m9;subst m8;walk_at "a";have x0:=aJ (c + (0 + (j:Int))) (show (1000000000000000000000000000000:Int)≠0 by decide);have x1:=aG (c + (0 + (j:Int))) (show (0:Int) < 1000000000000000000000000000000 by decide);generalize (c + (0 + (j:Int))) % 1000000000000000000000000000000=kk at x0 x1 ⊢;refine ⟨_,iA3 ha3 (zk (by rw [zy];lia)) (iE2 _ (ks ++ [kk]) (iA5 rfl (λ b o hb=>by rw [mX (mY hb hac2)];exact s3 b o hb) (by simp [lk]) ?_ (by rw [mW,qI])))⟩;intro z hz;rcases aH.mp hz with hz|hz
    ·exact hkk z hz
    ·rw [ay.mp hz];exact ⟨x0,x1⟩
   intro σ H3 m9;refine oE2 m9 λ v ks m7=>oA5 m7 λ m8 s3 lk hkk ha3=>?_;clear m7 m9;subst m8;have nac:ac2≠mQ:=(mY ha hac2).symm;refine ⟨_,iA3 (s3 _ _ ha) (zk (by rw [ai];lia)) (iE2 _ (as ++ [ac2]) (iA5 rfl (λ b o hb=>by rw [mX (mY hb hacc)];exact s3 _ _ (s2 b o hb)) (by rw [mW];simp) (by simp [la]) (λ j b h=>?_)))⟩;by_cases hj:j < as.length
   ·rw [aO hj] at h;refine oA2 (hk j b h) λ n1 m7=>oE1 m7 λ kd m8=>oA2 m8 λ h1 h2=>?_;clear m7 m8;exact ⟨n1,⟨kd,⟨by rw [mX n1];exact s3 _ _ h1,h2⟩⟩⟩
   ·rw [aI (by lia)] at h;have:=(aa.mp h).1;rw [show j - as.length=0 by simp at this;lia] at h;cases h;exact ⟨nac,⟨ks,iA4 (by rw [mX nac];exact ha3) (by lia) (by lia) hkk⟩⟩
  intro σ H2 m9;refine oE2 m9 λ v as m7=>oA5 m7 λ m8 s2 ha la hk=>?_;clear m7 m9;subst m8;obtain ⟨q1,q2,rfl⟩:∃ q1 q2,as=[q1,q2]:=by
   match as,la with
   | [x,y],_=>exact ⟨x,y,rfl⟩
  refine oA2 (hk 0 q1 rfl) λ _ m7=>oE1 m7 λ kd1 m8=>oA4 m8 λ h1 k11 k16 kk1=>?_;clear m7 m8;refine oA2 (hk 1 q2 rfl) λ _ m7=>oE1 m7 λ kd2 m8=>oA4 m8 λ h2 k21 k26 kk2=>?_;clear m7 m8;have ha:H2 mQ=some (.lst [V.ref q1,.ref q2]):=ha;clear hk la htc hacc;walk_at "a";refine iE4 a.j _ _ _ ⟨(Z6 T).mono,zu (SqL.of ha) at0 ?_⟩;intro z1 d1 hz1 hd1 _;refine QF hz1 hd1 h1 (by decide) (by decide) k11 k16 kk1 λ H3 s3 w1=>⟨rfl,?_⟩;refine iE4 a.j _ _ _ ⟨(Z6 T).mono,zu (SqL.of (s3 _ _ ha)) (show atI _ 1=some (.ref q2) from rfl) ?_⟩;intro z2 d2 hz2 hd2 _;refine QF hz2 hd2 (s3 _ _ h2) (by decide) (by decide) k21 k26 kk2 λ H4 s4 w2=>⟨rfl,?_⟩;refine iE4 a.k _ _ _ ⟨(Z7 T).mono,?_⟩;intro z3 d3 hz3 hd3 _;refine ZZ hz3 hd3 (by decide) (by decide) λ H5 s5 w3=>⟨rfl,?_⟩;refine iE4 a.k _ _ _ ⟨(Z7 T).mono,?_⟩;intro z4 d4 hz4 hd4 _;refine ZZ hz4 hd4 (by decide) (by decide) λ H6 s6 w4=>⟨rfl,?_⟩;intro R hR;have s7:=zf (o:=.lst [V.ref z1,.ref z2,.ref z3,.ref z4]) hR;have hR7:upd H6 R (.lst [V.ref z1,.ref z2,.ref z3,.ref z4]) R=some (.lst [V.ref z1,.ref z2,.ref z3,.ref z4]):=mW;generalize upd H6 R (.lst [V.ref z1,.ref z2,.ref z3,.ref z4])=H7 at s7 hR7 ⊢;walk_at "a";refine iE4 a.q _ _ _ ⟨(zbV T).mono,(iE4 a.h _ _ _ ⟨(ZE T).mono,?_⟩)⟩;intro b1 f1 hb1 hf1 _;refine vT hb1 hf1 (iA4 (by decide) (by decide) (by decide) (by decide)) λ H8 s8 r1=>⟨rfl,?_⟩;refine iE4 a.h _ _ _ ⟨(ZE T).mono,?_⟩;intro b2 f2 hb2 hf2 _;refine vT hb2 hf2 (iA4 (by decide) (by decide) (by decide) (by decide)) λ H9 s9 r2=>⟨rfl,?_⟩;intro L hL;have s10:=zf (o:=.lst [V.ref b1,.ref b2]) hL;have hL10:upd H9 L (.lst [V.ref b1,.ref b2]) L=some (.lst [V.ref b1,.ref b2]):=mW;generalize upd H9 L (.lst [V.ref b1,.ref b2])=H10 at s10 hL10 ⊢;have tr:∀ {H1 H2:Hp} {p:A7} {v:V} {d:D},Rep H1 p v d->Same H1 H2->Rep H2 (λ _=>True) v d:=λ r s=>r.keep λ b o _ hb=>⟨trivial,s b o hb⟩;have t7:=(s8.trans s9).trans s10;have t6:=s7.trans t7;have t5:=s6.trans t6;have t4:=s5.trans t5;have t3:=s4.trans t4;obtain ⟨o1,o2,o3⟩:=zf9 k11 k16 kk1 k21 k26 kk2;intro z dz hz hdz _;refine Vy (p:=λ _=>True) (q:=λ _=>True) (bs:=[(1,1),(1,1)]) (rs:=[⟨.source,[],[0],3,kd1⟩,⟨.source,[],[1],4,kd2⟩,⟨.drain,[0],[],1,[]⟩,⟨.drain,[1],[],1,[]⟩]) hz hdz hL10 (t7 _ _ hR7) (.cons (tr r1 (s9.trans s10)) (.cons (tr r2 s10) .nil)) (.cons (tr w1 t3) (.cons (tr w2 t4) (.cons (tr w3 t5) (.cons (tr w4 t6) .nil)))) o1 o2 o3 λ H11 s11 r11=>⟨rfl,k _ _ _ _ (((sA.trans s2).trans (s3.trans t3)).trans s11) r11 o1 o2 o3⟩
 walk_at "a";intro L hL;walk_at "a";intro R hR;walk_at "a";intro E hE;walk_at "a";intro B hB;have sH:=(((zf (o:=.lst []) hL).trans (zf (o:=.lst []) hR)).trans (zf (o:=.lst []) hE)).trans (zf (o:=.lst []) hB);have nw:∀ m∈ms4 L R E B,H' m=none:=λ m hm=>by
  simp only [az,bV,cB] at hm;rcases hm with rfl|rfl|rfl|rfl
  ·exact hL
  ·exact zT hR
  ·exact zT (zT hE)
  ·exact zT (zT (zT hB))
 have e1:=mZ (o:=.lst []) (mZ (o:=.lst []) (mZ (o:=.lst []) (mW (H:=H') (a:=L) (o:=.lst [])) hR) hE) hB;have e2:=mZ (o:=.lst []) (mZ (o:=.lst []) (mW (H:=upd H' L (.lst [])) (a:=R) (o:=.lst [])) hE) hB;have e3:=mZ (o:=.lst []) (mW (H:=upd (upd H' L (.lst [])) R (.lst [])) (a:=E) (o:=.lst [])) hB;have e4:upd (upd (upd (upd H' L (.lst [])) R (.lst [])) E (.lst [])) B (.lst []) B=some (.lst []):=mW;have W0:GS a (ms4 L R E B) (upd (upd (upd (upd H' L (.lst [])) R (.lst [])) E (.lst [])) B (.lst [])) (upd (upd (upd (upd H' L (.lst [])) R (.lst [])) E (.lst [])) B (.lst [])) L R E B [] [] [] [] :=
  ⟨Fr.refl,mY mW hR,mY (mZ mW hR) hE,mY (mZ (mZ mW hR) hE) hB,mY mW hE,mY (mZ mW hE) hB,mY mW hB,λ _ h=>h,λ m hm=>by
   simp only [az,bV,cB] at hm;rcases hm with rfl|rfl|rfl|rfl
   ·exact ⟨_,e1⟩
   ·exact ⟨_,e2⟩
   ·exact ⟨_,e3⟩
   ·exact ⟨_,e4⟩,⟨[],e1,.nil⟩,⟨[],e2,.nil⟩,e3,e4⟩
 generalize upd (upd (upd (upd H' L (.lst [])) R (.lst [])) E (.lst [])) B (.lst [])=H1 at sH W0 ⊢;clear e1 e2 e3 e4 hL hR hE hB;walk_at "a";let M4_:St->Hp->Prop:=λ σ' H2=>∃ (v13:As) (bs:A3) (rs:Av) (es ks:A8),σ'=stK l c nu (some (.int mn)) none none none none (some (.ref L)) (some (.ref R)) (some (.ref E)) (some (.ref B)) v13 none/\GS a (ms4 L R E B) H1 H2 L R E B bs rs es ks/\WInv bs rs es ks/\(rs.length=0->bs.length + ks.length=0/\es=[])/\bs.length + ks.length<=21/\rs.length + es.length + ks.length<=22;refine cut M4_ ?_ ?_
 ·walk_at "d";walk_at "a";refine QC (JB sH hl) λ p hp=>?_;obtain ⟨cs,ecs,lcs⟩:=zhG ns mn;rw [ecs];have W1:=W0.same (zf (o:=.lst (iv cs)) hp);have np:=W0.off hp;have gp:upd H1 p (.lst (iv cs)) p=some (.lst (iv cs)):=mW;generalize upd H1 p (.lst (iv cs))=H2 at W1 gp ⊢;refine ⟨p,rfl,.inl ⟨⟨_,SqL.of gp⟩,?_⟩⟩;let M5_:Nat->St->Hp->Prop:=λ i σ' H2=>∃ (v13:As) (bs:A3) (rs:Av) (es ks:A8),σ'=stK l c nu (some (.int mn)) none none none none (some (.ref L)) (some (.ref R)) (some (.ref E)) (some (.ref B)) v13 none/\GS a (ms4 L R E B) H1 H2 L R E B bs rs es ks/\H2 p=some (.lst (iv cs))/\WInv bs rs es ks/\(i=0->bs.length + ks.length=0/\rs.length=0/\es=[])/\(1<=i->bs.length + ks.length + 3<=4 * i/\rs.length + es.length + ks.length + 2<=4 * i/\1<=rs.length);refine qM (K:=K) (a:=p) (xs:=iv cs) M5_
   ⟨_,[],[],[],[],rfl,W1,gp,⟨aU _,aU _,(λ _ z=>nomatch z),(λ _ z=>nomatch z)⟩,λ _=>⟨rfl,rfl,rfl⟩,λ z=>absurd z (by decide)⟩ (λ i σ H' _ h=>by obtain ⟨_,_,_,_,_,_,_,g,_⟩:=h;exact SqL.of g) ?_ ?_
  ·clear W1 gp;intro i x σ' H3 hi m9;refine oE5 m9 λ v13 bs rs es ks m7=>oA6 m7 λ m8 W gp I0 i0 i1=>?_;clear m7 m9;subst m8;obtain ⟨y,hy,rfl⟩:=Zh hi;have hil:=(aa.mp hy).1;have z:i=0\/1<=i:=by lia
   have bb:bs.length<=21/\rs.length<=22/\es.length<=22/\ks.length<=22:=by
    rcases z with z|z
    ·obtain ⟨q1,q2,rfl⟩:=i0 z;exact iA4 (by lia) (by lia) (by simp) (by lia)
    ·have:=i1 z
     lia
   walk_at "a";refine uc (za7 T).mono (iE8 _ L R E B bs rs es (iE3 ks y _ (iA6 rfl W.here I0 (by lia) (by lia) (iA5 (by lia) (by lia) (by lia) (by lia) (λ H4 bs2 rs2 es2 ks2 W2 I2 l1 l2 l3 r1=>?_)))));walk_at "a";refine iE5 _ bs2 rs2 es2 ks2 (iA6 rfl (W.trans W2) (W2.f _ _ np gp) I2 (λ z=>nomatch z) (λ _=>?_));rcases z with z|z
   ·obtain ⟨q1,q2,q3⟩:=i0 z;obtain ⟨n1,n2⟩:=l3 q3;subst q3;simp only [cW] at n2
    lia
   ·have:=i1 z
    lia
  ·intro σ' H3 m9;refine oE5 m9 λ v13 bs rs es ks m7=>oA6 m7 λ m8 W gp I0 i0 i1=>?_;clear m7 m9;subst m8;rw [zy] at i0 i1;have z:cs.length=0\/1<=cs.length:=by lia
   refine iE5 v13 bs rs es ks (iA6 rfl W I0 (λ r0=>?_) ?_ ?_)
   ·rcases z with z|z
    ·exact ⟨(i0 z).1,(i0 z).2.2⟩
    ·have:=i1 z;lia
   ·rcases z with z|z
    ·have:=i0 z;lia
    ·have:=i1 z;lia
   ·rcases z with z|z
    ·obtain ⟨q1,q2,rfl⟩:=i0 z;simp only [cW]
     lia
    ·have:=i1 z;lia
 clear W0;intro σ' H2 m9;refine oE5 m9 λ v13 bs rs es ks m7=>oA6 m7 λ m8 W I0 r0 l1 l2=>?_;clear m7 m9;subst m8;walk_at "a";let M6_:St->Hp->Prop:=λ σ' H2=>∃ (bs:A3) (rs:Av) (es ks:A8),σ'=stK l c nu (some (.int mn)) none none none none (some (.ref L)) (some (.ref R)) (some (.ref E)) (some (.ref B)) v13 none/\GS a (ms4 L R E B) H1 H2 L R E B bs rs es ks/\WInv bs rs es ks/\1<=rs.length/\bs.length + ks.length<=24/\rs.length + es.length + ks.length<=24;refine cut M6_ ?_ ?_
 ·walk_at "a";intro q hq;have W1:=W.same (zf (o:=.lst []) hq);obtain ⟨rv,hR,rR⟩:=W1.hR;have lR:rv.length=rs.length:=by rw [rR.len,ai]
  refine iE3 R q rv (iA5 rfl rfl (SqL.of hR) (SqL.of mW) ?_);rw [lR];generalize upd H2 q (.lst [])=H3 at W1 hR rR ⊢;walk_at "a";refine zN (λ z=>?_) (λ z=>(iE4 bs rs es ks (iA6 rfl W1 I0 (by lia) (by lia) (by lia))));obtain ⟨q1,rfl⟩:=r0 z;simp only [cW] at l2;walk_at "a";refine uc (za7 T).mono (iE8 _ L R E B bs rs ([]) (iE3 ks c _ (iA6 rfl W1.here I0 (by lia) (by lia) (iA5 (by lia) (by lia) (by simp) (by lia) (λ H4 bs2 rs2 es2 ks2 W2 I2 _ _ l3 r1=>?_)))));obtain ⟨n1,n2⟩:=l3 rfl;simp only [cW] at n2;exact iE4 bs2 rs2 es2 ks2 (iA6 rfl (W1.trans W2) I2 r1 (by lia) (by lia))
 clear W I0 r0 l1 l2;intro σ' H2 m9;refine oE4 m9 λ bs rs es ks m7=>oA6 m7 λ m8 W I0 r1 l1 l2=>?_;clear m7 m9;subst m8;walk_at "a";refine uc (zdX T).mono (iE8 _ L R E B bs rs es (iE3 ks c _ (iA8 rfl W.here I0 (by lia) (by lia) l1 l2 (λ H3 bs' rs' es' W2 I2 lb lr rr=>?_))));have W3:=W.trans W2;have sK:Same H' H3:=(sH.fr.trans W3.f).same nw;obtain ⟨bv,hL,rL⟩:=W3.hL;obtain ⟨rv,hR,rR⟩:=W3.hR;have lR:rv.length=rs'.length:=by rw [rR.len,ai]
 clear W W2 I0;walk_at "a";refine ⟨_,.inl ⟨_,SqL.of hR,rfl⟩,?_⟩;rw [lR];refine ⟨by lia,?_⟩;have w0:=aJ (nu / 64) (show (rs'.length:Int)≠0 by lia);have w1:=aG (nu / 64) (show (0:Int) < (rs'.length:Int) by lia);obtain ⟨ct,ect⟩:∃ m:Nat,nu / 64 % (rs'.length:Int)=m:=⟨(nu / 64 % (rs'.length:Int)).toNat,by lia⟩;rw [ect] at w1 ⊢;clear w0 ect;walk_at "a";refine QC (SqL.of hR) λ q1 hq1=>?_;rw [zaV rv ct (by lia)];have a1:=zf (o:=.lst (rv.drop ct)) hq1;refine QC (SqL.of (a1 _ _ hR)) λ q2 hq2=>?_;rw [Xx rv ct];have a2:=zf (o:=.lst (rv.take ct)) hq2;refine Vn (SqL.of (a2 _ _ mW)) (SqL.of mW) (vM (by rw [dA,aS];lia)) λ q3 hq3=>?_;have a3:=zf (o:=.lst (rv.drop ct ++ rv.take ct)) hq3;have sA:=(a1.trans a2).trans a3;have g3:upd (upd (upd H3 q1 (.lst (rv.drop ct))) q2 (.lst (rv.take ct))) q3 (.lst (rv.drop ct ++ rv.take ct)) q3=some (.lst (rv.drop ct ++ rv.take ct)):=mW;generalize upd (upd (upd H3 q1 (.lst (rv.drop ct))) q2 (.lst (rv.take ct))) q3 _=H4 at sA g3 ⊢;clear a1 a2 a3 hq1 hq2 hq3;have tr:∀ {H1 H2:Hp} {p:A7} {vs:Ar} {ds:List D},Reps H1 p vs ds->Same H1 H2->Reps H2 (λ _=>True) vs ds:=λ r s=>r.keep λ b o _ hb=>⟨trivial,s b o hb⟩;have b2:=tr ((rR.drop ct).append (rR.take ct)) sA;rw [<- List.map_drop,<- List.map_take,<- bg] at b2;have pm:=ZR rs' ct;generalize rs'.drop ct ++ rs'.take ct=rs3 at b2 pm;generalize rv.drop ct ++ rv.take ct=rv3 at b2 g3;have rL4:=tr rL sA;have hL4:=sA _ _ hL;have sK4:=sK.trans sA;clear sA hL rL hR rR lR;walk_at "a";let M7_:St->Hp->Prop:=λ σ' H5=>∃ (R':Addr) (rv':Ar) (rs2:Av),σ'=stK l c nu (some (.int mn)) none none none none (some (.ref L)) (some (.ref R')) (some (.ref E)) (some (.ref B)) v13 (some (.int ct))/\Same H4 H5/\H5 R'=some (.lst rv')/\Reps H5 (λ _=>True) rv' (rs2.map (wZ a))/\rs2.Perm rs';refine cut M7_ ?_ ?_
 ·walk_at "a";walk_at "f";walk_at "a";refine zN (λ z=>?_) (λ z=>(iE3 q3 rv3 rs3 (iA5 rfl (Same.refl _) g3 b2 pm)));walk_at "a";refine iE2 q3 _ (iA3 rfl (SqL.of g3) (λ q hq=>?_));have b3:=tr b2.reverse (zf (o:=.lst rv3.reverse) hq);rw [<- List.map_reverse] at b3;walk_at "a";exact iE3 q _ _ (iA5 rfl (zf hq) mW b3 ((List.reverse_perm _).trans pm))
 intro σ' H5 m9;refine oE3 m9 λ R' rv' rs2 m7=>oA5 m7 λ m8 s5 hR5 rR5 pm2=>?_;clear m7 m9;subst m8;obtain ⟨mP,ro⟩:=I2.work pm2 (by lia) (by lia) (by lia);walk_at "a";refine iE4 a.q _ _ _ ⟨(zbV T).mono,?_⟩;intro z dz hz hdz _;exact Vy hz hdz (s5 _ _ hL4) hR5 (tr rL4 s5) rR5 mP I2.bo ro λ H11 s11 r11=>⟨rfl,k _ _ _ _ ((sK4.trans s5).trans s11) r11 mP I2.bo ro⟩
def Told (H:Hp) (v:V) (r:Option Ar):Prop:=match r with
 | none=>v=.non
 | some xs=>∃ p,v=.ref p/\H p=some (.tup xs)
def Told.same {H H':Hp} {r:Option Ar} (h:Told H v r) (s:Same H H'):Told H' v r:=by
 cases r with
 | none=>exact h
 | some xs=>exact let ⟨p,e,hp⟩:=h;⟨p,e,s _ _ hp⟩
theorem Zr:∀ {xs:Ar},xs.all xF=true->xb xs xs=true
 | [],_=>rfl
 | x :: xs,h=>by
  rw [all_cons,cO] at h;show (eqV x x && xb xs xs)=true
  rw [Zr h.2,dX];cases x <;> first|rfl|(simp [eqV];done)|(have:=h.1;cases this)
noncomputable def WZ (side:V) (p:Int) (t:Int) (b:Bool):Option Ar:=if b=true/\t % p=0 then some [.non,.int 0,side] else none
def JC (K:A0) (C:Addr):Sp:=λ vs H Q _=>∃ (y dx l1 l2 l3 fl:Addr) (p t:Int) (hs side:V) (b:Bool) (bs:Ar),vs=[.ref y,hs,.ref fl,.int t,side]/\H y=some (.ins C dx (sf l1 l2 p l3))/\1<=p /\
 SqL K H fl (.bl b :: bs)/\∀ v H',Same H H'->Told H' v (WZ side p t b)->Q v H'
theorem Ja (T:Txt K mg a):MCal P w K mg base a.j "choice" 1 ["self","heads","free","turn","side"] [] (JC K a.j):=T.iI.cal T.gy λ F=>by
 refine F.okx Qo ?_ ?_
 ·walk_at "i"
 walk_at "k";refine oE8 h λ y dx l1 l2 l3 fl p t m7=>oE4 m7 λ hs side b bs m8=>oA5 m8 λ mR hy p1 hf k=>?_;clear m7 m8 h;subst mR;unfold WZ at k;walk_at "T";refine ⟨_,(zg (zD (PW.pt (pw_or (jC (jc (zo (pq 2) zd) (λ _=>rfl))) (pw_or1 (zm (Zd hr.units1) (zt qq (pq 3) (zj (pq 0) rfl)) zd (zr _)))))  (zc (zl zG))  zn)  (zc (zl (qO (za zG (za zd (za (pq 4) zb))))))),?_⟩;walk_at "a";refine zu hf at0 ?_;walk_at "a";cases b with
 | false =>
  rw [ap (by simp)] at k;walk_at "a";exact k _ _ (Same.refl _) rfl
 | true =>
  walk_at "a";refine ra hy T.gy T.gG zfF ?_;walk_at "a";refine zN (λ h=>?_) (λ h=>?_)
  ·rw [ap (λ z=>h z.2)] at k;walk_at "a";exact k _ _ (Same.refl _) rfl
  ·rw [ar ⟨rfl,fI h⟩] at k;walk_at "a";intro q hq;exact k _ _ (zf hq) ⟨q,rfl,mW⟩
noncomputable def zb8 (side:V) (p:Int) (t:Int) (hd:V):Option Ar:=if p=0\/hd=.non\/t % p≠0 then none else some [.int 0,.non,side]
def XM (K:A0) (C:Addr):Sp:=λ vs H Q _=>∃ (y dx l1 l2 hl:Addr) (p t:Int) (fr side:V) (hd:V) (hs:Ar),vs=[.ref y,.ref hl,fr,.int t,side]/\H y=some (.ins C dx (df l1 l2 p))/\0<=p/\p<=4 /\
 SqL K H hl (hd :: hs)/\∀ v H',Same H H'->Told H' v (zb8 side p t hd)->Q v H'
def Xj (T:Txt K mg a):MCal P w K mg base a.k "choice" 1 ["self","heads","free","turn","side"] [] (XM K a.k):=T.iZ.cal T.gI λ F=>by
 refine F.okx Q8 ?_ ?_
 ·walk_at "i"
 walk_at "k";refine oE8 h λ y dx l1 l2 hl p t fr m7=>oE3 m7 λ side hd hs m8=>oA6 m8 λ mR hy p0 p4 hh k=>?_;clear m7 m8 h;subst mR;unfold zb8 at k;walk_at "T";refine ⟨_,(zg (zD (zm (qK hr.units1) (zj (pq 0) rfl) zd (zr _))  (zc (zl zG))  zn)  (zg (zD (PW.pt (pw_or (zm je (zo (pq 1) zd) zG (zr _)) (pw_or1 (zm (Zd hr.units1) (zt qq (pq 3) (zj (pq 0) rfl)) zd (zr _)))))  (zc (zl zG))  zn)  (zc (zl (qO (za zd (za zG (za (pq 4) zb)))))))),?_⟩;walk_at "a";refine ra hy T.gI T.gE VH ?_;walk_at "a";refine zN (λ h1=>?_) (λ h1=>?_)
 ·rw [ar (.inl h1)] at k;walk_at "a";exact k _ _ (Same.refl _) rfl
 ·walk_at "a";refine zu hh at0 ?_;walk_at "a";refine zN (λ h2=>?_) (λ h2=>?_)
  ·rw [ar (.inr (.inl h2))] at k;walk_at "a";exact k _ _ (Same.refl _) rfl
  ·walk_at "a";refine ra hy T.gI T.gE VH ?_;walk_at "a";refine And.intro (by lia) ?_;refine zN (λ h3=>?_) (λ h3=>?_)
   ·rw [ar (.inr (.inr h3))] at k;walk_at "a";exact k _ _ (Same.refl _) rfl
   ·rw [ap (λ z=>z.elim h1 λ z=>z.elim h2 h3)] at k;walk_at "a";intro q hq;exact k _ _ (zf hq) ⟨q,rfl,mW⟩
noncomputable def zgC (n:Nat) (p:Option Nat):Option Ar:=p.map λ (p:Nat)=>[.int 0,.int p,.int ((p + 1) % n:Nat)]
def JD (K:A0) (C:Addr):Sp:=λ vs H Q _=>∃ (y dx l1 l2 hl fl:Addr) (turn:V) (side:Nat) (hd:V) (hs outs:Ar) (bs:Ak),vs=[.ref y,.ref hl,.ref fl,turn,.int side]/\H y=some (.ins C dx (kf l1 l2))/\H l2=some (.lst outs) /\
 SqL K H hl (hd :: hs)/\SqL K H fl (bs.map V.bl)/\bs.length=outs.length/\bs.length<=1000 /\
 ∀ v H',Same H H'->Told H' v (if hd=.non then none else zgC bs.length (jO bs side))->Q v H'
theorem Jc (T:Txt K mg a):MCal P w K mg base a.l "choice" 3 ["self","heads","free","turn","side"] [] (JD K a.l):=T.iK.cal T.gJ λ F=>by
 refine F.okx Qq ?_ ?_
 ·walk_at "i"
 walk_at "k";refine oE8 h λ y dx l1 l2 hl fl turn side m7=>oE4 m7 λ hd hs outs bs m8=>oA8 m8 λ mR hy h2 hh hf hbl hb k=>?_;clear m7 m8 h;subst mR;walk_at "T";refine ⟨_,(zg (zp 5 Qq.nd (zx ⟨rfl,rfl,rfl⟩ hr (za (zo (pq 1) zd) (za (pq 2) (za (pq 4) zb)))))  (zg (zD (zm je (pq 5) zG (zr _))  (zc (zl zG))  zn)  (zc (zl (qO (za zd (za (pq 5) (za (zt qq (zt zJ (pq 5) zd) (z9 zX zW (za (zj (pq 0) rfl) zb))) zb)))))))),?_⟩;walk_at "a";refine iE3 _ _ _ ⟨wq T,zu hh at0 (iE4 hd fl bs side (iA4 rfl hf hb ?_))⟩;by_cases hn:hd=.non
 ·rw [ar hn] at k ⊢;walk_at "a";exact k _ _ (Same.refl _) rfl
 ·rw [ap hn] at k ⊢;cases hp:jO bs side with
  | none =>
   rw [hp] at k;simp only [Za];walk_at "a";exact k _ _ (Same.refl _) rfl
  | some p =>
   rw [hp] at k;simp only [Za];have hlt:=wn hp;walk_at "a";refine ra hy T.gJ T.gH zgb ⟨_,.inl ⟨_,SqL.of h2,rfl⟩,?_⟩;walk_at "a";rw [<- hbl];refine And.intro (by lia) ?_;walk_at "a";intro q hq;have e:((p:Int) + 1) % (bs.length:Int)=(((p + 1) % bs.length:Nat):Int):=by push_cast;rfl
   rw [e];exact k _ _ (zf hq) ⟨q,rfl,mW⟩
noncomputable def zfc (side:V) (p:Option Nat):Option Ar:=p.map λ (p:Nat)=>[.int 0,.int p,side]
def XL (K:A0):Sp:=λ vs H Q _=>∃ (y hl fl:Addr) (turn side:V) (hd:V) (hs:Ar) (bs:Ak),vs=[.ref y,.ref hl,.ref fl,turn,side] /\
 SqL K H hl (hd :: hs)/\SqL K H fl (bs.map V.bl)/\bs.length<=1000/\∀ v H',Same H H'->Told H' v (if hd=.non then none else zfc side (jO bs 0))->Q v H'
theorem vD (T:Txt K mg a):MCal P w K mg base a.m "choice" 3 ["self","heads","free","turn","side"] [] (XL K):=T.g6.cal T.gz λ F=>by
 refine F.okx va ?_ ?_
 ·walk_at "i"
 walk_at "k";refine oE8 h λ y hl fl turn side hd hs bs m7=>oA5 m7 λ m8 hh hf hb k=>?_;clear m7 h;subst m8;walk_at "T";refine ⟨_,(zg (zp 5 va.nd (zx ⟨rfl,rfl,rfl⟩ hr (za (zo (pq 1) zd) (za (pq 2) (za zd zb)))))  (zg (zD (zm je (pq 5) zG (zr _))  (zc (zl zG))  zn)  (zc (zl (qO (za zd (za (pq 5) (za (pq 4) zb)))))))),?_⟩;walk_at "a";refine iE3 _ _ _ ⟨wq T,zu hh at0 (iE4 hd fl bs 0 (iA4 rfl hf hb ?_))⟩;by_cases hn:hd=.non
 ·rw [ar hn] at k ⊢;walk_at "a";exact k _ _ (Same.refl _) rfl
 ·rw [ap hn] at k ⊢;cases hp:jO bs 0 with
  | none =>
   rw [hp] at k;simp only [Za];walk_at "a";exact k _ _ (Same.refl _) rfl
  | some p =>
   rw [hp] at k;simp only [Za];walk_at "a";intro q hq;exact k _ _ (zf hq) ⟨q,rfl,mW⟩
def zfA (C:Addr):Sp:=λ vs H Q _=>∃ (y dx l1 l2:Addr) (n j:Int),vs=[.ref y,.int j]/\H y=some (.ins C dx (vf l1 l2 n))/\Q (.int (if j=n then 0 else 1)) H
def X5 (T:Txt K mg a):MCal P w K mg base a.n "place_for" 1 ["self","kind"] [] (zfA a.n):=T.ik.cal T.gF λ F=>by
 refine F.okx Zu ?_ ?_
 ·walk_at "i"
 walk_at "k";refine oE6 h λ y dx l1 l2 n j m7=>oA3 m7 λ m8 hy k=>?_;clear m7 h;subst m8;walk_at "T";refine ⟨_,(zc (zl (wj (zm (qK hr.units1) (pq 1) (zj (pq 0) rfl) (zr _)) zd zd))),?_⟩;walk_at "a";refine ra hy T.gF T.g8 zfx ?_;walk_at "a";refine zN (λ h=>?_) (λ h=>?_)
 ·rw [ar h] at k;walk_at "a";exact k
 ·rw [ap h] at k;walk_at "a";exact k
noncomputable def zbp (side:V) (n:Int) (bs:Ak) (hd:V):Option Ar:=if hd=.non then none else if bs.getD (if hd=.int n then 0 else 1) false=true then some [.int 0,.int (if hd=.int n then 0 else 1),side] else none
def XJ (K:A0) (C:Addr):Sp:=λ vs H Q _=>∃ (y dx l1 l2 hl fl:Addr) (n:Int) (turn side:V) (hd:V) (hs:Ar) (bs:Ak),vs=[.ref y,.ref hl,.ref fl,turn,side]/\H y=some (.ins C dx (vf l1 l2 n)) /\
 SqL K H hl (hd :: hs)/\(hd=.non\/∃ j,hd=.int j)/\SqL K H fl (bs.map V.bl)/\bs.length=2/\∀ v H',Same H H'->Told H' v (zbp side n bs hd)->Q v H'
theorem Xg (T:Txt K mg a):MCal P w K mg base a.n "choice" 2 ["self","heads","free","turn","side"] [] (XJ K a.n):=T.i6.cal T.gF λ F=>by
 refine F.okx Q5 ?_ ?_
 ·walk_at "i"
 walk_at "k";refine oE8 h λ y dx l1 l2 hl fl n turn m7=>oE4 m7 λ side hd hs bs m8=>oA7 m8 λ mR hy hh hhd hf hb k=>?_;clear m7 m8 h;subst mR;walk_at "T";refine ⟨_,(zg (zD (zm je (zo (pq 1) zd) zG (zr _))  (zc (zl zG))  zn)  (zg (zp 5 Q5.nd (QD ⟨rfl,rfl,rfl⟩ hr (pq 0) (za (zo (pq 1) zd) zb)))  (zg (zD (jC (jc (zo (pq 2) (pq 5)) (λ _=>rfl)))  (zc (zl zG))  zn)  (zc (zl (qO (za zd (za (pq 5) (za (pq 4) zb))))))))),?_⟩;walk_at "a";refine zu hh at0 ?_;rcases hhd with rfl|⟨j,rfl⟩
 ·walk_at "a";exact k _ _ (Same.refl _) rfl
 ·walk_at "a";refine iE7 y a.n dx _ _ _ _ (iA5 rfl hy (zhU (by decide +kernel) (by decide +kernel) (by decide +kernel)) (X5 T) (zu hh at0 (iE6 y dx l1 l2 n j (iA3 rfl hy ?_))));walk_at "a";obtain ⟨pp,hpp,hp2⟩:∃ pp:Nat,(if j=n then (0:Int) else 1)=pp/\pp < 2:=by split;exact ⟨0,rfl,by decide⟩;exact ⟨1,rfl,by decide⟩
  have e1:(if V.int j=V.int n then (0:Nat) else 1)=pp:=by
   by_cases h:j=n
   ·rw [ar h] at hpp;rw [ar (by rw [h])];lia
   ·rw [ap h] at hpp;rw [ap (λ z=>h (by cases z;rfl))];lia
  have e2:(if V.int j=V.int n then (0:Int) else 1)=pp:=by
   by_cases h:j=n
   ·rw [ar h] at hpp;rw [ar (by rw [h])];lia
   ·rw [ap h] at hpp;rw [ap (λ z=>h (by cases z;rfl))];lia
  rw [hpp];have hlt:pp < bs.length:=by lia
  refine zu hf (zE (by rw [am,ac hlt];rfl)) ?_;have eg:bs.getD pp false=bs[pp]:=by simp [hlt]
  unfold zbp at k;rw [ap (by intro z;cases z),e1,e2,eg] at k;walk_at "a";cases hbb:bs[pp] with
  | true =>
   rw [hbb,ar rfl] at k;walk_at "a";intro q hq;exact k _ _ (zf hq) ⟨q,rfl,mW⟩
  | false =>
   rw [hbb,ap (by decide)] at k;walk_at "a";exact k _ _ (Same.refl _) rfl
noncomputable def zgF (n:Nat) (p:Option Nat):Option Ar:=p.map λ (p:Nat)=>[.int p,.int 0,.int ((p + 1) % n:Nat)]
noncomputable def there (hs:Ar):List Bool:=hs.map λ h=>!decide (h=.non)
def JF (K:A0) (C:Addr):Sp:=λ vs H Q _=>∃ (y dx l1 l2 hl fl:Addr) (turn:V) (side:Nat) (hs ins:Ar) (b:Bool) (bs:Ar),vs=[.ref y,.ref hl,.ref fl,turn,.int side]/\H y=some (.ins C dx (kf l1 l2))/\H l1=some (.lst ins) /\
 SqL K H hl hs/\SqL K H fl (.bl b :: bs)/\hs.length=ins.length/\hs.length<=900/\∀ v H',Same H H'->Told H' v (if b=true then zgF hs.length (jO (there hs) side) else none)->Q v H'
theorem Je (T:Txt K mg a):MCal P w K mg base a.o "choice" 2 ["self","heads","free","turn","side"] [] (JF K a.o):=T.iM.cal T.gL λ F=>by
 refine F.okx Qs ?_ ?_
 ·walk_at "i"
 walk_at "k";refine oE8 h λ y dx l1 l2 hl fl turn side m7=>oE4 m7 λ hs ins b bs m8=>oA8 m8 λ mR hy h1 hh hf hlen hb k=>?_;clear m7 m8 h;subst mR;walk_at "T";refine ⟨_,(zg (zD (jC (jc (zo (pq 2) zd) (λ _=>rfl)))  (zc (zl zG))  zn)  (zg (zp 5 Qs.nd (zx ⟨rfl,rfl,rfl⟩ hr (za (jG (vars:=["head"]) (caps:=[]) (N:=["head"]) (ON:=["self","heads","free","turn","side","place"]) (osc:=ze jq) rfl rfl (by first|decide +kernel|kernel_rfl) rfl rfl (qm (pq 1)) (λ _ _ _ _=>(qg 0 (show (["head"]:Aa).Nodup from by decide +kernel))) (λ _ _ _ _=>qe) (λ _ _ _ _=>(Vp op_notN (pq 0) zG (zr _)))) (za (pq 4) zb))))  (zg (zD (zm je (pq 5) zG (zr _))  (zc (zl zG))  zn)  (zc (zl (qO (za (pq 5) (za zd (za (zt qq (zt zJ (pq 5) zd) (z9 zX zW (za (zj (pq 0) rfl) zb))) zb))))))))),?_⟩;walk_at "a";refine zu hf at0 ?_;walk_at "a";cases b with
 | false =>
  rw [ap (by decide)] at k;walk_at "a";exact k _ _ (Same.refl _) rfl
 | true =>
  rw [ar rfl] at k;walk_at "a";refine iE3 _ _ _ ⟨Zk T,?_⟩;walk_at "e";walk_at "a";refine ⟨hl,rfl,.inl ⟨⟨_,hh⟩,λ _ _ _ _ mQ hacc=>?_⟩⟩;refine qM (K:=K) (a:=hl) (xs:=hs) (λ i σ H'=>∃ (v:As),σ=[v]/\Same H H'/\H' mQ=some (.lst ((there (hs.take i)).map V.bl))) ⟨_,iA3 rfl (zf hacc) mW⟩ (λ i σ H' _ ⟨_,_,s,_⟩=>s.seq hh) ?_ ?_
  ·intro i x σ H' hi m9;refine oE1 m9 λ v m7=>oA3 m7 λ m8 s ha=>?_;clear m7 m9;subst m8;walk_at "a";refine ⟨_,iA3 ha ?_ ⟨_,iA3 rfl ?_ ?_⟩⟩
   ·simp only [there,ai,aS];exact zk (by lia)
   ·intro b o hb;rw [mX (mY hb hacc)];exact s b o hb
   ·rw [mW,fX,hi];simp [there]
  ·intro σ H' m9;refine oE1 m9 λ v m7=>oA3 m7 λ m8 s ha=>?_;clear m7 m9;subst m8;rw [aR] at ha;refine iE3 mQ (there hs) side (iA4 rfl (SqL.of ha) (by simp [there];lia) ?_);have hlt:(there hs).length=hs.length:=by simp [there]
   cases hp:jO (there hs) side with
   | none =>
    rw [hp] at k;simp only [Za];walk_at "a";exact k _ _ s rfl
   | some p =>
    rw [hp] at k;simp only [Za];have hlt':=wn hp;walk_at "a";refine ra (s _ _ hy) T.gL T.gM zhm ⟨_,.inl ⟨_,SqL.of (s _ _ h1),rfl⟩,?_⟩;walk_at "a";rw [<- hlen];refine And.intro (by lia) ?_;walk_at "a";intro q hq;have e:((p:Int) + 1) % (hs.length:Int)=(((p + 1) % hs.length:Nat):Int):=by push_cast;rfl
    rw [e];exact k _ _ (s.trans (zf hq)) ⟨q,rfl,mW⟩
def MCal.imp {m:Str} {dvs:Ar} {sp sp':Sp} (c:MCal P w K mg base C m k ps dvs sp) (h:∀ vs H Q E,sp' vs H Q E->sp vs H Q E):MCal P w K mg base C m k ps dvs sp' :=
 let ⟨f,fd,ds,x,y⟩:=c.ex;⟨c.cl,f,fd,ds,x.imp h,y⟩
def VF {k:Str} {ks:Aa} (n:fs.map (·.1)=k :: ks):∃ v gs,fs=(k,v) :: gs/\gs.map (·.1)=ks:=by
 cases fs with
 | nil=>cases n
 | cons x gs =>
  obtain ⟨k',v⟩:=x;injection n with n1 n2
  exact ⟨v,gs,by rw [<- n1],n2⟩
def zhy (n:fs.map (·.1)=[]):fs=[]:=List.map_eq_nil_iff.mp n
def fs2 {k1 k2:Str} {d1 d2:D} (n:fs.map (·.1)=[k1,k2]) (g:∀ (i:Nat) f g,fs[i]?=some f->[(k1,d1),(k2,d2)][i]?=some g->Rep H p f.2 g.2):∃ v1 v2,fs=[(k1,v1),(k2,v2)]/\Rep H p v1 d1/\Rep H p v2 d2:=by
 obtain ⟨v1,f1,rfl,n1⟩:=VF n;obtain ⟨v2,f2,rfl,n2⟩:=VF n1;obtain rfl:=zhy n2;exact ⟨v1,v2,rfl,g 0 _ _ rfl rfl,g 1 _ _ rfl rfl⟩
section
variable {H:Hp} {p:A7} {y:Addr} {ins outs kinds:A8} {pace:Int}
def KnP.parter (h:KnP a H p (.ref y) ⟨.parter,ins,outs,pace,kinds⟩):∃ dx l1 l2,H y=some (.ins a.l dx (kf l1 l2))/\H l2=some (.lst (iv outs)):=by
 cases h with|ob _ hy n g =>
  obtain ⟨v1,v2,rfl,r1,r2⟩:=fs2 n g;obtain ⟨l1,rfl,_,_⟩:=r1.ints';obtain ⟨l2,rfl,_,h2⟩:=r2.ints';exact ⟨_,l1,l2,by rw [Xl];exact hy,h2⟩
end
def fs3 {k1 k2 k3:Str} {d1 d2 d3:D} (n:fs.map (·.1)=[k1,k2,k3]) (g:∀ (i:Nat) f g,fs[i]?=some f->[(k1,d1),(k2,d2),(k3,d3)][i]?=some g->Rep H p f.2 g.2):∃ v1 v2 v3,fs=[(k1,v1),(k2,v2),(k3,v3)]/\Rep H p v1 d1/\Rep H p v2 d2/\Rep H p v3 d3:=by
 obtain ⟨v1,f1,rfl,n1⟩:=VF n;obtain ⟨v2,f2,rfl,n2⟩:=VF n1;obtain ⟨v3,f3,rfl,n3⟩:=VF n2;obtain rfl:=zhy n3;exact ⟨v1,v2,v3,rfl,g 0 _ _ rfl rfl,g 1 _ _ rfl rfl,g 2 _ _ rfl rfl⟩
def fs4 {k1 k2 k3 k4:Str} {d1 d2 d3 d4:D} (n:fs.map (·.1)=[k1,k2,k3,k4]) (g:∀ (i:Nat) f g,fs[i]?=some f->[(k1,d1),(k2,d2),(k3,d3),(k4,d4)][i]?=some g->Rep H p f.2 g.2):∃ v1 v2 v3 v4,fs=[(k1,v1),(k2,v2),(k3,v3),(k4,v4)]/\Rep H p v1 d1/\Rep H p v2 d2/\Rep H p v3 d3/\Rep H p v4 d4:=by
 obtain ⟨v1,f1,rfl,n1⟩:=VF n;obtain ⟨v2,f2,rfl,n2⟩:=VF n1;obtain ⟨v3,f3,rfl,n3⟩:=VF n2;obtain ⟨v4,f4,rfl,n4⟩:=VF n3;obtain rfl:=zhy n4;exact ⟨v1,v2,v3,v4,rfl,g 0 _ _ rfl rfl,g 1 _ _ rfl rfl,g 2 _ _ rfl rfl,g 3 _ _ rfl rfl⟩
section
variable {H:Hp} {p:A7} {y:Addr} {ins outs kinds:A8} {pace:Int}
def KnP.source (h:KnP a H p (.ref y) ⟨.source,ins,outs,pace,kinds⟩):∃ dx l1 l2 l3,H y=some (.ins a.j dx (sf l1 l2 pace l3)):=by
 cases h with|ob _ hy n g =>
  obtain ⟨v1,v2,v3,v4,rfl,r1,r2,r3,r4⟩:=fs4 n g;obtain ⟨l1,rfl,_,_⟩:=r1.ints';obtain ⟨l2,rfl,_,_⟩:=r2.ints';cases r3;obtain ⟨l4,rfl,_,_⟩:=r4.ints';exact ⟨_,l1,l2,l4,by rw [zgy];exact hy⟩
def KnP.drain (h:KnP a H p (.ref y) ⟨.drain,ins,outs,pace,kinds⟩):∃ dx l1 l2,H y=some (.ins a.k dx (df l1 l2 pace)):=by
 cases h with|ob _ hy n g =>
  obtain ⟨v1,v2,v3,rfl,r1,r2,r3⟩:=fs3 n g;obtain ⟨l1,rfl,_,_⟩:=r1.ints';obtain ⟨l2,rfl,_,_⟩:=r2.ints';cases r3;exact ⟨_,l1,l2,by rw [zfg];exact hy⟩
def KnP.sieve {k:Int} (h:KnP a H p (.ref y) ⟨.sieve,ins,outs,pace,[k]⟩):∃ dx l1 l2,H y=some (.ins a.n dx (vf l1 l2 k)):=by
 cases h with|ob _ hy n g =>
  obtain ⟨v1,v2,v3,rfl,r1,r2,r3⟩:=fs3 n g;obtain ⟨l1,rfl,_,_⟩:=r1.ints';obtain ⟨l2,rfl,_,_⟩:=r2.ints';cases r3;exact ⟨_,l1,l2,by rw [zgt];exact hy⟩
def KnP.joiner (h:KnP a H p (.ref y) ⟨.joiner,ins,outs,pace,kinds⟩):∃ dx l1 l2,H y=some (.ins a.o dx (kf l1 l2))/\H l1=some (.lst (iv ins)):=by
 cases h with|ob _ hy n g =>
  obtain ⟨v1,v2,rfl,r1,r2⟩:=fs2 n g;obtain ⟨l1,rfl,_,h1⟩:=r1.ints';obtain ⟨l2,rfl,_,_⟩:=r2.ints';exact ⟨_,l1,l2,by rw [Xl];exact hy,h1⟩
end
noncomputable def hdV:Option Int->V
 | none=>.non
 | some k=>.int k
noncomputable def qh (r:Row) (hs:List Ab) (bs:Ak) (t:Int) (side:Nat):Option Am:=match r.wd with
 | .source=>if bs.getD 0 false=true/\t % r.pace=0 then some (none,some 0,side) else none
 | .drain=>if r.pace=0\/hs.getD 0 none=none\/t % r.pace≠0 then none else some (some 0,none,side)
 | .parter=>if hs.getD 0 none=none then none else (jO bs side).map λ p=>(some 0,some p,(p + 1) % bs.length)
 | .first=>if hs.getD 0 none=none then none else (jO bs 0).map λ p=>(some 0,some p,side)
 | .sieve=>if hs.getD 0 none=none then none else if bs.getD (if hs.getD 0 none=some (r.kinds.headD 0) then 0 else 1) false=true then some (some 0,some (if hs.getD 0 none=some (r.kinds.headD 0) then 0 else 1),side) else none
 | .joiner=>if bs.getD 0 false=true then (jO (hs.map Option.isSome) side).map λ p=>(some p,some 0,(p + 1) % hs.length) else none
noncomputable def chV (x:Am):List V:=[Za x.1,Za x.2.1,.int (x.2.2:Nat)]
def zen (K:A0) (a:Ad) (wd:Wd):Sp:=λ vs H Q _=>∃ (y hl fl:Addr) (r:Row) (p:A7) (hs:List Ab) (bs:Ak) (t:Int) (side:Nat),vs=[.ref y,.ref hl,.ref fl,.int t,.int side]/\KnP a H p (.ref y) r/\r.wd=wd/\r.ok /\
 H hl=some (.lst (hs.map hdV))/\H fl=some (.lst (bs.map V.bl))/\hs.length=r.ins.length/\bs.length=r.outs.length/\∀ v H',Same H H'->Told H' v ((qh r hs bs t side).map chV)->Q v H'
def Jv {x:Ab}:(hdV x=.non)=(x=none):=by
 cases x <;> simp [hdV]
def zd8 (hs:List Ab):there (hs.map hdV)=hs.map Option.isSome:=by
 simp only [there,eQ]
 congr 1
 funext x
 cases x <;> simp [hdV]
def zeQ (T:Txt K mg a) (wd:Wd):MCal P w K mg base (wo a wd) "choice" 3 ["self","heads","free","turn","side"] [] (zen K a wd):=by
 cases wd with
 | source =>
  refine MCal.imp (Ja T).mono λ vs H Q E h=>?_;obtain ⟨y,hl,fl,⟨wd,ins,outs,pace,kinds⟩,p,hs,bs,t,side,rfl,hK,hw,ok,hh,hf,l1,l2,k⟩:=h;simp only at hw;subst hw;obtain ⟨dx,m1,m2,m3,hy⟩:=hK.source;obtain ⟨_,⟨o,eo⟩,p1,_⟩:=ok;simp only at eo p1 l2;subst eo
  match bs,l2 with
  | [b],_ =>
   refine ⟨y,dx,m1,m2,m3,fl,pace,t,_,_,b,[],rfl,hy,p1,SqL.of hf,λ v H' s ht=>k v H' s ?_⟩;unfold WZ at ht;simp only [qh];by_cases hc:b=true/\t % pace=0
   ·rw [ar hc] at ht;rw [ar (by simpa using hc)];exact ht
   ·rw [ap hc] at ht;rw [ap (by simpa using hc)];exact ht
 | drain =>
  refine MCal.imp (Xj T).mono λ vs H Q E h=>?_;obtain ⟨y,hl,fl,⟨wd,ins,outs,pace,kinds⟩,p,hs,bs,t,side,rfl,hK,hw,ok,hh,hf,l1,l2,k⟩:=h;simp only at hw;subst hw;obtain ⟨dx,m1,m2,hy⟩:=hK.drain;obtain ⟨⟨o,eo⟩,_,p1,p4⟩:=ok;simp only at eo p1 p4 l1;subst eo
  match hs,l1 with
  | [hd],_ =>
   refine ⟨y,dx,m1,m2,hl,pace,t,_,_,hdV hd,[],rfl,hy,p1,p4,SqL.of hh,λ v H' s ht=>k v H' s ?_⟩;unfold zb8 at ht;simp only [Jv] at ht;simp only [qh];by_cases hc:pace=0\/hd=none\/t % pace≠0
   ·rw [ar hc] at ht;rw [ar (by simpa using hc)];exact ht
   ·rw [ap hc] at ht;rw [ap (by simpa using hc)];exact ht
 | parter =>
  refine MCal.imp (Jc T).mono λ vs H Q E h=>?_;obtain ⟨y,hl,fl,⟨wd,ins,outs,pace,kinds⟩,p,hs,bs,t,side,rfl,hK,hw,ok,hh,hf,l1,l2,k⟩:=h;simp only at hw;subst hw;obtain ⟨dx,m1,m2,hy,h2⟩:=hK.parter;obtain ⟨⟨o,eo⟩,q1,q2⟩:=ok;simp only at eo l1 l2 q1 q2;subst eo
  match hs,l1 with
  | [hd],_ =>
   refine ⟨y,dx,m1,m2,hl,fl,_,side,hdV hd,[],iv outs,bs,rfl,hy,h2,SqL.of hh,SqL.of hf,by rw [zy];exact l2,by lia,λ v H' s ht=>k v H' s ?_⟩;simp only [Jv] at ht;simp only [qh];by_cases hc:hd=none
   ·rw [ar hc] at ht;rw [ar (by simpa using hc)];exact ht
   ·rw [ap hc] at ht;rw [ap (by simpa using hc)];unfold zgC at ht;rw [eU];exact ht
 | first =>
  refine MCal.imp (vD T).mono λ vs H Q E h=>?_;obtain ⟨y,hl,fl,⟨wd,ins,outs,pace,kinds⟩,p,hs,bs,t,side,rfl,hK,hw,ok,hh,hf,l1,l2,k⟩:=h;simp only at hw;subst hw;obtain ⟨⟨o,eo⟩,q1,q2⟩:=ok;simp only at eo l1 l2 q1 q2;subst eo
  match hs,l1 with
  | [hd],_ =>
   refine ⟨y,hl,fl,_,_,hdV hd,[],bs,rfl,SqL.of hh,SqL.of hf,by lia,λ v H' s ht=>k v H' s ?_⟩;simp only [Jv] at ht;simp only [qh];by_cases hc:hd=none
   ·rw [ar hc] at ht;rw [ar (by simpa using hc)];exact ht
   ·rw [ap hc] at ht;rw [ap (by simpa using hc)];unfold zfc at ht;rw [eU];exact ht
 | sieve =>
  refine MCal.imp (Xg T).mono λ vs H Q E h=>?_;obtain ⟨y,hl,fl,⟨wd,ins,outs,pace,kinds⟩,p,hs,bs,t,side,rfl,hK,hw,ok,hh,hf,l1,l2,k⟩:=h;simp only at hw;subst hw;obtain ⟨⟨o,eo⟩,q1,kk,q2,_⟩:=ok;simp only at eo l1 l2 q1 q2;subst eo q2;obtain ⟨dx,m1,m2,hy⟩:=hK.sieve
  match hs,l1 with
  | [hd],_ =>
   refine ⟨y,dx,m1,m2,hl,fl,kk,_,_,hdV hd,[],bs,rfl,hy,SqL.of hh,by cases hd;exact .inl rfl;exact .inr ⟨_,rfl⟩,SqL.of hf,by lia,λ v H' s ht=>k v H' s ?_⟩;unfold zbp at ht;simp only [Jv] at ht;simp only [qh];by_cases hc:hd=none
   ·rw [ar hc] at ht;rw [ar (by simpa using hc)];exact ht
   ·rw [ap hc] at ht;rw [ap (by simpa using hc)];have e:(hdV hd=.int kk)=([hd].getD 0 none=some (List.headD [kk] 0)):=by
     cases hd with
     | none=>exact absurd rfl hc
     | some x=>simp [hdV]
    have e1:(if hdV hd=V.int kk then (0:Nat) else 1)=(if [hd].getD 0 none=some (List.headD [kk] 0) then 0 else 1):=by simp only [e]
    have e2:(if hdV hd=V.int kk then (0:Int) else 1)=((if [hd].getD 0 none=some (List.headD [kk] 0) then 0 else 1:Nat):Int):=by simp only [e];split <;> rfl
    rw [e1,e2] at ht;generalize (if [hd].getD 0 none=some (List.headD [kk] 0) then 0 else 1)=q at ht ⊢;by_cases hb:bs.getD q false=true
    ·rw [ar hb] at ht ⊢;exact ht
    ·rw [ap hb] at ht ⊢;exact ht
 | joiner =>
  refine MCal.imp (Je T).mono λ vs H Q E h=>?_;obtain ⟨y,hl,fl,⟨wd,ins,outs,pace,kinds⟩,p,hs,bs,t,side,rfl,hK,hw,ok,hh,hf,l1,l2,k⟩:=h;simp only at hw;subst hw;obtain ⟨⟨o,eo⟩,q1,q2⟩:=ok;simp only at eo l1 l2 q1 q2;subst eo;obtain ⟨dx,m1,m2,hy,h1⟩:=hK.joiner
  match bs,l2 with
  | [b],_ =>
   refine ⟨y,dx,m1,m2,hl,fl,_,side,hs.map hdV,iv ins,b,[],rfl,hy,h1,SqL.of hh,SqL.of hf,by rw [ai,zy];exact l1,by rw [ai];lia,λ v H' s ht=>k v H' s ?_⟩;rw [zd8,ai] at ht;simp only [qh];by_cases hc:b=true
   ·rw [ar hc] at ht;rw [ar (by simpa using hc)];unfold zgF at ht;rw [eU];exact ht
   ·rw [ap hc] at ht;rw [ap (by simpa using hc)];exact ht
abbrev zC:=Option (Int × Int)
abbrev Ax:=List zC
abbrev Aw:=List Ax
noncomputable def qa:zC->D
 | none=>.non
 | some (s,n)=>.tup [.int s,.int n]
def zdH (x:zC):Hard (qa x):=by
 cases x with
 | none=>exact .non
 | some x =>
  refine .tup λ i d h=>?_;have:d∈[D.int x.1,D.int x.2]:=ah h;simp at this;rcases this with rfl|rfl <;> exact .int
structure PSt where
 turn:Int
 cells:List Ax
 sides:List Int
 gone:List A8
noncomputable abbrev zI (cs:Aw):List (List D):=cs.map λ c=>c.map qa
noncomputable abbrev qk (gs:List A8):List (List D):=gs.map λ g=>g.map D.int
noncomputable def stF (st:PSt):List (Str × D):=[("turn",.int st.turn),("cells",.lst ((zI st.cells).map D.lst)),("sides",.ints st.sides),("gone",.lst ((qk st.gone).map D.lst))]
noncomputable def Xw (a:Ad) (st:PSt):D:=.ob a.b (stF st)
def VY (st:PSt):(stF st).lookup ("turn":Str)=some (.int st.turn):=jf
def Wg (st:PSt):(stF st).lookup ("cells":Str)=some (.lst ((zI st.cells).map D.lst)):=(zU (by decide +kernel)).trans jf
def Wf (st:PSt):(stF st).lookup ("sides":Str)=some (.ints st.sides):=(zU (by decide +kernel)).trans ((zU (by decide +kernel)).trans jf)
def VZ (st:PSt):(stF st).lookup ("gone":Str)=some (.lst ((qk st.gone).map D.lst)):=(zU (by decide +kernel)).trans ((zU (by decide +kernel)).trans ((zU (by decide +kernel)).trans jf))
noncomputable def sff (t:Int) (lc ls lg:Addr):List (Str × V):=[(("turn":Str),V.int t),(("cells":Str),V.ref lc),(("sides":Str),V.ref ls),(("gone":Str),V.ref lg)]
def ziD {t:Int}:zQ "turn" (.int t) []=([(("turn":Str),V.int t)]:At):=rfl
def ziC {t:Int} {lc:Addr}:zQ "cells" (.ref lc) [(("turn":Str),V.int t)]=([(("turn":Str),V.int t),(("cells":Str),V.ref lc)]:At):=by
 simp only [zQ];rw [ap (by decide +kernel)]
def ziB {t:Int} {lc ls:Addr}:zQ "sides" (.ref ls) [(("turn":Str),V.int t),(("cells":Str),V.ref lc)]=([(("turn":Str),V.int t),(("cells":Str),V.ref lc),(("sides":Str),V.ref ls)]:At):=by
 simp only [zQ];rw [ap (by decide +kernel),ap (by decide +kernel)]
def ziA {t:Int} {lc ls lg:Addr}:zQ "gone" (.ref lg) [(("turn":Str),V.int t),(("cells":Str),V.ref lc),(("sides":Str),V.ref ls)]=sff t lc ls lg:=by
 unfold sff;simp only [zQ];rw [ap (by decide +kernel),ap (by decide +kernel),ap (by decide +kernel)]
structure SN where
 dx:Addr
 lc:Addr
 ls:Addr
 lg:Addr
 acs:List Addr
 ags:List Addr
noncomputable def SN.all (n:SN):List Addr:=n.ls :: n.lc :: n.lg :: (n.acs ++ n.ags)
structure StO (a:Ad) (H:Hp) (y:Addr) (n:SN) (st:PSt):Prop where
 hy:H y=some (.ins a.b n.dx (sff st.turn n.lc n.ls n.lg))
 hc:NL H (z7 H) n.lc n.acs (zI st.cells)
 hs:H n.ls=some (.lst (iv st.sides))
 hg:NL H (z7 H) n.lg n.ags (qk st.gone)
 nd:n.all.Nodup
def StO.rep {y:Addr} {n:SN} {st:PSt} (h:StO a H y n st):Rep H (Off []) (.ref y) (Xw a st) :=
 wL (λ z=>nomatch z) h.hy rfl (.cons .int (.cons h.hc.rep (.cons (qj (λ z=>nomatch z) h.hs) (.cons h.hg.rep .nil))))
def StO.same {H H':Hp} {y:Addr} {n:SN} {st:PSt} (h:StO a H y n st) (s:Same H H'):StO a H' y n st :=
 ⟨s _ _ h.hy,h.hc.keep (λ b o _ hb=>s b o hb) (λ b ⟨xs,hx⟩ _=>⟨xs,s _ _ hx⟩),s _ _ h.hs,h.hg.keep (λ b o _ hb=>s b o hb) (λ b ⟨xs,hx⟩ _=>⟨xs,s _ _ hx⟩),h.nd⟩
def vd (a:Ad):Sp:=λ vs H Q _=>∃ (y dx:Addr) (vc vs' vg:V) (st:PSt) (p:A7),vs=[.ref y,.int st.turn,vc,vs',vg]/\H y=some (.ins a.b dx [])/\(∀ b,p b->b≠y) /\
 Rep H p vc (.lst ((zI st.cells).map D.lst))/\Rep H p vs' (.ints st.sides)/\Rep H p vg (.lst ((qk st.gone).map D.lst))/\st.cells.length<=100/\st.gone.length<=100 /\
 ∀ H' n,n.dx=dx->Own H H' y->StO a H' y n st->(∀ b∈n.all,H b=none)->Q .non H'
def zao {ds:List D} (h:Reps H p vs ds) (hd:∀ d∈ds,Hard d):Reps H (z7 H) vs ds :=
 ⟨h.len,λ i v d e1 e2=>(h.g i v d e1 e2).hard (hd d (ah e2)) λ b xs _ hb=>⟨xs,hb⟩⟩
def zb1 (c:Ax):∀ d∈c.map qa,Hard d:=λ d hd=>by
 obtain ⟨x,_,rfl⟩:=be.mp hd;exact zdH x
def zdI (c:A8):∀ d∈c.map D.int,Hard d:=λ d hd=>by
 obtain ⟨x,_,rfl⟩:=be.mp hd;exact .int
def X1 (T:Txt K mg a) (F:Fun K "__init__" "State.__init__" jk f fd):FnOk P w K mg base (CXr P w) 1 f fd ["self","turn","cells","sides","gone"] (vd a):=by
 refine F.okx XX ?_ ?_
 ·walk_at "i"
 walk_at "j";refine oE7 h λ y dx vc vs' vg st p m7=>oA9 m7 λ m8 hy hp rc rs rg lc lg k=>?_;clear m7 h;subst m8;refine oE2 rc.lst' λ c0 ucs m7=>oA4 m7 λ m8 pc0 hc0 rcs=>?_;clear m7;subst m8;refine oE1 rs.ints' λ s0 m7=>oA3 m7 λ m8 ps0 hs0=>?_;clear m7;subst m8;have hs0:H s0=some (.lst (iv st.sides)):=hs0;refine oE2 rg.lst' λ g0 ugs m7=>oA4 m7 λ m8 pg0 hg0 rgs=>?_;clear m7;subst m8;have lcs:ucs.length=st.cells.length:=by rw [rcs.len,ai,ai]
 have lgs:ugs.length=st.gone.length:=by rw [rgs.len,ai,ai]
 walk_at "T";refine ⟨_,(zh (qQ (pq 0) (pq 1) rfl)  (zh (qQ (pq 0) (jG (vars:=["belt_cells"]) (caps:=[]) (N:=["belt_cells"]) (ON:=["self","turn","cells","sides","gone"]) (osc:=ze jk) rfl rfl (by first|decide +kernel|kernel_rfl) rfl rfl (qm (pq 2)) (λ _ _ _ _=>(qg 0 (show (["belt_cells"]:Aa).Nodup from by decide +kernel))) (λ _ _ _ _=>qe) (λ _ _ _ _=>(vx vX xU (za (pq 0) zb)))) rfl)  (zh (qQ (pq 0) (vx vX xU (za (pq 3) zb)) rfl)  (zc (qQ (pq 0) (jG (vars:=["counts"]) (caps:=[]) (N:=["counts"]) (ON:=["self","turn","cells","sides","gone"]) (osc:=ze jk) rfl rfl (by first|decide +kernel|kernel_rfl) rfl rfl (qm (pq 4)) (λ _ _ _ _=>(qg 0 (show (["counts"]:Aa).Nodup from by decide +kernel))) (λ _ _ _ _=>qe) (λ _ _ _ _=>(vx vX xU (za (pq 0) zb)))) rfl))))),?_⟩;walk_at "a";refine iE4 y a.b dx ([]) (iA6 rfl hy T.ad T.dl (by decide) ?_);rw [ziD];have o1:Own H (upd H y (.ins a.b dx [(("turn":Str),V.int st.turn)])) y:=jr;have y1:upd H y (.ins a.b dx [(("turn":Str),V.int st.turn)]) y=some (.ins a.b dx [(("turn":Str),V.int st.turn)]):=mW;generalize upd H y (.ins a.b dx [(("turn":Str),V.int st.turn)])=H1 at o1 y1 ⊢;have kp:∀ b,z7 H b->H b≠none->b≠y:=λ b ⟨xs,hx⟩ _ z=>by rw [z,hy] at hx;cases hx
 walk_at "e";walk_at "a";refine ⟨c0,rfl,.inl ⟨⟨_,SqL.of (o1 _ _ (hp _ pc0) hc0)⟩,λ _ _ _ _ mQ hacc=>?_⟩⟩;let mS:Nat->St->Hp->Prop:=λ i σ H'=>∃ (v0:As) (as:Ae),σ=[v0]/\Same H1 H'/\NL H' (z7 H) mQ as (zI (st.cells.take i))/\∀ b∈as,H1 b=none;refine qM (K:=K) (a:=c0) (xs:=ucs) mS (iE2 _ ([]) (iA4 rfl (zf hacc) (by rw [bZ];exact zbM mW) (by simp))) (λ i σ H' _ h=>by obtain ⟨_,_,_,s,_⟩:=h;exact SqL.of (s _ _ (o1 _ _ (hp _ pc0) hc0))) ?_ ?_
 ·intro i x σ H2 hi m9;refine oE2 m9 λ v0 as m7=>oA4 m7 λ m8 s2 nl fr=>?_;clear m7 m9;subst m8;obtain ⟨d,hd,rx⟩:=rcs.at hi;rw [am,am] at hd;obtain ⟨c,hc⟩:∃ c,st.cells[i]?=some c:=by
   cases e:st.cells[i]? with
   | none=>rw [e] at hd;cases hd
   | some c=>exact ⟨c,rfl⟩
  rw [hc] at hd;cases hd;refine oE2 (Rep.lst' rx) λ li vi m7=>oA4 m7 λ m8 pli hli ri=>?_;clear m7;subst m8;have hil:=(aa.mp hc).1;have hli2:=s2 _ _ (o1 _ _ (hp _ pli) hli);walk_at "a";refine iE2 li _ (iA3 rfl (.inl (SqL.of hli2)) (λ b hb=>?_));have nb:b ∉ as:=λ z=>by
   obtain ⟨j,hj⟩:=br z;obtain ⟨vs,h1,_⟩:=nl.g j b _ hj (ac (by rw [<- nl.len];exact (aa.mp hj).1));rw [h1] at hb;cases hb
  have nG:b≠mQ:=λ z=>by rw [z,nl.out] at hb;cases hb
  have s3:Same H2 (upd H2 b (.lst vi)):=zf hb;have ac3:=mZ (o:=.lst vi) nl.out hb;refine ⟨_,iA3 ac3 (zk (by rw [ai,nl.len,ai,aS];lia)) ?_⟩;have ri3:Reps (upd H2 b (.lst vi)) (z7 H) vi (c.map qa):=(zao ri (zb1 c)).keep λ z o pz hz=>⟨pz,s3 _ _ (s2 _ _ (o1 _ _ (kp z pz (by rw [hz];intro q;cases q)) hz))⟩;have nl3:=(nl.same s3).push (b:=b) (vs:=vi) (ys:=c.map qa) mW nb nG (λ ⟨xs,hx⟩=>by
   have:=o1 _ _ (kp mQ ⟨xs,hx⟩ (by rw [hx];intro q;cases q)) hx;rw [hacc] at this;cases this) ri3
  refine iE2 _ (as ++ [b]) (iA4 rfl ?_ ?_ ?_)
  ·exact λ z o hz=>by rw [mX (mY hz hacc)];exact s3 _ _ (s2 _ _ hz)
  ·rw [aN,hc];rw [show zI (st.cells.take i ++ (some c).toList)=zI (st.cells.take i) ++ [c.map qa] by simp [zI]];exact nl3
  ·intro z hz;rcases aH.mp hz with hz|hz
   ·exact fr z hz
   ·rw [ay.mp hz];exact zA s2 hb
 intro σ H2 m9;refine oE2 m9 λ v0 acs m7=>oA4 m7 λ m8 s2 nlc frc=>?_;clear m7 m9;subst m8;rw [lcs,aR] at nlc;have y2:=s2 _ _ y1;walk_at "a";refine iE4 y a.b dx _ (iA6 rfl y2 T.ad T.gf (by simp) ?_);rw [ziC];have nay:mQ≠y:=λ z=>by rw [z,y1] at hacc;cases hacc
 have hx0:∀ {z:Addr},H1 z=none->z≠y/\H z=none:=λ {z} hz=>by
  have n1:z≠y:=λ q=>by rw [q,y1] at hz;cases hz
  refine ⟨n1,?_⟩;cases e:H z with
  | none=>rfl
  | some o=>rw [o1 z o n1 e] at hz;cases hz
 have o3:Own H (upd H2 y (.ins a.b dx [(("turn":Str),V.int st.turn),(("cells":Str),V.ref mQ)])) y:=(o1.trans (Same.own s2)).trans jr;have y3:upd H2 y (.ins a.b dx [(("turn":Str),V.int st.turn),(("cells":Str),V.ref mQ)]) y=some (.ins a.b dx [(("turn":Str),V.int st.turn),(("cells":Str),V.ref mQ)]):=mW;have nl3:NL (upd H2 y (.ins a.b dx [(("turn":Str),V.int st.turn),(("cells":Str),V.ref mQ)])) (z7 H) mQ acs (zI st.cells):=nlc.keep (λ z o hz ho=>by
  refine (mX (λ q=>?_)).trans ho;rcases hz with h|h|h
  ·exact nay (h.symm.trans q)
  ·exact (hx0 (frc z h)).1 q
  ·obtain ⟨xs,hx⟩:=h;rw [q,hy] at hx;cases hx) λ _ hp _=>hp
 generalize upd H2 y (.ins a.b dx [(("turn":Str),V.int st.turn),(("cells":Str),V.ref mQ)])=H3 at o3 y3 nl3 ⊢;walk_at "a";refine iE2 s0 _ (iA3 rfl (.inl (SqL.of (o3 _ _ (hp _ ps0) hs0))) (λ ls hls=>?_));walk_at "a";have y4:=mZ (o:=.lst (iv st.sides)) y3 hls;refine iE4 y a.b dx _ (iA6 rfl y4 T.ad T.gm (by simp) ?_);rw [ziB];have nlsy:ls≠y:=λ z=>by rw [z,y3] at hls;cases hls
 have hls0:H ls=none:=by
  cases e:H ls with
  | none=>rfl
  | some o=>rw [o3 ls o nlsy e] at hls;cases hls
 have o5:Own H (upd (upd H3 ls (.lst (iv st.sides))) y (.ins a.b dx [(("turn":Str),V.int st.turn),(("cells":Str),V.ref mQ),(("sides":Str),V.ref ls)])) y:=(o3.trans (Same.own (zf hls))).trans jr;have y5:upd (upd H3 ls (.lst (iv st.sides))) y (.ins a.b dx [(("turn":Str),V.int st.turn),(("cells":Str),V.ref mQ),(("sides":Str),V.ref ls)]) y=some (.ins a.b dx [(("turn":Str),V.int st.turn),(("cells":Str),V.ref mQ),(("sides":Str),V.ref ls)]):=mW;have nl5:NL (upd (upd H3 ls (.lst (iv st.sides))) y (.ins a.b dx [(("turn":Str),V.int st.turn),(("cells":Str),V.ref mQ),(("sides":Str),V.ref ls)])) (z7 H) mQ acs (zI st.cells):=nl3.keep (λ z o hz ho=>by
  refine (mX (λ q=>?_)).trans (mZ ho hls);rcases hz with h|h|h
  ·exact nay (h.symm.trans q)
  ·exact (hx0 (frc z h)).1 q
  ·obtain ⟨xs,hx⟩:=h;rw [q,hy] at hx;cases hx) λ _ hp _=>hp
 have ls5:upd (upd H3 ls (.lst (iv st.sides))) y (.ins a.b dx [(("turn":Str),V.int st.turn),(("cells":Str),V.ref mQ),(("sides":Str),V.ref ls)]) ls=some (.lst (iv st.sides)):=by rw [mX nlsy];exact mW
 have nlsa:ls ∉ mQ :: acs:=λ z=>by
  rcases az.mp z with h|h
  ·rw [h,nl3.out] at hls;cases hls
  ·obtain ⟨j,hj⟩:=br h;obtain ⟨vs,h1,_⟩:=nl3.g j ls _ hj (ac (by rw [<- nl3.len];exact (aa.mp hj).1));rw [h1] at hls;cases hls
 generalize upd (upd H3 ls (.lst (iv st.sides))) y (.ins a.b dx [(("turn":Str),V.int st.turn),(("cells":Str),V.ref mQ),(("sides":Str),V.ref ls)])=H5 at o5 y5 nl5 ls5 ⊢;clear nl3 o3 y3 hls y4;walk_at "e";walk_at "a";refine ⟨g0,rfl,.inl ⟨⟨_,SqL.of (o5 _ _ (hp _ pg0) hg0)⟩,λ _ _ _ _ ag hag=>?_⟩⟩;let mT:Nat->St->Hp->Prop:=λ i σ H'=>∃ (v0:As) (as:Ae),σ=[v0]/\Same H5 H'/\NL H' (z7 H) ag as (qk (st.gone.take i))/\∀ b∈as,H5 b=none;refine qM (K:=K) (a:=g0) (xs:=ugs) mT (iE2 _ ([]) (iA4 rfl (zf hag) (by rw [bZ];exact zbM mW) (by simp))) (λ i σ H' _ h=>by obtain ⟨_,_,_,s,_⟩:=h;exact SqL.of (s _ _ (o5 _ _ (hp _ pg0) hg0))) ?_ ?_
 ·intro i x σ H2 hi m9;refine oE2 m9 λ v0 as m7=>oA4 m7 λ m8 s2 nl fr=>?_;clear m7 m9;subst m8;obtain ⟨d,hd,rx⟩:=rgs.at hi;rw [am,am] at hd;obtain ⟨c,hc⟩:∃ c,st.gone[i]?=some c:=by
   cases e:st.gone[i]? with
   | none=>rw [e] at hd;cases hd
   | some c=>exact ⟨c,rfl⟩
  rw [hc] at hd;cases hd;refine oE2 (Rep.lst' rx) λ li vi m7=>oA4 m7 λ m8 pli hli ri=>?_;clear m7;subst m8;have hil:=(aa.mp hc).1;have hli2:=s2 _ _ (o5 _ _ (hp _ pli) hli);walk_at "a";refine iE2 li _ (iA3 rfl (.inl (SqL.of hli2)) (λ b hb=>?_));have nb:b ∉ as:=λ z=>by
   obtain ⟨j,hj⟩:=br z;obtain ⟨vs,h1,_⟩:=nl.g j b _ hj (ac (by rw [<- nl.len];exact (aa.mp hj).1));rw [h1] at hb;cases hb
  have nG:b≠ag:=λ z=>by rw [z,nl.out] at hb;cases hb
  have s3:Same H2 (upd H2 b (.lst vi)):=zf hb;have ac3:=mZ (o:=.lst vi) nl.out hb;refine ⟨_,iA3 ac3 (zk (by rw [ai,nl.len,ai,aS];lia)) ?_⟩;have ri3:Reps (upd H2 b (.lst vi)) (z7 H) vi (c.map D.int):=(zao ri (zdI c)).keep λ z o pz hz=>⟨pz,s3 _ _ (s2 _ _ (o5 _ _ (kp z pz (by rw [hz];intro q;cases q)) hz))⟩;have nl3:=(nl.same s3).push (b:=b) (vs:=vi) (ys:=c.map D.int) mW nb nG (λ ⟨xs,hx⟩=>by
   have:=o5 _ _ (kp ag ⟨xs,hx⟩ (by rw [hx];intro q;cases q)) hx;rw [hag] at this;cases this) ri3
  refine iE2 _ (as ++ [b]) (iA4 rfl ?_ ?_ ?_)
  ·exact λ z o hz=>by rw [mX (mY hz hag)];exact s3 _ _ (s2 _ _ hz)
  ·rw [aN,hc];rw [show qk (st.gone.take i ++ (some c).toList)=qk (st.gone.take i) ++ [c.map D.int] by simp [qk]];exact nl3
  ·intro z hz;rcases aH.mp hz with hz|hz
   ·exact fr z hz
   ·rw [ay.mp hz];exact zA s2 hb
 intro σ H6 m9;refine oE2 m9 λ v0' ags m7=>oA4 m7 λ m8 s6 nlg frg=>?_;clear m7 m9;subst m8;rw [lgs,aR] at nlg;have y6:=s6 _ _ y5;walk_at "a";refine iE4 y a.b dx _ (iA6 rfl y6 T.ad T.gg (by simp) ?_);rw [ziA];have hx5:∀ {z:Addr},H5 z=none->z≠y/\H z=none:=λ {z} hz=>by
  have n1:z≠y:=λ q=>by rw [q,y5] at hz;cases hz
  refine ⟨n1,?_⟩;cases e:H z with
  | none=>rfl
  | some o=>rw [o5 z o n1 e] at hz;cases hz
 have ngy:=(hx5 hag).1;have o7:Own H (upd H6 y (.ins a.b dx (sff st.turn mQ ls ag))) y:=(o5.trans (Same.own s6)).trans jr;have tp:∀ b,z7 H b->H b≠none->z7 (upd H6 y (.ins a.b dx (sff st.turn mQ ls ag))) b:=λ b ⟨xs,hx⟩ hn=>⟨xs,o7 _ _ (kp b ⟨xs,hx⟩ hn) hx⟩;have inA:∀ z,z∈mQ :: acs->∃ o,H5 z=some o:=λ z hz=>by
  rcases az.mp hz with h|h
  ·exact ⟨_,h ▸ nl5.out⟩
  ·obtain ⟨j,hj⟩:=br h;obtain ⟨vs,h1,_⟩:=nl5.g j z _ hj (ac (by rw [<- nl5.len];exact (aa.mp hj).1));exact ⟨_,h1⟩
 refine k _ ⟨dx,mQ,ls,ag,acs,ags⟩ rfl o7 ⟨mW,?_,?_,?_,?_⟩ ?_
 ·exact (nl5.same s6).keep (λ z o hz ho=>by
   refine (mX (λ q=>?_)).trans ho;rcases hz with h|h|h
   ·exact nay (h.symm.trans q)
   ·exact (hx0 (frc z h)).1 q
   ·obtain ⟨xs,hx⟩:=h;rw [q,hy] at hx;cases hx) λ b hb hn=>by
    obtain ⟨xs,hx⟩:=hb;exact tp b ⟨xs,hx⟩ (by rw [hx];intro q;cases q)
 ·show upd H6 y _ ls=_
  rw [mX nlsy];exact s6 _ _ ls5
 ·exact nlg.keep (λ z o hz ho=>by
   refine (mX (λ q=>?_)).trans ho;rcases hz with h|h|h
   ·exact ngy (h.symm.trans q)
   ·exact (hx5 (frg z h)).1 q
   ·obtain ⟨xs,hx⟩:=h;rw [q,hy] at hx;cases hx) λ b hb hn=>by
    obtain ⟨xs,hx⟩:=hb;exact tp b ⟨xs,hx⟩ (by rw [hx];intro q;cases q)
 ·show (ls :: mQ :: ag :: (acs ++ ags)).Nodup
  have ls5':∀ z,H5 z=none->z≠ls:=λ z hz q=>by rw [q,ls5] at hz;cases hz
  rw [dD,dD,dD];refine iA4 (λ z=>?_) (λ z=>?_) (λ z=>?_) ?_
  ·rcases az.mp z with h|z
   ·exact nlsa (h ▸ bX ..)
   rcases az.mp z with h|z
   ·exact ls5' ag hag h.symm
   rcases aH.mp z with z|z
   ·exact nlsa (aF _ z)
   ·exact ls5' ls (frg ls z) rfl
  ·rcases az.mp z with h|z
   ·rw [<- h,nl5.out] at hag;cases hag
   rcases aH.mp z with z|z
   ·exact nl5.nG z
   ·have:=frg mQ z;rw [nl5.out] at this;cases this
  ·rcases aH.mp z with z|z
   ·obtain ⟨o,ho⟩:=inA ag (aF _ z);rw [hag] at ho;cases ho
   ·exact nlg.nG z
  ·rw [nodup_append];refine ⟨nl5.nd,nlg.nd,λ u hu v hv q=>?_⟩;subst q;obtain ⟨o,ho⟩:=inA u (aF _ hu);rw [frg u hv] at ho;cases ho
 ·intro b hb;rcases az.mp hb with rfl|hb
  ·exact hls0
  rcases az.mp hb with rfl|hb
  ·exact (hx0 hacc).2
  rcases az.mp hb with rfl|hb
  ·exact (hx5 hag).2
  rcases aH.mp hb with hb|hb
  ·exact (hx0 (frc b hb)).2
  ·exact (hx5 (frg b hb)).2
def VB (T:Txt K mg a):KCal P w K mg base "State" a.b 1 ["self","turn","cells","sides","gone"] [] (vd a):=T.kM.cal T.lO (X1 T)
def qV {rs:Av} (h:Rep H p v (qz a bs rs)):∃ y dx fs l1 l2 bvs mK,v=.ref y/\H y=some (.ins a.q dx fs)/\fs.lookup ("belts":Str)=some (.ref l1)/\fs.lookup ("knots":Str)=some (.ref l2) /\
  H l1=some (.lst bvs)/\H l2=some (.lst mK)/\Bts a H p bvs bs/\Kns a H p mK rs/\∀ f:Str,f≠"belts"->f≠"knots"->fs.lookup f=none:=by
 obtain ⟨y,dx,fs,rfl,py,hy,g1,g2⟩:=Rep.ob' h;obtain ⟨u1,e1,r1⟩:=g1 _ _ VR;obtain ⟨u2,e2,r2⟩:=g1 _ _ zd4;obtain ⟨l1,bvs,rfl,_,h1,b1⟩:=r1.lst';obtain ⟨l2,mK,rfl,_,h2,b2⟩:=r2.lst';exact ⟨y,dx,fs,l1,l2,bvs,mK,rfl,hy,e1,e2,h1,h2,.of b1,.of b2,λ f n1 n2=>g2 f (zhS n1 n2)⟩
noncomputable def x8 (ks:A8) (n:Int):Int:=ks.getD (n % (ks.length:Int)).toNat 0
def Wz {ks:A8} (n:Int) (h:0 < ks.length):atI (iv ks) (n % (ks.length:Int))=some (.int (x8 ks n)):=by
 have h0:=aJ n (show (ks.length:Int)≠0 by lia);have h1:=aG n (show (0:Int) < ks.length by lia);unfold x8;generalize n % (ks.length:Int)=m at h0 h1 ⊢;have hlt:m.toNat < ks.length:=by lia
 have e:m=(m.toNat:Int):=by lia
 have:=zE (jN (ac hlt));rw [<- e] at this;rw [this];simp [hlt]
def VT {s n:Int} (h:Rep H p v (.tup [.int s,.int n])):∃ t,v=.ref t/\H t=some (.tup [.int s,.int n]):=vy (b:=(s,n)) h
def Jp {mK:Ar} {rs:Av} {r:Row} (hK:Kns a H p mK rs) (h:rs[j]?=some r):∃ kv,mK[j]?=some kv/\KnP a H p kv r:=by
 have hj:=(aa.mp h).1;have e:mK[j]?=some (mK[j]'(by rw [hK.len];exact hj)):=ac _;exact ⟨_,e,hK.g j _ r e h⟩
def zej (a:Ad):Sp:=λ vs H Q _=>∃ (v vwr:V) (bs:A3) (rs:Av) (p q:A7) (s:Nat) (n:Int) (r:Row),vs=[v,vwr]/\Rep H p v (qz a bs rs)/\Rep H q vwr (.tup [.int s,.int n])/\rs[s]?=some r/\r.wd=.source/\0 < r.kinds.length/\Q (.int (x8 r.kinds n)) H
def WJ (T:Txt K mg a):Cal P w K mg base "kind_of" 1 ["work","ware"] [] (zej a):=T.lQ.cal λ F=>by
 refine F.okx zbr ?_ ?_
 ·walk_at "i"
 walk_at "j";refine oE5 h λ v vwr bs rs p m7=>oE4 m7 λ q sc n r m8=>oA7 m8 λ mR hv hw hr' hs hk k=>?_;clear m7 m8 h;subst mR;refine oE7 (qV hv) λ y dx fs l1 l2 bvs mK m7=>oA9 m7 λ m8 hy e1 e2 h1 h2 hB hK no=>?_;clear m7;subst m8;obtain ⟨t,rfl,ht⟩:=VT hw;obtain ⟨kv,hkv,hKn⟩:=Jp hK hr';refine oE6 hKn.inv λ y1 dx1 m1 m2 m3 fs1 m7=>oA9 m7 λ m8 _ _ _ _ g0 _ _ mR=>oA5 mR λ _ _ _ g3 _=>?_;clear m7 mR;subst m8;obtain ⟨g3a,g3b⟩:=g3 hs;walk_at "T";refine ⟨_,(zg (zp 2 zbr.nd (zj (zo (zj (pq 0) rfl) (zo (pq 1) zd)) rfl))  (zc (zl (zo (pq 2) (zt qq (zo (pq 1) zd) (z9 zX zW (za (pq 2) zb))))))),?_⟩;walk_at "a";refine ra hy T.gj T.gi e2 (n6 ht at0 (zu (SqL.of h2) (zE hkv) ?_));refine iE5 y1 (wo a r.wd) dx1 fs1 _ (iA6 rfl g0 (CT T _) (by rw [hs];exact T.gu) g3a ?_);walk_at "a";refine n6 ht rfl ?_;walk_at "a";refine ⟨_,.inl ⟨_,SqL.of g3b,rfl⟩,?_⟩;rw [zy];walk_at "a";exact ⟨by lia,zu (SqL.of g3b) (Wz n hk) k⟩
noncomputable def qF (r:Row):List Int:=List.replicate (max r.ins.length r.outs.length) 0
def zgY {α:Type} (n:Nat) (x:α):(List.replicate n [x]).flatten=List.replicate n x:=by
 induction n with
 | zero=>rfl
 | succ n ih=>rw [cQ,dP,ih];rfl
def ze1 (n:Nat) (x:Int):List.replicate n (V.int x)=iv (List.replicate n x):=by simp [iv]
def zhi (m n:Nat):(if (n:Int) > (m:Int) then (n:Int) else (m:Int))=((max m n:Nat):Int):=by
 by_cases h:(n:Int) > (m:Int)
 ·rw [ar h];lia
 ·rw [ap h];lia
def xz {r:Row} (h:r.ok):r.ins.length<=4/\r.outs.length<=4:=by
 obtain ⟨wd,ins,outs,pc,ks⟩:=r;cases wd
 ·obtain ⟨h1,⟨o,h2⟩,_⟩:=h;simp only at h1 h2;subst h1 h2;simp
 ·obtain ⟨⟨o,h1⟩,h2,_⟩:=h;simp only at h1 h2;subst h1 h2;simp
 ·obtain ⟨⟨o,h1⟩,_,h2⟩:=h;simp only at h1 h2;subst h1;exact ⟨by simp,h2⟩
 ·obtain ⟨⟨o,h1⟩,_,h2⟩:=h;simp only at h1 h2;subst h1;exact ⟨by simp,h2⟩
 ·obtain ⟨⟨o,h1⟩,h2,_⟩:=h;simp only at h1 h2;subst h1;exact ⟨by simp,by show outs.length<=4;lia⟩
 ·obtain ⟨⟨o,h1⟩,_,h2⟩:=h;simp only at h1 h2;subst h1;exact ⟨h2,by simp⟩
def Q1 (a:Ad) (H H':Hp) (v:V) (st:PSt):Prop:=∃ y n,v=.ref y/\StO a H' y n st/\H y=none/\H n.dx=none/\∀ b∈n.all,H b=none
def Xe (T:Txt K mg a) {st:PSt} {vc vs' vg:V} {Q:Addr->Hp->Prop} {E:XK} (rc:Rep H p vc (.lst ((zI st.cells).map D.lst))) (rs:Rep H p vs' (.ints st.sides)) (rg:Rep H p vg (.lst ((qk st.gone).map D.lst))) (lc:st.cells.length<=100) (lg:st.gone.length<=100)
  (k:∀ y H',Same H H'->Q1 a H H' (.ref y) st->Q y H'):∀ (x dx:Addr),H x=none->H dx=none->dx≠x->vd a [.ref x,.int st.turn,vc,vs',vg] (upd (upd H dx (.own x)) x (.ins a.b dx [])) (λ v H2=>v=.non/\Q x H2) E:=by
 intro y dy hy hdy hne;have kp:∀ b o,p b->H b=some o->b≠y/\upd (upd H dy (.own y)) y (.ins a.b dy []) b=some o:=λ b o _ hb=>⟨mY hb hy,qu hy hdy hb⟩;refine ⟨y,dy,vc,vs',vg,st,λ b=>b≠y,rfl,mW,λ _ h=>h,rc.keep kp,rs.keep kp,rg.keep kp,lc,lg,λ H' n en o so fr=>⟨rfl,?_⟩⟩;exact k _ _ (Own.of_new hy hdy o) ⟨y,n,rfl,so,hy,by rw [en];exact hdy,λ b hb=>zM (fr b hb)⟩
def zbl (a:Ad):Sp:=λ vs H Q _=>∃ (v:V) (r:Row) (p:A7),vs=[v]/\KnP a H p v r/\r.ins.length<=100/\r.outs.length<=100/\∀ q H',Same H H'->H q=none->H' q=some (.lst (iv (qF r)))->Q (.ref q) H'
def za3 (T:Txt K mg a):Cal P w K mg base "no_counts" 1 ["knot"] [] (zbl a):=T.kU.cal λ F=>by
 refine F.okx Ve ?_ ?_
 ·walk_at "i"
 walk_at "j";obtain ⟨v,r,p,rfl,hKn,l1,l2,k⟩:=h;obtain ⟨y1,dx1,m1,m2,m3,fs1,rfl,_,_,_,_,g0,f1,f2,_,g1,g2,g3,_⟩:=hKn.inv;walk_at "T";refine ⟨_,(zc (zl (zt zbJ (zL (za zd zb)) (z9 (zdS rfl) zhJ (za (z9 zX zW (za (zj (pq 0) rfl) zb)) (za (z9 zX zW (za (zj (pq 0) rfl) zb)) zb)))))),?_⟩;walk_at "a";intro q hq;have sq:=zf (o:=.lst [V.int 0]) hq;refine ⟨ma,gA,?_⟩;refine ra (sq _ _ g0) (CT T _) (NI T _) f1 ⟨_,.inl ⟨_,SqL.of (sq _ _ g1),rfl⟩,?_⟩;refine ⟨gA,?_⟩;refine ra (sq _ _ g0) (CT T _) (NO T _) f2 ⟨_,.inl ⟨_,SqL.of (sq _ _ g2),rfl⟩,?_⟩;rw [zy,zy];refine ⟨_,_,rfl,?_⟩;rw [zhi];refine ⟨q,_,_,rfl,rfl,mW,by lia,by lia,?_,λ q2 hq2=>?_⟩
 ·refine vM ?_;simp
  lia
 ·rw [zgY,aB,ze1];exact k q2 _ (sq.trans (zf hq2)) (zA sq hq2) mW
noncomputable def qP (bs:A3) (rs:Av):PSt:=⟨0,bs.map λ b=>List.replicate b.1.toNat none,List.replicate rs.length 0,rs.map qF⟩
def zfB (a:Ad):Sp:=λ vs H Q _=>∃ (v:V) (bs:A3) (rs:Av) (p:A7),vs=[v]/\Rep H p v (qz a bs rs)/\bs.length<=24/\rs.length<=24/\(∀ b∈bs,zB b.1 b.2)/\(∀ r∈rs,r.ok)/\∀ v' H',Same H H'->Q1 a H H' v' (qP bs rs)->Q v' H'
def Zl (T:Txt K mg a):Cal P w K mg base "empty_state" 3 ["work"] [] (zfB a):=T.kj.cal λ F=>by
 refine F.okx JL ?_ ?_
 ·walk_at "i"
 walk_at "j";refine oE4 h λ v bs rs p m7=>oA7 m7 λ m8 hv lb lr bo ro k=>?_;clear m7 h;subst m8;refine oE7 (qV hv) λ y dx fs l1 l2 bvs mK m7=>oA9 m7 λ m8 hy e1 e2 h1 h2 hB hK no=>?_;clear m7;subst m8;walk_at "T";refine ⟨_,(zh (JX (i:=1) JL.nd rfl (Or.inl rfl) (vars:=["belt"]) (caps:=[]) (N:=["belt"]) (ON:=["work","cells","sides"]) (osc:=ze jo) rfl rfl (by first|decide +kernel|kernel_rfl) rfl rfl (qm (zj (pq 0) rfl)) (λ _ _ _ _=>(qg 0 (show (["belt"]:Aa).Nodup from by decide +kernel))) (λ _ _ _ _=>qe) (λ _ _ _ _=>(zt zbJ (zL (za zG zb)) (zj (pq 0) rfl))))  (zh (zp 2 JL.nd (zt zbJ (zL (za zd zb)) (z9 zX zW (za (zj (pq 0) rfl) zb))))  (zc (zl (qr (x:="State") ⟨rfl,rfl,rfl⟩ hr (za zd (za (pq 1) (za (pq 2) (za (jG (vars:=["knot"]) (caps:=[]) (N:=["knot"]) (ON:=["work","cells","sides"]) (osc:=ze jo) rfl rfl (by first|decide +kernel|kernel_rfl) rfl rfl (qm (zj (pq 0) rfl)) (λ _ _ _ _=>(qg 0 (show (["knot"]:Aa).Nodup from by decide +kernel))) (λ _ _ _ _=>qe) (λ _ _ _ _=>(vv hr (za (pq 0) zb)))) zb))))))))),?_⟩;walk_at "a";walk_at "e";walk_at "a";refine ra hy T.gj T.gk e1 ⟨l1,rfl,.inl ⟨⟨_,SqL.of h1⟩,λ _ _ _ _ mQ hacc=>?_⟩⟩;let mS:Nat->St->Hp->Prop:=λ i σ H'=>∃ (v0:As) (us:Ar),σ=[v0]/\Same H H'/\H' mQ=some (.lst us)/\Reps H' (Off [mQ]) us ((bs.take i).map λ b=>D.lst (List.replicate b.1.toNat .non));refine qM (K:=K) (a:=l1) (xs:=bvs) mS (iE2 _ ([]) (iA4 rfl (zf hacc) mW (by rw [bZ];exact .nil))) (λ i σ H' _ h=>by obtain ⟨_,_,_,s,_⟩:=h;exact SqL.of (s _ _ h1)) ?_ ?_
 ·intro i x σ H2 hi m9;refine oE2 m9 λ v0 us m7=>oA4 m7 λ m8 s2 ha ru=>?_;clear m7 m9;subst m8;obtain ⟨b,hb',hBt⟩:=hB.at hi;refine oE3 hBt.inv λ y1 dx1 fs1 m7=>oA5 m7 λ m8 _ g0 f1 f2=>?_;clear m7;subst m8;have hil:=(aa.mp hb').1;have bk:=bo b (ah hb');walk_at "a";intro q hq;have sq:=zf (o:=.lst [V.non]) hq;refine ra (sq _ _ (s2 _ _ g0)) T.ic T.hX f1 ?_;have b1:=bk.1;have b2:=bk.2.1;refine iE3 q _ _ (iA7 rfl rfl mW (by lia) (by lia) (vM (by simp;lia)) (λ q2 hq2=>?_));rw [zgY];have s3:=sq.trans (zf (o:=.lst (List.replicate b.1.toNat V.non)) hq2);have h3:upd (upd H2 q (.lst [V.non])) q2 (.lst (List.replicate b.1.toNat V.non)) q2=some (.lst (List.replicate b.1.toNat V.non)):=mW;have n2:H2 q2=none:=zA sq hq2;generalize upd (upd H2 q (.lst [V.non])) q2 (.lst (List.replicate b.1.toNat V.non))=H3 at s3 h3 ⊢;have f5:Fr [mQ] H3 (upd H3 mQ (.lst (us ++ [.ref q2]))):=qA (by simp);have nq:=zeJ ha n2;refine ⟨_,iA3 (s3 _ _ ha) (zk (by rw [ru.len,ai,aS];lia)) (iE2 _ (us ++ [.ref q2]) (iA4 rfl (((s2.trans s3).fr.trans f5).same (by intro m hm;rw [ay.mp hm];exact hacc)) mW ?_))⟩;rw [aN,hb',bg];refine ((ru.same s3).fr f5).append (.one ?_);refine Reps.mk' ⟨by simp,λ j u d a1 a2=>?_⟩ nq (f5 _ _ nq h3);have a1:=ah a1;have a2:=ah a2;rw [(cy.mp a1).2,(cy.mp a2).2];exact .non
 intro σ H2 m9;refine oE2 m9 λ v0 us m7=>oA4 m7 λ m8 s2 ha ru=>?_;clear m7 m9;subst m8;rw [hB.len,aR] at ru;walk_at "a";intro q hq;have sq:=zf (o:=.lst [V.int 0]) hq;walk_at "a";refine ra (sq _ _ (s2 _ _ hy)) T.gj T.gi e2 ⟨_,.inl ⟨_,SqL.of (sq _ _ (s2 _ _ h2)),rfl⟩,?_⟩;rw [hK.len];refine iE3 q _ _ (iA7 rfl rfl mW (by lia) (by lia) (vM (by simp;lia)) (λ ls hls=>?_));rw [zgY,aB,ze1];have s3:Same H (upd (upd H2 q (.lst [V.int 0])) ls (.lst (iv (List.replicate rs.length 0)))):=(s2.trans sq).trans (zf hls);have ha3:=mZ (o:=.lst (iv (List.replicate rs.length 0))) (sq _ _ ha) hls;have ru3:=(ru.same sq).same (zf (o:=.lst (iv (List.replicate rs.length 0))) hls);have h3:upd (upd H2 q (.lst [V.int 0])) ls (.lst (iv (List.replicate rs.length 0))) ls=some (.lst (iv (List.replicate rs.length 0))):=mW;generalize upd (upd H2 q (.lst [V.int 0])) ls (.lst (iv (List.replicate rs.length 0)))=H3 at s3 ha3 ru3 h3 ⊢;walk_at "a";refine iE4 a.b _ _ _ ⟨(VB T).mono,?_⟩;walk_at "e";walk_at "a";refine ra (s3 _ _ hy) T.gj T.gi e2 ⟨l2,rfl,.inl ⟨⟨_,SqL.of (s3 _ _ h2)⟩,λ _ _ _ _ ac2 hac2=>?_⟩⟩;let mT:Nat->St->Hp->Prop:=λ i σ H'=>∃ (v0:As) (us:Ar),σ=[v0]/\Same H3 H'/\H' ac2=some (.lst us)/\Reps H' (Off [ac2]) us ((rs.take i).map λ r=>D.ints (qF r));refine qM (K:=K) (a:=l2) (xs:=mK) mT (iE2 _ ([]) (iA4 rfl (zf hac2) mW (by rw [bZ];exact .nil))) (λ i σ H' _ h=>by obtain ⟨_,_,_,s,_⟩:=h;exact SqL.of (s _ _ (s3 _ _ h2))) ?_ ?_
 ·intro i x σ H4 hi m9;refine oE2 m9 λ v0 us m7=>oA4 m7 λ m8 s4 ha4 ru4=>?_;clear m7 m9;subst m8;obtain ⟨r,hr',hKn⟩:=hK.at hi;have hil:=(aa.mp hr').1;have rl:=xz (ro r (ah hr'));walk_at "a";refine uc (za3 T).mono (iE3 x r p (iA5 rfl (hKn.keep (λ b o pb hb=>⟨pb,s4 _ _ (s3 _ _ hb)⟩)) (by lia) (by lia) (λ q2 H5 s5 n2 h5=>?_)));have f5:Fr [ac2] H5 (upd H5 ac2 (.lst (us ++ [.ref q2]))):=qA (by simp);have nq:=zeJ ha4 n2;refine ⟨_,iA3 (s5 _ _ ha4) (zk (by rw [ru4.len,ai,aS];lia)) (iE2 _ (us ++ [.ref q2]) (iA4 rfl (((s4.trans s5).fr.trans f5).same (by intro m hm;rw [ay.mp hm];exact hac2)) mW ?_))⟩;rw [aN,hr',bg];exact ((ru4.same s5).fr f5).append (.one (qj nq (f5 _ _ nq h5)))
 intro σ H4 m9;refine oE2 m9 λ v0' us4 m7=>oA4 m7 λ m8 s4 ha4 ru4=>?_;clear m7 m9;subst m8;rw [hK.len,aR] at ru4;have s34:=s3.trans s4;refine Xe T (st:=qP bs rs) (p:=Off []) ?_ ?_ ?_ (by simp [qP];lia) (by simp [qP];lia) (λ v' H5 s5 so=>k _ _ (s34.trans s5) ?_)
 ·have:=(ru3.same s4).all;rw [show (bs.map λ b=>D.lst (List.replicate b.1.toNat .non))=(zI (qP bs rs).cells).map D.lst by simp [qP,zI,qa,eD]] at this;exact this.mk' (λ z=>nomatch z) (s4 _ _ ha3)
 ·exact qj (λ z=>nomatch z) (s4 _ _ h3)
 ·have:=ru4.all;rw [show (rs.map λ r=>D.ints (qF r))=(qk (qP bs rs).gone).map D.lst by simp [qP,qk,eD]] at this;exact this.mk' (λ z=>nomatch z) ha4
 ·refine oE2 so λ y5 n5 m7=>oA5 m7 λ e5 o5 f1 f2 f3=>?_;clear m7 so;exact iE2 y5 n5 (iA5 e5 o5 (zA s34 f1) (zA s34 f2) (λ b hb=>zA s34 (f3 b hb)))
def zaY {r:Row} (h:r.ok) (hw:r.wd=.joiner):qF r=List.replicate r.ins.length 0:=by
 obtain ⟨wd,ins,outs,pc,ks⟩:=r;simp only at hw;subst hw;obtain ⟨⟨o,h1⟩,h2,_⟩:=h;simp only at h1 h2;subst h1;unfold qF;rw [Nat.max_eq_left (by simp;lia)]
def zca {r:Row} (h:r.ok) (hw:r.wd≠.joiner):qF r=List.replicate (max 1 r.outs.length) 0:=by
 obtain ⟨wd,ins,outs,pc,ks⟩:=r;unfold qF;cases wd
 ·obtain ⟨h1,⟨o,h2⟩,_⟩:=h;simp only at h1 h2;subst h1 h2;rfl
 ·obtain ⟨⟨o,h1⟩,h2,_⟩:=h;simp only at h1 h2;subst h1 h2;rfl
 ·obtain ⟨⟨o,h1⟩,h2,_⟩:=h;simp only at h1 h2;subst h1;rfl
 ·obtain ⟨⟨o,h1⟩,h2,_⟩:=h;simp only at h1 h2;subst h1;rfl
 ·obtain ⟨⟨o,h1⟩,h2,_⟩:=h;simp only at h1 h2;subst h1;rfl
 ·exact absurd rfl hw
def xG {r:Row} (h:r.ok):1<=(qF r).length/\(qF r).length<=4:=by
 have:=xz h;by_cases hw:r.wd=.joiner
 ·rw [zaY h hw,bd];obtain ⟨wd,ins,outs,pc,ks⟩:=r;simp only at hw;subst hw;have:=h.2.1;simp only at this;constructor
  ·show 1<=ins.length;lia
  ·exact h.2.2
 ·rw [zca h hw,bd]
  lia
def xX (rs:Av) (x:zC):Prop:=∀ s n,x=some (s,n)->∃ (j:Nat) (r:Row),s=j/\rs[j]?=some r/\r.wd=.source/\0<=n
def zb2 (rs:Av) (gss:List A8):Prop:=gss.length=rs.length/\∀ (i:Nat) r g,rs[i]?=some r->gss[i]?=some g->g.length=(qF r).length/\∀ n∈g,0<=n
def xl (bs:A3) (rs:Av) (css:Aw):Prop:=css.length=bs.length/\∀ (i:Nat) b c,bs[i]?=some b->css[i]?=some c->c.length=b.1.toNat/\∀ x∈c,xX rs x
def ze6 {rs:Av} {gss:List A8} (h:zb2 rs gss) {g g':A8} (e:gss[j]?=some g) (l:g'.length=g.length) (n:∀ x∈g',0<=x):zb2 rs (gss.set j g'):=by
 refine ⟨by rw [bS];exact h.1,λ i r x h1 h2=>?_⟩;by_cases hj:i=j
 ·subst hj;rw [a7 (aa.mp e).1] at h2;cases h2;exact ⟨by rw [l];exact (h.2 i r g h1 e).1,n⟩
 ·rw [bK (aX hj)] at h2;exact h.2 i r x h1 h2
def wx (r:Row) (s:Int):Prop:=0<=s/\(r.wd=.parter->s < r.outs.length)/\(r.wd=.joiner->s < r.ins.length)/\(r.wd≠.parter->r.wd≠.joiner->s=0)
def Vb (rs:Av) (sds:A8):Prop:=sds.length=rs.length/\∀ (i:Nat) r s,rs[i]?=some r->sds[i]?=some s->wx r s
noncomputable def zP (cs:Aw) (b:Int):List zC:=cs.getD b.toNat []
noncomputable def wT (c:Ax):zC:=c.getLastD none
noncomputable def zgj (c:Ax):zC:=c.headD none
noncomputable def jJ (rs:Av):zC->Option Int:=Option.map λ x=>x8 ((rs[x.1.toNat]?.map Row.kinds).getD []) x.2
noncomputable def qp (rs:Av) (cs:Aw) (r:Row):List Ab:=r.ins.map λ b=>jJ rs (wT (zP cs b))
noncomputable def qU (cs:Aw) (r:Row):List Bool:=r.outs.map λ b=>decide (zgj (zP cs b)=none)
def zcv {α:Type} {xs:List α} {d:α} (h:xs≠[]):atI xs (-1)=some (xs.getLastD d):=by
 have hl:0 < xs.length:=dQ.mpr h;unfold atI ixN;rw [ap (by decide),ar (by lia)];have e:((-1:Int) + xs.length).toNat=xs.length - 1:=by lia
 simp only [Option.bind_some,e];rw [ac (by lia),bD,eZ,ac (by lia)]
 rfl
def zaG {c:Ax}:(c.map qa).getLastD .non=qa (wT c):=by
 unfold wT;rw [bD,bD,List.getLast?_map];cases c.getLast? <;> rfl
structure stWf (bs:A3) (rs:Av) (st:PSt):Prop where
 co:xl bs rs st.cells
 so:Vb rs st.sides
 go:zb2 rs st.gone
def wU {rs:Av} {cs:Aw} (h:xl bs rs cs) (bo:∀ b∈bs,zB b.1 b.2) {b:Int} (hb:b∈rgI bs.length):∃ (i:Nat),b=i/\i < cs.length/\cs[i]?=some (zP cs b)/\zP cs b≠[]/\∀ x∈zP cs b,xX rs x:=by
 obtain ⟨h0,h1⟩:=zf6 hb;obtain ⟨i,rfl⟩:∃ i:Nat,b=i:=⟨b.toNat,by lia⟩;have hi:i < cs.length:=by rw [h.1];lia
 have e:cs[i]?=some (zP cs i):=by
  unfold zP;rw [aB,ac hi];simp [hi]
 have hib:i < bs.length:=by lia
 obtain ⟨q1,q2⟩:=h.2 i bs[i] _ (ac hib) e;refine ⟨i,rfl,hi,e,?_,q2⟩;intro z;rw [z] at q1;have:=(bo _ (getElem_mem hib)).1;simp at q1
 lia
def Jt {rs:Av} {r:Row} {b:Int} (w:zR bs rs) (h:rs[k]?=some r) (hb:b∈r.ins):b∈rgI bs.length :=
 w.2.2.mem_iff.mp (List.mem_flatMap.mpr ⟨r,ah h,hb⟩)
def J5 {rs:Av} {r:Row} {b:Int} (w:zR bs rs) (h:rs[k]?=some r) (hb:b∈r.outs):b∈rgI bs.length :=
 w.2.1.mem_iff.mp (List.mem_flatMap.mpr ⟨r,ah h,hb⟩)
def zcH {c:Ax} (h:c≠[]):wT c∈c:=by
 unfold wT;rw [bD,List.getLast?_eq_some_getLast h];exact List.getLast_mem h
def zc7 {st:PSt} (h:Rep H p v (Xw a st)):∃ y dx fs lc ls lg ucs ugs,v=.ref y/\H y=some (.ins a.b dx fs)/\fs.lookup ("turn":Str)=some (.int st.turn)/\fs.lookup ("cells":Str)=some (.ref lc)/\fs.lookup ("sides":Str)=some (.ref ls)/\fs.lookup ("gone":Str)=some (.ref lg) /\
  H lc=some (.lst ucs)/\Reps H p ucs ((zI st.cells).map D.lst)/\H ls=some (.lst (iv st.sides))/\H lg=some (.lst ugs)/\Reps H p ugs ((qk st.gone).map D.lst):=by
 obtain ⟨y,dx,fs,rfl,py,hy,g1,g2⟩:=Rep.ob' h;obtain ⟨u1,e1,r1⟩:=g1 _ _ (VY st);obtain ⟨u2,e2,r2⟩:=g1 _ _ (Wg st);obtain ⟨u3,e3,r3⟩:=g1 _ _ (Wf st);obtain ⟨u4,e4,r4⟩:=g1 _ _ (VZ st);cases r1;obtain ⟨lc,ucs,rfl,_,hc,rc⟩:=r2.lst';obtain ⟨ls,rfl,_,hs⟩:=r3.ints';obtain ⟨lg,ugs,rfl,_,hg,rg⟩:=r4.lst';exact ⟨y,dx,fs,lc,ls,lg,ucs,ugs,rfl,hy,e1,e2,e3,e4,hc,rc,hs,hg,rg⟩
def ze3 {us:Ar} {dss:List (List D)} (h:Reps H p us (dss.map D.lst)) {ds:List D} (e:dss[i]?=some ds):∃ l vs,us[i]?=some (.ref l)/\H l=some (.lst vs)/\Reps H p vs ds:=by
 obtain ⟨v,h1,h2⟩:=h.of (i:=i) (d:=.lst ds) (by rw [am,e];rfl);obtain ⟨l,vs,rfl,_,h3,h4⟩:=h2.lst';exact ⟨l,vs,h1,h3,h4⟩
inductive spHeads (a:Ad) (vs:Ar) (H:Hp) (Q:VK) (E:XK):Prop
 | i (vw vs' vk:V) (bs:A3) (rs:Av) (st:PSt) (k:Nat) (r:Row) (p q:A7):vs=[vw,vs',vk]->Rep H p vw (qz a bs rs)->Rep H q vs' (Xw a st)->KnP a H p vk r->rs[k]?=some r->zR bs rs->(∀ b∈bs,zB b.1 b.2)->(∀ r∈rs,r.ok)->xl bs rs st.cells->(∀ l H',Same H H'->H l=none->H' l=some (.lst ((qp rs st.cells r).map hdV))->Q (.ref l) H')->spHeads a vs H Q E
theorem zce (T:Txt K mg a):Cal P w K mg base "heads_of" 2 ["work","state","knot"] [] (spHeads a):=T.lB.cal λ F=>by
 refine F.okx zae ?_ ?_
 ·walk_at "i"
 walk_at "j";rcases h with ⟨vw,vs',vk,bs,rs,st,kn,r,p,q,rfl,hw,hs,hk,hr',mP,bo,ro,co,k⟩;refine oE8 (zc7 hs) λ y dx fs lc ls lg ucs ugs m7=>oA9 m7 λ m8 hy e1 e2 e3 e4 hc rc mR=>oA3 mR λ hsd hg rg=>?_;clear m7 mR;subst m8;refine oE6 hk.inv λ y1 dx1 m1 m2 m3 fs1 m7=>oA9 m7 λ m8 _ _ _ _ g0 f1 f2 mR=>oA5 mR λ _ g1 g2 _ _=>?_;clear m7 mR;subst m8;have rl:=xz (ro r (ah hr'));walk_at "T";refine ⟨_,(zh (JX (i:=3) zae.nd rfl (Or.inl rfl) (vars:=["belt"]) (caps:=[1]) (N:=["belt","state"]) (ON:=["work","state","knot","ends"]) (osc:=ze xq) rfl rfl (by first|decide +kernel|kernel_rfl) rfl rfl (qm (zj (pq 2) rfl)) (λ _ _ _ _=>(qg 0 (show (["belt","state"]:Aa).Nodup from by decide +kernel))) (λ _ _ _ _=>qe) (λ _ _ _ _=>(zo (zo (zj (pq 1) rfl) (pq 0)) (Zc xY zd))))  (zc (zl (jG (vars:=["ware"]) (caps:=[0]) (N:=["ware","work"]) (ON:=["work","state","knot","ends"]) (osc:=ze xq) rfl rfl (by first|decide +kernel|kernel_rfl) rfl rfl (qm (pq 3)) (λ _ _ _ _=>(qg 0 (show (["ware","work"]:Aa).Nodup from by decide +kernel))) (λ _ _ _ _=>qe) (λ _ _ _ _=>(wj (zm je (pq 0) zG (zr _)) zG (vv hr (za (pq 1) (za (pq 0) zb))))))))),?_⟩;walk_at "a";walk_at "e";walk_at "a";refine ra g0 (CT T _) (NI T _) f1 ⟨m1,rfl,.inl ⟨⟨_,SqL.of g1⟩,λ _ _ _ _ mQ hacc=>?_⟩⟩;let mS:Nat->St->Hp->Prop:=λ i σ H'=>∃ (v0:As) (us:Ar),σ=[v0,some (.ref y)]/\Same H H'/\H' mQ=some (.lst us)/\Reps H q us ((r.ins.take i).map λ b=>qa (wT (zP st.cells b)));refine qM (K:=K) (a:=m1) (xs:=iv r.ins) mS (iE2 _ ([]) (iA4 rfl (zf hacc) mW (by rw [bZ];exact .nil))) (λ i σ H' _ h=>by obtain ⟨_,_,_,s,_⟩:=h;exact SqL.of (s _ _ g1)) ?_ ?_
 ·intro i x σ H2 hi m9;refine oE2 m9 λ v0 us m7=>oA4 m7 λ m8 s2 ha ru=>?_;clear m7 m9;subst m8;obtain ⟨b,hb,rfl⟩:=Zh hi;have hil:=(aa.mp hb).1;refine oE1 (wU co bo (Jt mP hr' (ah hb))) λ j m7=>oA5 m7 λ m8 hj ej nej _=>?_;clear m7;subst m8;obtain ⟨li,vi,hu,hli,ri⟩:=ze3 rc (i:=j) (ds:=(zP st.cells j).map qa) (by rw [zI,am,ej];rfl);obtain ⟨ve,he,re⟩:=zgK ri (zcv (d:=.non) (by simpa using nej));rw [zaG] at re;walk_at "a";refine ra (s2 _ _ hy) T.ad T.gf e2 (zu (SqL.of (s2 _ _ hc)) (zE hu) ?_);walk_at "a";refine zu (SqL.of (s2 _ _ hli)) he ?_;refine ⟨_,iA3 ha (zk (by rw [ru.len,ai,aS];lia)) (iE2 _ (us ++ [ve]) (iA4 rfl (λ b o hb=>by rw [mX (mY hb hacc)];exact s2 b o hb) mW ?_))⟩;rw [aN,hb,bg];exact ru.append (.one re)
 intro σ H2 m9;refine oE2 m9 λ v0 us m7=>oA4 m7 λ m8 s2 ha ru=>?_;clear m7 m9;subst m8;rw [zy,aR] at ru;have lu:us.length=r.ins.length:=by rw [ru.len,ai]
 walk_at "a";walk_at "e";walk_at "a";refine ⟨mQ,rfl,.inl ⟨⟨_,SqL.of ha⟩,λ _ _ _ _ ac2 hac2=>?_⟩⟩;let mT:Nat->St->Hp->Prop:=λ i σ H'=>∃ (v0:As),σ=[v0,some vw]/\Same H2 H'/\H' ac2=some (.lst ((((qp rs st.cells r).take i).map hdV)));refine qM (K:=K) (a:=mQ) (xs:=us) mT ⟨_,iA3 rfl (zf hac2) (by rw [bZ];exact mW)⟩ (λ i σ H' _ h=>by obtain ⟨_,_,s,_⟩:=h;exact SqL.of (s _ _ ha)) ?_ ?_
 ·intro i x σ H3 hi m9;refine oE1 m9 λ v0 m7=>oA3 m7 λ m8 s3 ha3=>?_;clear m7 m9;subst m8;obtain ⟨d,hd,rx⟩:=ru.at hi;rw [am,ao] at hd;obtain ⟨b,hb,rfl⟩:=hd;have hil:=(aa.mp hb).1;refine oE1 (wU co bo (Jt mP hr' (ah hb))) λ j m7=>oA5 m7 λ m8 hj ej nej wk=>?_;clear m7;subst m8;have hwk:=wk _ (zcH nej);have hh:(qp rs st.cells r)[i]?=some (jJ rs (wT (zP st.cells j))):=by rw [qp,am,hb];rfl
  have s23:=s2.trans s3;have fin:∀ u:V,u=hdV (jJ rs (wT (zP st.cells j)))->∃ ys,H3 ac2=some (.lst ys)/\ys.length < sizeLine/\∃ (v0:As),([some x,some vw]:St)=[v0,some vw]/\Same H2 (upd H3 ac2 (.lst (ys ++ [u])))/\upd H3 ac2 (.lst (ys ++ [u])) ac2=some (.lst ((((qp rs st.cells r).take (i + 1)).map hdV))):=by
   rintro u rfl;refine ⟨_,iA3 ha3 (zk (by rw [ai,aS];lia)) ⟨_,iA3 rfl (λ b o hb=>by rw [mX (mY hb hac2)];exact s3 b o hb) ?_⟩⟩;rw [mW,aN,hh,bg]
   rfl
  walk_at "a";cases hE:wT (zP st.cells j) with
  | none =>
   rw [hE] at rx fin;cases rx;rw [ar rfl];exact fin _ rfl
  | some wr =>
   obtain ⟨sr,nr⟩:=wr;rw [hE] at rx fin hwk;refine oE2 (hwk _ _ rfl) λ j0 r0 m7=>oA4 m7 λ m8 hr0 hw0 _=>?_;clear m7;subst m8;have ok0:=ro r0 (ah hr0);have kp:0 < r0.kinds.length:=by
    obtain ⟨wd,ins,outs,pc,ks⟩:=r0;simp only at hw0;subst hw0;exact ok0.2.2.2.2.1
   obtain ⟨tw,rfl,htw⟩:=VT rx;rw [ap (by intro z;cases z)];refine uc (WJ T).mono (iE5 vw _ bs rs p (iE4 q j0 nr r0 (iA7 rfl (jb hw s23) (jb rx s23) hr0 hw0 kp ?_)));exact fin _ (by simp [jJ,hr0,hdV])
 ·intro σ H3 m9;refine oE1 m9 λ v0 m7=>oA3 m7 λ m8 s3 ha3=>?_;clear m7 m9;subst m8;rw [lu,cP (by simp [qp])] at ha3;walk_at "a";exact k _ _ (s2.trans s3) (zA s2 hac2) ha3
def zeo (K:A0):Sp:=λ vs H Q _=>∃ (l:Addr) (ns:A8) (o:Option Nat),vs=[.ref l,Za o]/\H l=some (.lst (iv ns))/\(∀ j,o=some j->j < ns.length)/\Q (hdV (o.bind λ j=>ns[j]?)) H
theorem WK (T:Txt K mg a):Cal P w K mg base "belt_at" 1 ["belts","place"] [] (zeo K):=T.lS.cal λ F=>by
 refine F.okx zbs ?_ ?_
 ·walk_at "i"
 walk_at "j";refine oE3 h λ l ns o m7=>oA4 m7 λ m8 hl ho k=>?_;clear m7 h;subst m8;walk_at "T";refine ⟨_,(zc (zl (wj (zm je (pq 1) zG (zr _)) zG (zo (pq 0) (pq 1))))),?_⟩;walk_at "a";cases o with
 | none=>exact zN (λ _=>k) (λ b=>absurd rfl b)
 | some j =>
  have hj:=ho j rfl;refine zN (λ b=>by cases b) (λ _=>?_);refine zu (SqL.of hl) (zE (jN (ac hj))) ?_;have e:hdV ((some j).bind λ j=>ns[j]?)=.int ns[j]:=by simp [hj,hdV]
  rw [e] at k;exact k
def ziI (T:Txt K mg a) (wd:Wd):kitOne K (.ref (wo a wd)) (.ref a.o)=some (decide (wd=.joiner)):=by
 cases wd
 ·exact T.iA
 ·exact T.iO
 ·exact T.iB
 ·exact T.gX
 ·exact T.iP
 ·exact T.iC
noncomputable def jP (r:Row) (ch:Am):Nat:=if r.wd=.joiner then ch.1.getD 0 else ch.2.1.getD 0
inductive spCounted (a:Ad) (vs:Ar) (H:Hp) (Q:VK) (E:XK):Prop
 | i (vk:V) (t:Addr) (r:Row) (ch:Am) (p:A7):vs=[vk,.ref t]->KnP a H p vk r->H t=some (.tup (chV ch))->(r.wd=.joiner->∃ j,ch.1=some j)->Q (.int (jP r ch)) H->spCounted a vs H Q E
theorem Jh (T:Txt K mg a):Cal P w K mg base "counted_place" 1 ["knot","chosen"] [] (spCounted a):=T.iG.cal λ F=>by
 refine F.okx Ql ?_ ?_
 ·walk_at "i"
 walk_at "j";rcases h with ⟨vk,t,r,ch,p,rfl,hk,ht,hj,k⟩;obtain ⟨y1,dx1,m1,m2,m3,fs1,rfl,_,_,_,_,g0,f1,f2,_,g1,g2,_,_⟩:=hk.inv;walk_at "T";refine ⟨_,(zg (zD (jc (z9 XF jp (za (pq 0) (za wl zb))) (λ _=>rfl))  (zc (zl (zo (pq 1) zd)))  zn)  (zc (zl (wj (zm je (zo (pq 1) zd) zG (zr _)) zd (zo (pq 1) zd))))),?_⟩;walk_at "a";refine ⟨.ref a.o,_,T.lA,rfl,_,_,_,_,rfl,(WT T r.wd).ty (CT T r.wd) g0,.inl ⟨_,rfl,ziI T r.wd⟩,?_⟩;walk_at "a";unfold jP at k;refine zN (λ b=>?_) (λ b=>?_)
 ·rw [ar b] at k;obtain ⟨j,ej⟩:=hj b;walk_at "a";refine n6 ht at0 ?_;rw [ej] at k ⊢;exact k
 ·rw [ap b] at k;walk_at "a";refine n6 ht (show atI (chV ch) 1=some (Za ch.2.1) from rfl) ?_;walk_at "a";cases e:ch.2.1 with
  | none =>
   rw [e] at k;exact zN (λ _=>k) (λ b=>absurd rfl b)
  | some j =>
   rw [e] at k;refine zN (λ b=>by cases b) (λ _=>?_);refine n6 ht (show atI (chV ch) 1=some (Za ch.2.1) from rfl) ?_;rw [e];exact k
section
variable {H:Hp} {y:Addr} {n:SN} {st:PSt}
def StO.nds (h:StO a H y n st):n.ls ∉ n.lc :: n.lg :: (n.acs ++ n.ags)/\n.lc ∉ n.lg :: (n.acs ++ n.ags)/\n.lg ∉ n.acs ++ n.ags/\∀ x∈n.acs,x ∉ n.ags:=by
 have nd:=h.nd;unfold SN.all at nd;rw [dD,dD,dD,nodup_append] at nd;exact ⟨nd.1,nd.2.1,nd.2.2.1,λ x hx hy=>nd.2.2.2.2.2 x hx x hy rfl⟩
def Jj {us vs:Ar} (hx:H x=some (.lst us)) (h:z7 H b):z7 (upd H x (.lst vs)) b:=by
 obtain ⟨xs,hb⟩:=h;exact ⟨xs,by rw [mX (λ z=>by rw [z,hx] at hb;cases hb)];exact hb⟩
def StO.putC {c':Ax} (h:StO a H y n st) (e:n.acs[i]?=some b) (r:Reps H (z7 H) vs (c'.map qa)):StO a (upd H b (.lst vs)) y n { st with cells:=st.cells.set i c' }:=by
 have hb:=ah e;obtain ⟨us,hu⟩:=h.hc.isl (aF _ hb);obtain ⟨n1,n2,n3,n4⟩:=h.nds;have k:∀ c o,c≠b->H c=some o->upd H b (.lst vs) c=some o:=λ c o nc hc=>by rw [mX nc];exact hc
 have ntb:¬ z7 H b:=λ ⟨xs,hx⟩=>by rw [hu] at hx;cases hx
 refine ⟨k _ _ (λ z=>by rw [<- z,h.hy] at hu;cases hu) h.hy,?_,k _ _ (λ z=>n1 (by rw [z];simp [hb])) h.hs,h.hg.tup λ c o hz hc=>k c o (λ z=>?_) hc,h.nd⟩
 ·have:=h.hc.put (vs:=vs) (ys:=c'.map qa) e ntb r;rw [show zI (st.cells.set i c')=(zI st.cells).set i (c'.map qa) by simp [zI,dO]];exact this.keep (λ _ _ _ hc=>hc) λ c hc _=>Jj hu hc
 ·subst z;rcases hz with rfl|hz|hz
  ·exact n3 (bJ _ hb)
  ·exact n4 c hb hz
  ·exact ntb hz
def StO.putG {g':A8} (h:StO a H y n st) (e:n.ags[i]?=some b):StO a (upd H b (.lst (iv g'))) y n { st with gone:=st.gone.set i g' }:=by
 have hb:=ah e;obtain ⟨us,hu⟩:=h.hg.isl (aF _ hb);obtain ⟨n1,n2,n3,n4⟩:=h.nds;have k:∀ c o,c≠b->H c=some o->upd H b (.lst (iv g')) c=some o:=λ c o nc hc=>by rw [mX nc];exact hc
 have ntb:¬ z7 H b:=λ ⟨xs,hx⟩=>by rw [hu] at hx;cases hx
 refine ⟨k _ _ (λ z=>by rw [<- z,h.hy] at hu;cases hu) h.hy,h.hc.tup λ c o hz hc=>k c o (λ z=>?_) hc,k _ _ (λ z=>n1 (by rw [z];simp [hb])) h.hs,?_,h.nd⟩
 ·subst z;rcases hz with rfl|hz|hz
  ·exact n2 (aF _ (aY _ hb))
  ·exact n4 c hz hb
  ·exact ntb hz
 ·have:=h.hg.put (vs:=iv g') (ys:=g'.map D.int) e ntb reps_ints;rw [show qk (st.gone.set i g')=(qk st.gone).set i (g'.map D.int) by simp [qk,dO]];exact this.keep (λ _ _ _ hc=>hc) λ c hc _=>Jj hu hc
def StO.putS {s':A8} (h:StO a H y n st):StO a (upd H n.ls (.lst (iv s'))) y n { st with sides:=s' }:=by
 obtain ⟨n1,n2,n3,n4⟩:=h.nds;have k:∀ c o,c≠n.ls->H c=some o->upd H n.ls (.lst (iv s')) c=some o:=λ c o nc hc=>by rw [mX nc];exact hc
 have kt:∀ c,z7 H c->c≠n.ls:=λ c ⟨xs,hx⟩ z=>by rw [z,h.hs] at hx;cases hx
 refine ⟨k _ _ (λ z=>by have:=h.hy;rw [z,h.hs] at this;cases this) h.hy,h.hc.tup λ c o hz hc=>k c o (λ z=>?_) hc,mW,h.hg.tup λ c o hz hc=>k c o (λ z=>?_) hc,h.nd⟩
 ·rcases hz with rfl|hz|hz
  ·exact n1 (by rw [<- z];simp)
  ·exact n1 (by rw [<- z];simp [hz])
  ·exact kt c hz z
 ·rcases hz with rfl|hz|hz
  ·exact n1 (by rw [<- z];simp)
  ·exact n1 (by rw [<- z];simp [hz])
  ·exact kt c hz z
def StO.cell {c:Ax} (h:StO a H y n st) (e:st.cells[i]?=some c):∃ b vs,n.acs[i]?=some b/\H b=some (.lst vs)/\Reps H (z7 H) vs (c.map qa):=h.hc.at (by rw [zI,am,e];rfl)
def StO.goneL {g:A8} (h:StO a H y n st) (e:st.gone[i]?=some g):∃ b,n.ags[i]?=some b/\H b=some (.lst (iv g)):=by
 obtain ⟨b,vs,h1,h2,h3⟩:=h.hg.at (i:=i) (xs:=g.map D.int) (by rw [qk,am,e];rfl);rw [Js h3] at h2;exact ⟨b,h1,h2⟩
def sff_l {t:Int} {lc ls lg:Addr}:(sff t lc ls lg).lookup ("cells":Str)=some (.ref lc)/\(sff t lc ls lg).lookup ("sides":Str)=some (.ref ls)/\(sff t lc ls lg).lookup ("gone":Str)=some (.ref lg)/\(sff t lc ls lg).lookup ("turn":Str)=some (.int t):=by
 unfold sff;refine ⟨(zU (by decide +kernel)).trans jf,(zU (by decide +kernel)).trans ((zU (by decide +kernel)).trans jf),(zU (by decide +kernel)).trans ((zU (by decide +kernel)).trans ((zU (by decide +kernel)).trans jf)),jf⟩
def Qi (e:n.acs[i]?=some b):(n.acs.map V.ref)[i]?=some (.ref b):=by rw [am,e];rfl
def Qh (e:n.ags[i]?=some b):(n.ags.map V.ref)[i]?=some (.ref b):=by rw [am,e];rfl
def VQ (e:n.acs[i]?=some b):b∈y :: n.all:=by simp [SN.all,ah e]
def zgo (e:n.ags[i]?=some b):b∈y :: n.all:=by simp [SN.all,ah e]
end
noncomputable def xo (c:Ax):List zC:=c.set (c.length - 1) none
noncomputable def zY (st:PSt) (k:Nat):Option Int->zC × PSt
 | none=>(some ((k:Int),(st.gone.getD k []).headD 0),st)
 | some b=>(wT (zP st.cells b),{ st with cells:=st.cells.set b.toNat (xo (zP st.cells b)) })
def Reps.set {ds:List D} {d:D} (h:Reps H p vs ds) (i:Nat) (r:Rep H p v d):Reps H p (vs.set i v) (ds.set i d):=by
 refine ⟨by rw [bS,bS,h.len],λ j u e h1 h2=>?_⟩;by_cases hj:j=i
 ·subst hj;have hl:j < vs.length:=by have:=(aa.mp h1).1;rw [bS] at this;exact this
  rw [a7 hl] at h1;rw [a7 (by rw [<- h.len];exact hl)] at h2;cases h1;cases h2;exact r
 ·rw [bK (aX hj)] at h1 h2;exact h.g j u e h1 h2
inductive spTaken (a:Ad) (vs:Ar) (H:Hp) (Q:VK) (E:XK):Prop
 | i (y:Addr) (n:SN) (st:PSt) (k:Nat) (fb:Ab) (g0:Int) (gs:A8):vs=[.ref y,.int k,hdV fb]->StO a H y n st->st.gone[k]?=some (g0 :: gs)->(∀ b,fb=some b->∃ i:Nat,b=i/\st.cells[i]?=some (zP st.cells b)/\zP st.cells b≠[])->(∀ v H',Fr (y :: n.all) H H'->StO a H' y n (zY st k fb).2->Rep H' (z7 H') v (qa (zY st k fb).1)->Q v H')->spTaken a vs H Q E
theorem VM (T:Txt K mg a):Cal P w K mg base "taken_ware" 1 ["state","number","from_belt"] [] (spTaken a):=T.kD.cal λ F=>by
 refine F.okx XO ?_ ?_
 ·walk_at "i"
 walk_at "j";rcases h with ⟨y,n,st,kn,fb,g0,gs,rfl,so,hg,hf,k⟩;refine oA4 (sff_l (t:=st.turn) (lc:=n.lc) (ls:=n.ls) (lg:=n.lg)) λ lk1 lk2 lk3 lk4=>?_;walk_at "T";refine ⟨_,(zg (zD (zm je (pq 2) zG (zr _))  (zc (zl (qO (za (pq 1) (za (zo (zo (zj (pq 0) rfl) (pq 1)) zd) zb)))))  zn)  (zg (zp 3 XO.nd (zo (zo (zj (pq 0) rfl) (pq 2)) (Zc xY zd)))  (zg (JY zG (J3 (zo (zj (pq 0) rfl) (pq 2)) (Zc xY zd) wb))  (zc (zl (pq 3)))))),?_⟩;walk_at "a";cases fb with
 | none =>
  refine zN (λ _=>?_) (λ b=>absurd rfl b);obtain ⟨bG,hbG,hgG⟩:=so.goneL hg;walk_at "a";refine ra so.hy T.ad T.gg lk3 (zu (SqL.of so.hg.out) (zE (Qh hbG)) (zu (SqL.of hgG) at0 ?_));walk_at "a";intro t ht;refine k _ _ (zb3 ht) (so.same (zf ht)) ?_;have e:(st.gone.getD kn []).headD 0=g0:=by simp [List.getD,hg]
  show Rep _ _ _ (D.tup [.int kn,.int ((st.gone.getD kn []).headD 0)])
  rw [e];exact Reps.mkT (vs:=[.int kn,.int g0]) (.cons .int (.cons .int .nil)) ⟨_,mW⟩ mW
 | some b =>
  refine oE1 (hf b rfl) λ i m7=>oA3 m7 λ m8 hc nc=>?_;clear m7;subst m8;refine oE2 (so.cell hc) λ bC vs m7=>oA3 m7 λ hbC hvC rvC=>?_;clear m7;have lv:vs.length=(zP st.cells i).length:=by rw [rvC.len,ai]
  have lp:0 < vs.length:=by rw [lv];exact dQ.mpr nc
  obtain ⟨ve,he,re⟩:=zgK rvC (zcv (d:=.non) (by simpa using nc));rw [zaG] at re;refine zN (λ b=>by cases b) (λ _=>?_);walk_at "a";refine ra so.hy T.ad T.gf lk1 (zu (SqL.of so.hc.out) (zE (Qi hbC)) ?_);walk_at "a";refine zu (SqL.of hvC) he ?_;walk_at "a";refine ra so.hy T.ad T.gf lk1 (zu (SqL.of so.hc.out) (zE (Qi hbC)) ?_);walk_at "a";refine vO (j:=vs.length - 1) hvC ?_ ?_
  ·unfold ixN;rw [ap (by decide),ar (by lia)]
   congr 1
   lia
  have e2:(xo (zP st.cells i)).map qa=((zP st.cells i).map qa).set (vs.length - 1) .non:=by
   unfold xo;rw [dO,lv]
   rfl
  have r2:Reps H (z7 H) (vs.set (vs.length - 1) .non) ((xo (zP st.cells i)).map qa):=by rw [e2];exact Reps.set rvC _ .non
  refine k _ _ (qA (VQ hbC)) ?_ ?_
  ·have:=so.putC hbC r2;simpa [zY] using this
  ·refine Rep.keep (λ c o pc hc=>⟨Jj hvC pc,?_⟩) re;obtain ⟨xs,hx⟩:=pc;rw [mX (λ z=>by rw [z,hvC] at hx;cases hx)];exact hc
structure Move where
 k:Nat
 ware:zC
 fr:Option Int
 to:Option Int
noncomputable def zhE:Option Int->D
 | none=>.non
 | some b=>.int b
def zcm (o:Ab):Rep H p (hdV o) (zhE o):=by
 cases o
 ·exact .non
 ·exact .int
noncomputable def WG (m:Move):D:=.tup [.int m.k,qa m.ware,zhE m.fr,zhE m.to]
noncomputable def zhF:Option Move->D
 | none=>.non
 | some m=>WG m
noncomputable def vt (st:PSt) (x:zC):Option Int->PSt
 | none=>st
 | some b=>{ st with cells:=st.cells.set b.toNat ((zP st.cells b).set 0 x) }
noncomputable def ZH (g:A8) (j:Nat):List Int:=g.set j (g.getD j 0 + 1)
noncomputable def qE (r:Row) (ch:Am):Option Int:=ch.1.bind λ j=>r.ins[j]?
noncomputable def Zn (r:Row) (ch:Am):Option Int:=ch.2.1.bind λ j=>r.outs[j]?
noncomputable def movedF (r:Row) (st:PSt) (k:Nat) (ch:Am):PSt:=vt (zY st k (qE r ch)).2 (zY st k (qE r ch)).1 (Zn r ch)
noncomputable def vF (r:Row) (st:PSt) (k:Nat) (ch:Am):PSt × Move :=
 ({ movedF r st k ch with sides:=(movedF r st k ch).sides.set k ch.2.2,gone:=(movedF r st k ch).gone.set k (ZH ((movedF r st k ch).gone.getD k []) (jP r ch)) },⟨k,(zY st k (qE r ch)).1,qE r ch,Zn r ch⟩)
noncomputable def qG (rs:Av) (st:PSt) (k:Nat):PSt × Option Move:=match rs[k]? with
 | none=>(st,none)
 | some r=>match qh r (qp rs st.cells r) (qU st.cells r) st.turn (st.sides.getD k 0).toNat with
  | none=>(st,none)
  | some ch=>((vF r st k ch).1,some (vF r st k ch).2)
def QN {rs:Av} {cs:Aw} (h:xl bs rs cs) {c c':Ax} (e:cs[i]?=some c) (l:c'.length=c.length) (k:∀ x∈c',xX rs x):xl bs rs (cs.set i c'):=by
 refine ⟨by rw [bS];exact h.1,λ j b d h1 h2=>?_⟩;by_cases hj:j=i
 ·subst hj;rw [a7 (aa.mp e).1] at h2;cases h2;exact ⟨by rw [l];exact (h.2 j b c h1 e).1,k⟩
 ·rw [bK (aX hj)] at h2;exact h.2 j b d h1 h2
def Qj {rs:Av}:xX rs none:=λ _ _ z=>nomatch z
def vA {α:Type} {xs:List α} {x y:α} (h:y∈xs.set i x):y∈xs\/y=x:=List.mem_or_eq_of_mem_set h
theorem wp {r:Row} {hs:List Ab} {bs:Ak} {t:Int} {side:Nat} {ch:Am} (ok:r.ok) (hl:hs.length=r.ins.length) (bl:bs.length=r.outs.length) (sd:wx r side) (h:qh r hs bs t side=some ch) :
  (∀ j,ch.1=some j->j < r.ins.length)/\(∀ j,ch.2.1=some j->j < r.outs.length)/\(r.wd=.joiner->∃ j,ch.1=some j)/\(ch.1=none->r.wd=.source)/\wx r ch.2.2/\jP r ch < (qF r).length:=by
 obtain ⟨wd,ins,outs,pace,kinds⟩:=r;have cp:=xG ok;unfold qh at h;cases wd with
 | source =>
  simp only at h;obtain ⟨h1,⟨o,h2⟩,_⟩:=ok;simp only at h1 h2;subst h1 h2
  split at h
  ·cases h;exact ⟨(λ j z=>nomatch z),λ j z=>by cases z;simp,(λ z=>nomatch z),λ _=>rfl,sd,by simp [jP];lia⟩
  ·cases h
 | drain =>
  simp only at h;obtain ⟨⟨o,h1⟩,h2,_⟩:=ok;simp only at h1 h2;subst h1 h2
  split at h
  ·cases h
  ·cases h;exact ⟨λ j z=>by cases z;simp,(λ j z=>nomatch z),(λ z=>nomatch z),(λ z=>nomatch z),sd,by simp [jP];lia⟩
 | parter =>
  simp only at h;obtain ⟨⟨o,h1⟩,h2,h3⟩:=ok;simp only at h1 h2 h3 bl;subst h1
  split at h
  ·cases h
  ·rw [ao] at h;obtain ⟨q,hq,rfl⟩:=h;have hlt:=wn hq;refine ⟨λ j z=>by cases z;simp,λ j z=>by cases z;show q < outs.length;lia,(λ z=>nomatch z),(λ z=>nomatch z),⟨cz _,λ _=>?_,(λ z=>nomatch z),λ z=>absurd rfl z⟩,?_⟩
   ·have:=c8 (q + 1) (show 0 < bs.length by lia);show (((q + 1) % bs.length:Nat):Int) < outs.length
    lia
   ·simp only [jP,aK];rw [ap (by decide)];show q < (List.replicate (max 1 outs.length) 0).length
    rw [bd]
    lia
 | first =>
  simp only at h;obtain ⟨⟨o,h1⟩,h2,h3⟩:=ok;simp only at h1 h2 h3 bl;subst h1
  split at h
  ·cases h
  ·rw [ao] at h;obtain ⟨q,hq,rfl⟩:=h;have hlt:=wn hq;refine ⟨λ j z=>by cases z;simp,λ j z=>by cases z;show q < outs.length;lia,(λ z=>nomatch z),(λ z=>nomatch z),sd,?_⟩;simp only [jP,aK];rw [ap (by decide)];show q < (List.replicate (max 1 outs.length) 0).length
   rw [bd]
   lia
 | sieve =>
  simp only at h;obtain ⟨⟨o,h1⟩,h2,_⟩:=ok;simp only at h1 h2 bl;subst h1
  split at h
  ·cases h
  ·generalize (if hs.getD 0 none=some (kinds.headD 0) then 0 else 1)=q at h;have q2:q=q:=rfl
   split at h
   ·rename_i hb;cases h;have hlt:q < outs.length:=by
     rcases Nat.lt_or_ge q bs.length with z|z
     ·lia
     ·rw [ae,aZ z] at hb;cases hb
    refine ⟨λ j z=>by cases z;simp,λ j z=>by cases z;exact hlt,(λ z=>nomatch z),(λ z=>nomatch z),sd,?_⟩;simp only [jP,aK];rw [ap (by decide)];show q < (List.replicate (max 1 outs.length) 0).length
    rw [bd]
    lia
   ·cases h
 | joiner =>
  simp only at h;obtain ⟨⟨o,h1⟩,h2,h3⟩:=ok;simp only at h1 h2 h3 hl;subst h1
  split at h
  ·rw [ao] at h;obtain ⟨q,hq,rfl⟩:=h;have hlt:=wn hq;rw [ai] at hlt;refine ⟨λ j z=>by cases z;show q < ins.length;lia,λ j z=>by cases z;simp,λ _=>⟨q,rfl⟩,(λ z=>nomatch z),⟨cz _,(λ z=>nomatch z),λ _=>?_,λ _ z=>absurd rfl z⟩,?_⟩
   ·have:=c8 (q + 1) (show 0 < hs.length by lia);show (((q + 1) % hs.length:Nat):Int) < ins.length
    lia
   ·simp only [jP,aK];rw [ar trivial];show q < (List.replicate (max ins.length 1) 0).length
    rw [bd]
    lia
  ·cases h
theorem VW {rs:Av} {st:PSt} {r:Row} {fb:Ab} (wf:stWf bs rs st) (mP:zR bs rs) (bo:∀ b∈bs,zB b.1 b.2) (ro:∀ r∈rs,r.ok) (hr:rs[k]?=some r) (hf:∀ b,fb=some b->b∈rgI bs.length) (hn:fb=none->r.wd=.source) :
  stWf bs rs (zY st k fb).2/\xX rs (zY st k fb).1:=by
 cases fb with
 | none =>
  refine ⟨wf,λ s n z=>?_⟩;have z:((k:Int),(st.gone.getD k []).headD 0)=(s,n):=aT z;cases z;refine ⟨k,r,rfl,hr,hn rfl,?_⟩;have hk:=(aa.mp hr).1;have hg:st.gone[k]?=some (st.gone.getD k []):=by
   rw [ae,ac (by rw [wf.go.1];exact hk)]
   rfl
  obtain ⟨q1,q2⟩:=wf.go.2 k r _ hr hg;have cp:=xG (ro r (ah hr));cases e:st.gone.getD k [] with
  | nil=>rw [e] at q1;simp at q1;lia
  | cons x xs=>exact q2 x (by rw [e];simp)
 | some b =>
  obtain ⟨i,rfl,hi,ei,ne,wk⟩:=wU wf.co bo (hf b rfl);refine ⟨⟨?_,wf.so,wf.go⟩,wk _ (zcH ne)⟩;show xl bs rs (st.cells.set _ _)
  rw [aB];refine QN wf.co ei (by simp [xo]) λ x hx=>?_;rcases vA hx with h|h
  ·exact wk x h
  ·rw [h];exact Qj
def zas {rs:Av} {st:PSt} {x:zC} {tb:Ab} (wf:stWf bs rs st) (bo:∀ b∈bs,zB b.1 b.2) (hf:∀ b,tb=some b->b∈rgI bs.length) (hx:xX rs x):stWf bs rs (vt st x tb):=by
 cases tb with
 | none=>exact wf
 | some b =>
  obtain ⟨i,rfl,hi,ei,ne,wk⟩:=wU wf.co bo (hf b rfl);refine ⟨?_,wf.so,wf.go⟩;show xl bs rs (st.cells.set _ _)
  rw [aB];refine QN wf.co ei (by simp) λ z hz=>?_;rcases vA hz with h|h
  ·exact wk z h
  ·rw [h];exact hx
def zeq {rs:Av} {sds:A8} {r:Row} {s:Int} (h:Vb rs sds) (hr:rs[k]?=some r) (hs:wx r s):Vb rs (sds.set k s):=by
 refine ⟨by rw [bS];exact h.1,λ j r2 s2 h1 h2=>?_⟩;by_cases hj:j=k
 ·subst hj;rw [a7 (by rw [h.1];exact (aa.mp h1).1)] at h2;cases h2;rw [hr] at h1;cases h1;exact hs
 ·rw [bK (aX hj)] at h2;exact h.2 j r2 s2 h1 h2
def qo {α:Type} {xs:List α} {d:α} (h:k < xs.length):xs[k]?=some (xs.getD k d):=by
 rw [ae,ac h];rfl
def zcX {g:A8} (h:∀ x∈g,0<=x):(ZH g j).length=g.length/\∀ x∈ZH g j,0<=x:=by
 refine ⟨by simp [ZH],λ x hx=>?_⟩;rcases vA hx with z|z
 ·exact h x z
 ·rw [z];have:0<=g.getD j 0:=by
   rw [ae];cases e:g[j]? with
   | none=>simp
   | some v=>exact h v (ah e)
  lia
def zgq {rs:Av} {st:PSt} (wf:stWf bs rs st) (mP:zR bs rs) (bo:∀ b∈bs,zB b.1 b.2) (ro:∀ r∈rs,r.ok):stWf bs rs (qG rs st k).1:=by
 unfold qG;cases hr:rs[k]? with
 | none=>exact wf
 | some r =>
  simp only;have hk:=(aa.mp hr).1;have ok:=ro r (ah hr);have hsd:=wf.so.2 k r _ hr (qo (d:=0) (by rw [wf.so.1];exact hk));have hsd':wx r ((st.sides.getD k 0).toNat:Int):=by rw [cg hsd.1];exact hsd
  cases hc:qh r (qp rs st.cells r) (qU st.cells r) st.turn (st.sides.getD k 0).toNat with
  | none=>exact wf
  | some ch =>
   obtain ⟨c1,c2,c3,c4,c5,c6⟩:=wp ok (by simp [qp]) (by simp [qU]) hsd' hc;have hfb:∀ b,qE r ch=some b->b∈rgI bs.length:=λ b hb=>by
    unfold qE at hb;obtain ⟨j,hj1,hj2⟩:=bW.mp hb;exact Jt mP hr (ah hj2)
   have htb:∀ b,Zn r ch=some b->b∈rgI bs.length:=λ b hb=>by
    unfold Zn at hb;obtain ⟨j,hj1,hj2⟩:=bW.mp hb;exact J5 mP hr (ah hj2)
   have hfn:qE r ch=none->r.wd=.source:=λ hb=>by
    cases e:ch.1 with
    | none=>exact c4 e
    | some j =>
     unfold qE at hb;rw [e] at hb;simp at hb;have:=c1 j e
     lia
   obtain ⟨w1,w2⟩:=VW wf mP bo ro hr hfb hfn;have w3:=zas w1 bo htb w2;refine ⟨w3.co,zeq w3.so hr c5,?_⟩;have hg:=qo (xs:=(movedF r st k ch).gone) (k:=k) (d:=[]) (by rw [show (movedF r st k ch).gone.length=rs.length from w3.go.1];exact hk);obtain ⟨q1,q2⟩:=w3.go.2 k r _ hr hg;exact ze6 w3.go hg (zcX q2).1 (zcX q2).2
def KnP.no {y C dx:Addr} {r:Row} {f:Str} (h:KnP a H p (.ref y) r) (hy:H y=some (.ins C dx fs)) (h1:f≠"ins") (h2:f≠"outs") (h3:f≠"pace") (h4:f≠"kinds") (h5:f≠"kind"):fs.lookup f=none:=by
 obtain ⟨y',dx',fs',e,_,hy',_,g⟩:=Rep.ob' h;cases e;rw [hy] at hy';cases hy';exact g f (zeW h1 h2 h3 h4 h5)
def StO.offT {y:Addr} {n:SN} {st:PSt} (h:StO a H y n st) (t:z7 H b):b ∉ y :: n.all:=by
 obtain ⟨xs,hx⟩:=t;intro hb;have no:∀ us,H b≠some (.lst us):=λ us e=>by rw [hx] at e;cases e
 unfold SN.all at hb;rcases az.mp hb with rfl|hb
 ·rw [h.hy] at hx;cases hx
 rcases az.mp hb with rfl|hb
 ·exact no _ h.hs
 rcases az.mp hb with rfl|hb
 ·exact no _ h.hc.out
 rcases az.mp hb with rfl|hb
 ·exact no _ h.hg.out
 rcases aH.mp hb with hb|hb
 ·obtain ⟨us,e⟩:=h.hc.isl (aF _ hb);exact no _ e
 ·obtain ⟨us,e⟩:=h.hg.isl (aF _ hb);exact no _ e
def StO.repT {H H':Hp} {y:Addr} {n:SN} {st:PSt} (h:StO a H y n st) (s:Fr (y :: n.all) H H') {d:D} (r:Rep H (z7 H) v d):Rep H' (z7 H') v d :=
 Rep.keep (λ b o hp hb=>⟨by obtain ⟨xs,hx⟩:=hp;exact ⟨xs,s _ _ (h.offT ⟨xs,hx⟩) hx⟩,s _ _ (h.offT hp) hb⟩) r
def ze0 (ns:A8) (k:Nat) (x:Int):(iv ns).set k (.int x)=iv (ns.set k x):=by simp [iv]
def zdm {H H':Hp} {d:D} (r:Rep H (z7 H) v d) (s:Same H H'):Rep H' (z7 H') v d:=Rep.keep (λ b o ⟨xs,hx⟩ hb=>⟨⟨xs,s _ _ hx⟩,s _ _ hb⟩) r
inductive spAct (a:Ad) (vs:Ar) (H:Hp) (Q:VK) (E:XK):Prop
 | i (vw:V) (y:Addr) (n:SN) (st:PSt) (k:Nat) (bs:A3) (rs:Av):vs=[vw,.ref y,.int k]->Rep H (Off (y :: n.all)) vw (qz a bs rs)->StO a H y n st->stWf bs rs st->zR bs rs->(∀ b∈bs,zB b.1 b.2)->(∀ r∈rs,r.ok)->k < rs.length->(∀ v H',Fr (y :: n.all) H H'->StO a H' y n (qG rs st k).1->Rep H' (z7 H') v (zhF (qG rs st k).2)->Q v H')->spAct a vs H Q E
def zhf (T:Txt K mg a) (F:Fun K "act" "act" zal f fd):FnOk P w K mg base (CXr P w) 4 f fd ["work","state","number"] (spAct a):=by
 refine F.okx zgX ?_ ?_
 ·walk_at "i"
 walk_at "j";rcases h with ⟨vw,y,n,st,kn,bs,rs,rfl,hw,so,wf,mP,bo,ro,hk,k⟩;refine oE7 (qV hw) λ yw dw fw l1 l2 bvs mK m7=>oA9 m7 λ m8 hyw ew1 ew2 hl1 hl2 hB hK no=>?_;clear m7;subst m8;obtain ⟨r,hr'⟩:∃ r,rs[kn]?=some r:=⟨rs[kn],ac hk⟩;have ok:=ro r (ah hr');have rl:=xz ok;obtain ⟨kv,hkv,hKn⟩:=Jp hK hr';refine oE6 hKn.inv λ y1 dx1 m1 m2 m3 fs1 m7=>oA9 m7 λ m8 _ _ _ _ g0 f1 f2 mR=>oA5 mR λ _ g1 g2 _ _=>?_;clear m7 mR;subst m8;have fno:=hKn.no (f:="choice") g0 (by decide +kernel) (by decide +kernel) (by decide +kernel) (by decide +kernel) (by decide +kernel);have hsd:=wf.so.2 kn r _ hr' (qo (d:=0) (by rw [wf.so.1];exact hk));obtain ⟨side,esd⟩:∃ sd:Nat,st.sides.getD kn 0=sd:=⟨(st.sides.getD kn 0).toNat,(cg hsd.1).symm⟩;have hside:st.sides[kn]?=some (side:Int):=by rw [<- esd];exact qo (by rw [wf.so.1];exact hk)
 have hsd':wx r (side:Int):=by rw [<- esd];exact hsd
 have esd':(st.sides.getD kn 0).toNat=side:=by rw [esd];rfl
 refine oA4 (sff_l (t:=st.turn) (lc:=n.lc) (ls:=n.ls) (lg:=n.lg)) λ lk1 lk2 lk3 lk4=>?_;have hAct:∀ x,qh r (qp rs st.cells r) (qU st.cells r) st.turn side=x->qG rs st kn=match x with|none=>(st,none)|some ch=>((vF r st kn ch).1,some (vF r st kn ch).2):=λ x e=>by
  unfold qG;rw [hr'];simp only;rw [esd',e]
  all_goals (cases x <;> rfl)
 walk_at "T";refine ⟨_,(zh (zp 3 zgX.nd (zo (zj (pq 0) rfl) (pq 2)))  (zh (JX (i:=4) zgX.nd rfl (Or.inl rfl) (vars:=["belt"]) (caps:=[1]) (N:=["belt","state"]) (ON:=["work","state","number","knot","free","chosen","from_belt","to_belt","ware"]) (osc:=ze zal) rfl rfl (by first|decide +kernel|kernel_rfl) rfl rfl (qm (zj (pq 3) rfl)) (λ _ _ _ _=>(qg 0 (show (["belt","state"]:Aa).Nodup from by decide +kernel))) (λ _ _ _ _=>qe) (λ _ _ _ _=>(Vp op_isN (zo (zo (zj (pq 1) rfl) (pq 0)) zd) zG (zr _))))  (zh (zp 5 zgX.nd (QD ⟨rfl,rfl,rfl⟩ hr (pq 3) (za (zx ⟨rfl,rfl,rfl⟩ hr (za (pq 0) (za (pq 1) (za (pq 3) zb)))) (za (pq 4) (za (zj (pq 1) rfl) (za (zo (zj (pq 1) rfl) (pq 2)) zb))))))  (zh (zD (zm je (pq 5) zG (zr _))  (zc (zl zG))  zn)  (zh (zp 6 zgX.nd (zx ⟨rfl,rfl,rfl⟩ hr (za (zj (pq 3) rfl) (za (zo (pq 5) zd) zb))))  (zh (zp 7 zgX.nd (zx ⟨rfl,rfl,rfl⟩ hr (za (zj (pq 3) rfl) (za (zo (pq 5) zd) zb))))  (zh (zp 8 zgX.nd (zx ⟨rfl,rfl,rfl⟩ hr (za (pq 1) (za (pq 2) (za (pq 6) zb)))))  (qd (zD (zm Vq (pq 7) zG (zr _))  (zc (JY (pq 8) (J3 (zo (zj (pq 1) rfl) (pq 7)) zd wb)))  zn)  (zh (JY (zo (pq 5) zd) (J3 (zj (pq 1) rfl) (pq 2) wb))  (zh (zfU (zo (zj (pq 1) rfl) (pq 2)) (zx ⟨rfl,rfl,rfl⟩ hr (za (pq 3) (za (pq 5) zb))) ze8 zd zhw wb)  (zc (zl (qO (za (pq 2) (za (pq 8) (za (pq 6) (za (pq 7) zb))))))))))))))))),?_⟩;walk_at "a";refine ra hyw T.gj T.gi ew2 (zu (SqL.of hl2) (zE hkv) ?_);walk_at "a";walk_at "e";walk_at "a";refine ra g0 (CT T _) (NO T _) f2 ⟨m2,rfl,.inl ⟨⟨_,SqL.of g2⟩,λ _ _ _ _ mQ hacc=>?_⟩⟩;refine qM (K:=K) (a:=m2) (xs:=iv r.outs) (λ i σ H'=>∃ (v0:As),σ=[v0,some (.ref y)]/\Same H H'/\H' mQ=some (.lst (((qU st.cells r).take i).map V.bl))) ⟨_,iA3 rfl (zf hacc) (by rw [bZ];exact mW)⟩ (λ i σ H' _ h=>by obtain ⟨_,_,s,_⟩:=h;exact SqL.of (s _ _ g2)) ?_ ?_
 ·intro i x σ H2 hi m9;refine oE1 m9 λ v0 m7=>oA3 m7 λ m8 s2 ha=>?_;clear m7 m9;subst m8;obtain ⟨b,hb,rfl⟩:=Zh hi;have hil:=(aa.mp hb).1;refine oE1 (wU wf.co bo (J5 mP hr' (ah hb))) λ j m7=>oA5 m7 λ m8 hj ej nej _=>?_;clear m7;subst m8;refine oE2 (so.cell ej) λ bC vs m7=>oA3 m7 λ hbC hvC rvC=>?_;clear m7;obtain ⟨c0,cs,ec⟩:∃ c0 cs,zP st.cells j=c0 :: cs:=cU nej;have hfr:(qU st.cells r)[i]?=some (decide (c0=none)):=by rw [qU,am,hb];simp [ec,zgj]
  rw [ec] at rvC;obtain ⟨v1,hv1,rv1⟩:=rvC.of (i:=0) (d:=qa c0) rfl;walk_at "a";refine ra (s2 _ _ so.hy) T.ad T.gf lk1 (zu (SqL.of (s2 _ _ so.hc.out)) (zE (Qi hbC)) (zu (SqL.of (s2 _ _ hvC)) (zE (j:=0) hv1) ?_));walk_at "a";have ev:decide (v1=V.non)=decide (c0=none):=by
   cases c0 with
   | none=>cases rv1;rfl
   | some x=>obtain ⟨t,us,rfl,_⟩:=Rep.tup' rv1;rfl
  rw [ev];refine ⟨_,iA3 ha (zk (by rw [ai,aS];lia)) ⟨_,iA3 rfl (λ b o hb=>by rw [mX (mY hb hacc)];exact s2 b o hb) ?_⟩⟩;rw [mW,aN,hfr,bg]
  rfl
 intro σ H2 m9;refine oE1 m9 λ v0 m7=>oA3 m7 λ m8 s2 ha=>?_;clear m7 m9;subst m8;rw [zy,cP (by simp [qU])] at ha;walk_at "a";refine iE7 y1 (wo a r.wd) dx1 fs1 _ _ _ (iA5 rfl (s2 _ _ g0) fno ((zeQ T r.wd).mono) ?_);refine uc (zce T).mono (spHeads.i _ _ _ bs rs st kn r _ _ rfl (jb hw s2) ((so.same s2).rep) (jb hKn s2) hr' mP bo ro wf.co (λ hl H3 s3 nhl hhl=>?_));have s23:=s2.trans s3;refine ra (s23 _ _ so.hy) T.ad T.dl lk4 ?_;refine ra (s23 _ _ so.hy) T.ad T.gm lk2 (zu (SqL.of (s23 _ _ so.hs)) (zE (jN hside)) ?_);refine iE5 y1 hl mQ r _ (iE4 (qp rs st.cells r) (qU st.cells r) st.turn side (iA9 rfl (jb hKn s23) rfl ok hhl (s3 _ _ ha) (by simp [qp]) (by simp [qU]) (λ vc H4 s4 tc=>?_)));have s24:=s23.trans s4;have so4:=so.same s24;have hKn4:=jb hKn s24;walk_at "a";cases hc:qh r (qp rs st.cells r) (qU st.cells r) st.turn side with
 | none =>
  rw [hc] at tc;have tc:vc=.non:=tc;subst tc;have e:=hAct _ hc;refine zN (λ _=>?_) (λ b=>absurd rfl b);walk_at "a";refine k _ _ s24.fr ?_ ?_
  ·rw [e];exact so4
  ·rw [e];exact .non
 | some ch =>
  rw [hc] at tc;obtain ⟨ct,rfl,hct⟩:=tc;have e:=hAct _ hc;refine oA6 (wp ok (by simp [qp]) (by simp [qU]) hsd' hc) λ c1 c2 c3 c4 c5 c6=>?_;have hfb:∀ b,qE r ch=some b->b∈rgI bs.length:=λ b hb=>by
   unfold qE at hb;obtain ⟨j,hj1,hj2⟩:=bW.mp hb;exact Jt mP hr' (ah hj2)
  have htb:∀ b,Zn r ch=some b->b∈rgI bs.length:=λ b hb=>by
   unfold Zn at hb;obtain ⟨j,hj1,hj2⟩:=bW.mp hb;exact J5 mP hr' (ah hj2)
  have hfn:qE r ch=none->r.wd=.source:=λ hb=>by
   cases e:ch.1 with
   | none=>exact c4 e
   | some j =>
    unfold qE at hb;rw [e] at hb;simp at hb;have:=c1 j e
    lia
  obtain ⟨w1,w2⟩:=VW wf mP bo ro hr' hfb hfn;have w3:=zas w1 bo htb w2;have hg0:=qo (xs:=st.gone) (k:=kn) (d:=[]) (by rw [wf.go.1];exact hk);obtain ⟨q1,q2⟩:=wf.go.2 kn r _ hr' hg0;have cp:=xG ok;obtain ⟨g0',gs,eg⟩:∃ g0 gs,st.gone.getD kn []=g0 :: gs:=cU λ z=>by rw [z] at q1;simp at q1;lia
  rw [eg] at hg0;refine zN (λ b=>by cases b) (λ _=>?_);walk_at "a";refine uc (WK T).mono (ra (s24 _ _ g0) (CT T _) (NI T _) f1 (n6 hct at0 ?_));refine iE3 m1 r.ins ch.1 (iA4 rfl (s24 _ _ g1) c1 ?_);walk_at "a";refine uc (WK T).mono (ra (s24 _ _ g0) (CT T _) (NO T _) f2 (n6 hct (show atI (chV ch) 1=some (Za ch.2.1) from rfl) ?_));refine iE3 m2 r.outs ch.2.1 (iA4 rfl (s24 _ _ g2) c2 ?_);walk_at "a";refine uc (VM T).mono (spTaken.i y n st kn (qE r ch) g0' gs rfl so4 hg0 (λ b hb=>?_) (λ v5 H5 f5 so5 rv5=>?_))
  ·refine oE1 (wU wf.co bo (hfb b hb)) λ i m7=>oA5 m7 λ e1 _ e2 e3 _=>?_;clear m7;exact ⟨i,iA3 e1 e2 e3⟩
  have hct5:=f5 _ _ (so4.offT ⟨_,hct⟩) hct;have hKn5:=hKn4.fr f5;have fr5:=(s24.fr (ms:=y :: n.all)).trans f5;rw [show (ch.1.bind λ j=>r.ins[j]?)=qE r ch from rfl,show (ch.2.1.bind λ j=>r.outs[j]?)=Zn r ch from rfl];walk_at "a";refine cut (λ σ' H'=>σ'=[some (.ref yw),some (.ref y),some (.int kn),some (.ref y1),some (.ref mQ),some (.ref ct),some (hdV (qE r ch)),some (hdV (Zn r ch)),some v5]/\Fr (y :: n.all) H5 H'/\StO a H' y n (movedF r st kn ch)) ?_ ?_
  ·have w4:=λ b (hb:Zn r ch=some b)=>wU w1.co bo (htb b hb);unfold movedF;generalize Zn r ch=tb at w4 ⊢;walk_at "a";cases tb with
   | none =>
    refine zN (λ b=>absurd rfl b) (λ _=>?_);walk_at "a";exact ⟨.refl,so5⟩
   | some b =>
    refine oE1 (w4 b rfl) λ i m7=>oA5 m7 λ m8 _ e2 e3 _=>?_;clear m7;subst m8;refine oE2 (so5.cell e2) λ bC vs m7=>oA3 m7 λ hbC hvC rvC=>?_;clear m7;have lv:vs.length=(zP (zY st kn (qE r ch)).2.cells i).length:=by rw [rvC.len,ai]
    have lp:0 < vs.length:=by rw [lv];exact dQ.mpr e3
    refine zN (λ _=>?_) (λ b=>absurd (λ z=>by cases z) b);walk_at "a";refine ra so5.hy T.ad T.gf sff_l.1 (zu (SqL.of so5.hc.out) (zE (Qi hbC)) ?_);walk_at "a";refine vO (j:=0) hvC (Xo (by decide) (by simpa using lp)) ?_;refine ⟨qA (VQ hbC),?_⟩;have:=so5.putC hbC (c':=(zP (zY st kn (qE r ch)).2.cells i).set 0 (zY st kn (qE r ch)).1) (by rw [dO];exact Reps.set rvC 0 rv5);simpa [vt] using this
  rintro σ H6 ⟨rfl,f6,so6⟩;have hct6:=f6 _ _ (so5.offT ⟨_,hct5⟩) hct5;have hKn6:=hKn5.fr f6;have rv6:=so5.repT f6 rv5;have fr6:=fr5.trans f6;walk_at "a";refine n6 hct6 (show atI (chV ch) 2=some (.int ch.2.2) from rfl) ?_;walk_at "a";refine ra so6.hy T.ad T.gm sff_l.2.1 (vO so6.hs (Xo (cz _) (by rw [zy,show (movedF r st kn ch).sides.length=rs.length from w3.so.1];exact Int.ofNat_lt.mpr hk)) ?_);rw [aB,ze0];have so7:=so6.putS (s':=(movedF r st kn ch).sides.set kn ch.2.2);have f7:Fr (y :: n.all) H6 (upd H6 n.ls (.lst (iv ((movedF r st kn ch).sides.set kn ch.2.2)))):=qA (by simp [SN.all]);have hct7:=f7 _ _ (so6.offT ⟨_,hct6⟩) hct6;have hKn7:=hKn6.fr f7;have rv7:=so6.repT f7 rv6;have fr7:=fr6.trans f7;generalize upd H6 n.ls (.lst (iv ((movedF r st kn ch).sides.set kn ch.2.2)))=H7 at so7 hct7 hKn7 rv7 fr7 ⊢;have hg7:=qo (xs:=(movedF r st kn ch).gone) (k:=kn) (d:=[]) (by rw [show (movedF r st kn ch).gone.length=rs.length from w3.go.1];exact hk);obtain ⟨p1,p2⟩:=w3.go.2 kn r _ hr' hg7;obtain ⟨bG,hbG,hgG⟩:=so7.goneL hg7;have e0:vF r st kn ch=({ movedF r st kn ch with sides:=(movedF r st kn ch).sides.set kn ch.2.2,gone:=(movedF r st kn ch).gone.set kn (ZH ((movedF r st kn ch).gone.getD kn []) (jP r ch)) },⟨kn,(zY st kn (qE r ch)).1,qE r ch,Zn r ch⟩):=rfl;have so8:=so7.putG (g':=ZH ((movedF r st kn ch).gone.getD kn []) (jP r ch)) hbG;generalize (movedF r st kn ch).gone.getD kn []=g at *;have hcp:jP r ch < g.length:=by rw [p1];exact c6
  walk_at "a";unfold zgx;walk_at "a";refine ra so7.hy T.ad T.gg sff_l.2.2.1 (zu (SqL.of so7.hg.out) (zE (Qh hbG)) ?_);walk_at "a";refine uc (Jh T).mono (spCounted.i _ ct r ch _ rfl hKn7 hct7 c3 ?_);refine iE4 bG _ (jP r ch) _ (iA6 rfl rfl (SqL.of hgG) (cz _) (zE (jN (qo (d:=0) hcp))) ?_);walk_at "a";refine vO hgG (Xo (cz _) (by rw [zy];exact Int.ofNat_lt.mpr hcp)) ?_;rw [aB,ze0];have f8:Fr (y :: n.all) H7 (upd H7 bG (.lst (iv (g.set (jP r ch) (g.getD (jP r ch) 0 + 1))))):=qA (zgo hbG);have rv8:=so7.repT f8 rv7;change StO a (upd H7 bG (.lst (iv (g.set (jP r ch) (g.getD (jP r ch) 0 + 1))))) y n _ at so8;have fr8:=fr7.trans f8;generalize e8:upd H7 bG (.lst (iv (g.set (jP r ch) (g.getD (jP r ch) 0 + 1))))=H8 at so8 f8 rv8 fr8 ⊢;walk_at "a";intro t ht;refine k _ _ (fr8.trans (zb3 ht)) ?_ ?_
  ·rw [e];simp only;rw [e0];exact so8.same (zf ht)
  ·rw [e];simp only;rw [e0];exact Reps.mkT (vs:=[.int kn,v5,hdV (qE r ch),hdV (Zn r ch)]) (.cons .int (.cons (zdm rv8 (zf ht)) (.cons (zcm _) (.cons (zcm _) .nil)))) ⟨_,mW⟩ mW
def zis (T:Txt K mg a):Cal P w K mg base "act" 4 ["work","state","number"] [] (spAct a):=T.mH.cal (zhf T)
noncomputable def zF (rs:Av) (st:PSt):Nat->PSt × List Move
 | 0=>(st,[])
 | i + 1=>((qG rs (zF rs st i).1 i).1,(zF rs st i).2 ++ (qG rs (zF rs st i).1 i).2.toList)
theorem jn {bs:A3} {rs:Av} {st:PSt} (wf:stWf bs rs st) (mP:zR bs rs) (bo:∀ b∈bs,zB b.1 b.2) (ro:∀ r∈rs,r.ok):∀ i,stWf bs rs (zF rs st i).1
 | 0=>wf
 | i + 1=>zgq (jn wf mP bo ro i) mP bo ro
theorem XH (rs:Av) (st:PSt):∀ i,(zF rs st i).2.length<=i
 | 0=>au _
 | i + 1=>by
  have:=XH rs st i;show ((zF rs st i).2 ++ (qG rs (zF rs st i).1 i).2.toList).length<=i + 1
  rw [aQ];cases (qG rs (zF rs st i).1 i).2 with
  | none=>exact Nat.le_succ_of_le this
  | some _=>exact Nat.succ_le_succ this
section
variable {H H':Hp} {y:Addr} {n:SN} {st:PSt}
def StO.offN (h:StO a H y n st) (e:H b=none):b ∉ y :: n.all:=by
 have no:∀ o,H b≠some o:=λ o z=>by rw [e] at z;cases z
 intro hb;unfold SN.all at hb;rcases az.mp hb with rfl|hb
 ·exact no _ h.hy
 rcases az.mp hb with rfl|hb
 ·exact no _ h.hs
 rcases az.mp hb with rfl|hb
 ·exact no _ h.hc.out
 rcases az.mp hb with rfl|hb
 ·exact no _ h.hg.out
 rcases aH.mp hb with hb|hb
 ·obtain ⟨us,z⟩:=h.hc.isl (aF _ hb);exact no _ z
 ·obtain ⟨us,z⟩:=h.hg.isl (aF _ hb);exact no _ z
def StO.out {M:Addr} {us vs:Ar} (h:StO a H y n st) (e:H M=some (.lst us)) (nM:M ∉ y :: n.all):StO a (upd H M (.lst vs)) y n st:=by
 have k:∀ c o,c≠M->H c=some o->upd H M (.lst vs) c=some o:=λ c o nc hc=>by rw [mX nc];exact hc
 have kt:∀ c,z7 H c->c≠M:=λ c ⟨xs,hx⟩ z=>by rw [z,e] at hx;cases hx
 refine ⟨k _ _ (λ z=>nM (by rw [<- z];simp)) h.hy,h.hc.tup λ c o hz hc=>k c o (λ z=>?_) hc,k _ _ (λ z=>nM (by rw [<- z];simp [SN.all])) h.hs,h.hg.tup λ c o hz hc=>k c o (λ z=>?_) hc,h.nd⟩
 ·rcases hz with rfl|hz|hz
  ·exact nM (by rw [<- z];simp [SN.all])
  ·exact nM (by rw [<- z];simp [SN.all,hz])
  ·exact kt c hz z
 ·rcases hz with rfl|hz|hz
  ·exact nM (by rw [<- z];simp [SN.all])
  ·exact nM (by rw [<- z];simp [SN.all,hz])
  ·exact kt c hz z
def StO.repsT (h:StO a H y n st) (s:Fr (y :: n.all) H H') {ds:List D} (r:Reps H (z7 H) vs ds):Reps H' (z7 H') vs ds :=
 ⟨r.len,λ i v d h1 h2=>h.repT s (r.g i v d h1 h2)⟩
def zap {M:Addr} {us vs:Ar} (e:H M=some (.lst us)) {d:D} (r:Rep H (z7 H) v d):Rep (upd H M (.lst vs)) (z7 (upd H M (.lst vs))) v d :=
 Rep.keep (λ b o hp hb=>⟨Jj e hp,by obtain ⟨xs,hx⟩:=hp;rw [mX (λ z=>by rw [z,e] at hx;cases hx)];exact hb⟩) r
def zdl {M:Addr} {us vs:Ar} (e:H M=some (.lst us)) {ws:Ar} {ds:List D} (r:Reps H (z7 H) ws ds):Reps (upd H M (.lst vs)) (z7 (upd H M (.lst vs))) ws ds :=
 ⟨r.len,λ i v d h1 h2=>zap e (r.g i v d h1 h2)⟩
end
inductive spActAll (a:Ad) (vs:Ar) (H:Hp) (Q:VK) (E:XK):Prop
 | i (vw:V) (y:Addr) (n:SN) (st:PSt) (bs:A3) (rs:Av):vs=[vw,.ref y]->Rep H (Off (y :: n.all)) vw (qz a bs rs)->StO a H y n st->stWf bs rs st->zR bs rs->(∀ b∈bs,zB b.1 b.2)->(∀ r∈rs,r.ok)->(∀ l us H',Fr (y :: n.all) H H'->StO a H' y n (zF rs st rs.length).1->H l=none->l ∉ y :: n.all->H' l=some (.lst us)->Reps H' (z7 H') us ((zF rs st rs.length).2.map WG)->Q (.ref l) H')->spActAll a vs H Q E
theorem zdU (T:Txt K mg a):Cal P w K mg base "act_all" 5 ["work","state"] [] (spActAll a):=T.lT.cal λ F=>by
 refine F.okx zbt ?_ ?_
 ·walk_at "i"
 walk_at "j";rcases h with ⟨vw,y,n,st,bs,rs,rfl,hw,so,wf,mP,bo,ro,k⟩;refine oE7 (qV hw) λ yw dw fw l1 l2 bvs mK m7=>oA9 m7 λ m8 hyw ew1 ew2 hl1 hl2 hB hK no=>?_;clear m7;subst m8;have lk:mK.length=rs.length:=hK.len;have r24:=mP.1.2.2;walk_at "T";refine ⟨_,(zg (zp 2 zbt.nd (zL zb))  (qd (ql qC rfl (jD (za (z9 zX zW (za (zj (pq 0) rfl) zb)) zb)) (qg 3 zbt.nd)  (zg (zp 4 zbt.nd (zx ⟨rfl,rfl,rfl⟩ hr (za (pq 0) (za (pq 1) (za (pq 3) zb)))))  (zc (zD (zm Vq (pq 4) zG (zr _))  (zc (zw (qy aq ax aw zK (pq 2) (za (pq 4) zb))))  zn))))  (zc (zl (pq 2))))),?_⟩;walk_at "a";intro M hM;have nM:=so.offN hM;have s1:=zf (o:=.lst []) hM;have hM1:upd H M (.lst []) M=some (.lst []):=mW;generalize upd H M (.lst [])=H1 at s1 hM1 ⊢;walk_at "a";refine cut (λ σ' H'=>∃ (v3 v4:As) (us:Ar),σ'=[some (.ref yw),some (.ref y),some (.ref M),v3,v4]/\Fr (y :: n.all) H H'/\StO a H' y n (zF rs st rs.length).1/\H' M=some (.lst us)/\Reps H' (z7 H') us ((zF rs st rs.length).2.map WG)) ?_ ?_
 ·walk_at "d";walk_at "a";refine ra (s1 _ _ hyw) T.gj T.gi ew2 ?_;refine ⟨_,.inl ⟨_,SqL.of (s1 _ _ hl2),rfl⟩,?_⟩;rw [lk];walk_at "a";refine ⟨by lia,by lia,?_⟩;refine xS (n:=(rs.length:Int).toNat) (λ i σ H'=>∃ (v3 v4:As) (us:Ar),σ=[some (.ref yw),some (.ref y),some (.ref M),v3,v4]/\Fr (y :: n.all) H H'/\StO a H' y n (zF rs st i).1/\H' M=some (.lst us)/\Reps H' (z7 H') us ((zF rs st i).2.map WG)) (iE3 _ _ _ (iA5 rfl s1.fr (so.same s1) hM1 (.nil))) ?_ (λ σ H' h=>?_)
  ·intro i σ H2 hi m9;refine oE3 m9 λ v3 v4 us m7=>oA5 m7 λ m8 f2 so2 hM2 r2=>?_;clear m7 m9;subst m8;have hi:i < rs.length:=by simpa using hi
   have al:=XH rs st i;have lu:us.length=(zF rs st i).2.length:=by rw [r2.len,ai]
   walk_at "a";simp only [cZ];refine uc (zis T).mono (spAct.i (.ref yw) y n _ i bs rs rfl (hw.fr f2) so2 (jn wf mP bo ro i) mP bo ro hi (λ v H3 f3 so3 rv=>?_));have f23:=f2.trans f3;have hM3:=f3 _ _ nM hM2;have r3:=so2.repsT f3 r2;have eA:zF rs st (i + 1)=((qG rs (zF rs st i).1 i).1,(zF rs st i).2 ++ (qG rs (zF rs st i).1 i).2.toList):=rfl;walk_at "a";cases e:(qG rs (zF rs st i).1 i).2 with
   | none =>
    rw [e] at rv eA;cases rv;refine zN (λ b=>absurd rfl b) (λ _=>?_);rw [eA];exact iE3 _ _ _ (iA5 rfl f23 so3 hM3 (by rw [show (none:Option Move).toList=[] from rfl,bY];exact r3))
   | some m =>
    rw [e] at rv eA;refine zN (λ _=>?_) (λ b=>?_)
    ·walk_at "a";refine ⟨.inl ⟨rfl,_,SqL.of hM3⟩,iE3 M _ _ (iA5 rfl rfl hM3 (zk (by lia)) (iE3 _ _ _ (iA5 rfl (λ b o nb hb=>by rw [mX (mY hb hM)];exact f23 b o nb hb) ?_ mW ?_)))⟩
     ·rw [eA];exact so3.out hM3 nM
     ·rw [eA];show Reps _ _ _ (List.map WG ((zF rs st i).2 ++ [m]))
      rw [bg];exact (zdl hM3 r3).append (Reps.one (zap hM3 rv))
    ·exfalso;refine b λ z=>?_;subst z;cases rv
  ·have e:((rs.length:Int)).toNat=rs.length:=by simp
   rw [e] at h;exact h
 intro σ' H2 m9;refine oE3 m9 λ v3 v4 us m7=>oA5 m7 λ m8 f2 so2 hM2 r2=>?_;clear m7 m9;subst m8;walk_at "a";exact k _ _ _ f2 so2 hM nM hM2 r2
noncomputable def qR (c:Ax) (p:Nat):List zC:=if c.getD (p + 1) none=none then (c.set (p + 1) (c.getD p none)).set p none else c
noncomputable def wO (c:Ax):Nat->List zC
 | 0=>c
 | k + 1=>qR (wO c k) (c.length - 2 - k)
noncomputable def zcu (c:Ax):List zC:=wO c (c.length - 1)
def zbO {c:Ax} {p:Nat}:(qR c p).length=c.length:=by
 unfold qR
 split <;> simp
theorem Xc {c:Ax}:∀ k,(wO c k).length=c.length
 | 0=>rfl
 | k + 1=>by rw [wO,zbO,Xc k]
def zbN {c:Ax} {p:Nat} {x:zC} (h:x∈qR c p):x∈c\/x=none:=by
 unfold qR at h
 split at h
 ·rcases vA h with h|h
  ·rcases vA h with h|h
   ·exact .inl h
   ·rw [ae] at h;cases e:c[p]? with
    | none=>rw [e] at h;exact .inr h
    | some y=>rw [e] at h;exact .inl (by rw [h];exact ah e)
  ·exact .inr h
 ·exact .inl h
theorem zaC {c:Ax} {x:zC}:∀ k,x∈wO c k->x∈c\/x=none
 | 0=>λ h=>.inl h
 | k + 1=>λ h=>by
  rcases zbN h with h|h
  ·exact zaC k h
  ·exact .inr h
def zd6 (h:H b=some o):upd H b o=H:=by
 funext x
 by_cases e:x=b
 ·rw [e,mW,h]
 ·rw [mX e]
def VS {x:zC} (r:Rep H p v (qa x)):v=.non ↔ x=none:=by
 cases x with
 | none=>cases r;simp
 | some x=>obtain ⟨t,us,rfl,_⟩:=Rep.tup' r;simp
def atD {xs:Ax} {p:Nat} (h:p < xs.length):xs[p]?=some (xs.getD p none):=qo h
def zbm:Sp:=λ vs H Q _=>∃ (b:Addr) (us:Ar) (c:Ax),vs=[.ref b]/\H b=some (.lst us)/\Reps H (z7 H) us (c.map qa)/\c.length<=100/\∀ us',Reps H (z7 H) us' ((zcu c).map qa)->Q .non (upd H b (.lst us'))
def za4 (T:Txt K mg a):Cal P w K mg base "move_belt" 1 ["cells"] [] zbm:=T.kX.cal λ F=>by
 refine F.okx Vf ?_ ?_
 ·walk_at "i"
 walk_at "j";obtain ⟨b,us,c,rfl,hb,rb,lc,k⟩:=h;have lu:us.length=c.length:=by rw [rb.len,ai]
 walk_at "T";refine ⟨_,(zc (ql qC rfl (zg5 (za (zt xC (z9 zX zW (za (pq 0) zb)) zd) (za (Zc xY zd) (za (Zc xY zd) zb)))) (qg 1 Vf.nd)  (zc (zD (zm je (zo (pq 0) (zt zJ (pq 1) zd)) zG (zr _))  (zg (JY (zo (pq 0) (pq 1)) (J3 (pq 0) (zt zJ (pq 1) zd) wb))  (zc (JY zG (J3 (pq 0) (pq 1) wb))))  zn)))),?_⟩;walk_at "a";walk_at "d";walk_at "a";refine ⟨_,.inl ⟨_,SqL.of hb,rfl⟩,?_⟩;rw [lu];walk_at "a";refine ⟨_,_,rfl,⟨by lia,by lia,by lia,by lia⟩,?_⟩;rw [show ((c.length:Int) - 2 - -1).toNat=c.length - 1 by lia];refine zih (K:=K) (λ i σ H'=>∃ (v1:As) (us':Ar),σ=[some (.ref b),v1]/\H'=upd H b (.lst us')/\Reps H (z7 H) us' ((wO c i).map qa)) ⟨_,us,rfl,(zd6 hb).symm,rb⟩ ?_ ?_
 ·rintro i σ H' hi ⟨v1,us',rfl,rfl,r1⟩;have lm:=Xc (c:=c) i;have l1:us'.length=c.length:=by rw [r1.len,ai,lm]
  obtain ⟨p,hp⟩:∃ p,c.length - 2 - i=p:=⟨_,rfl⟩;have ep:(c.length:Int) - 2 - i=p:=by lia
  have hp1:p + 1 < c.length:=by lia
  rw [ep];have eS:wO c (i + 1)=qR (wO c i) p:=by rw [wO,hp]
  rw [eS];generalize wO c i=m at r1 lm ⊢;have m0:m[p]?=some (m.getD p none):=atD (by lia);have m1:m[p + 1]?=some (m.getD (p + 1) none):=atD (by lia);obtain ⟨u0,hu0,ru0⟩:=r1.of (i:=p) (d:=qa (m.getD p none)) (by rw [am,m0];rfl);obtain ⟨u1,hu1,ru1⟩:=r1.of (i:=p + 1) (d:=qa (m.getD (p + 1) none)) (by rw [am,m1];rfl);have e1:((p:Int) + 1)=((p + 1:Nat):Int):=by lia
  walk_at "a";rw [e1];refine zu (SqL.of mW) (zE hu1) ?_;walk_at "a";refine zN (λ z=>?_) (λ z=>?_)
  ·have z:=(VS ru1).mp z;walk_at "a";refine zu (SqL.of mW) (zE hu0) ?_;walk_at "a";refine vO mW (Xo (by lia) (by lia)) ?_;walk_at "a";refine vO mW (Xo (by lia) (by simp;lia)) ?_;rw [vK,vK];refine ⟨_,_,rfl,rfl,?_⟩;unfold qR;rw [ar z,dO,dO,aB,aB];exact Reps.set (Reps.set r1 _ ru0) _ .non
  ·have z:m.getD (p + 1) none≠none:=λ y=>z ((VS ru1).mpr y);walk_at "a";refine ⟨_,us',rfl,rfl,?_⟩;unfold qR;rw [ap z];exact r1
 ·rintro σ H' ⟨v1,us',rfl,rfl,r1⟩;exact k _ r1
noncomputable def qi (bs:A3) (t:Int) (cs:Aw):Nat->List Ax
 | 0=>cs
 | i + 1=>if t % (bs.getD i (0,1)).2=0 then (qi bs t cs i).set i (zcu ((qi bs t cs i).getD i [])) else qi bs t cs i
theorem ZI {bs:A3} {rs:Av} {t:Int} {cs:Aw} (h:xl bs rs cs):∀ i,xl bs rs (qi bs t cs i)
 | 0=>h
 | i + 1=>by
  have ih:=ZI h i (t:=t);rw [qi]
  split
  ·generalize qi bs t cs i=ds at ih ⊢;cases e:ds[i]? with
   | none=>rw [de (dg.mp e)];exact ih
   | some c =>
    have ec:ds.getD i []=c:=by rw [ae,e];rfl
    rw [ec];have hi:i < bs.length:=by rw [<- ih.1];exact (aa.mp e).1
    refine QN ih e (Xc _) λ x hx=>?_;rcases zaC _ hx with hx|hx
    ·exact (ih.2 i _ c (ac hi) e).2 x hx
    ·rw [hx];exact Qj
  ·exact ih
noncomputable def passF (bs:A3) (rs:Av) (st:PSt):PSt × List Move:=({ (zF rs st rs.length).1 with turn:=(zF rs st rs.length).1.turn + 1,cells:=qi bs (zF rs st rs.length).1.turn (zF rs st rs.length).1.cells bs.length },(zF rs st rs.length).2)
def zeF {rs:Av} {st:PSt} (wf:stWf bs rs st) (mP:zR bs rs) (bo:∀ b∈bs,zB b.1 b.2) (ro:∀ r∈rs,r.ok):stWf bs rs (passF bs rs st).1:=by
 have w:=jn wf mP bo ro rs.length;exact ⟨ZI w.co _,w.so,w.go⟩
def StO.ney {y:Addr} {n:SN} {st:PSt} (h:StO a H y n st):y ∉ n.all:=λ z=>by
 have hy:=h.hy;have c:∀ vs,H y≠some (.lst vs):=λ vs z=>by rw [hy] at z;cases z
 simp only [SN.all,az,aH] at z;rcases z with z|z|z|z|z
 ·exact c _ (by rw [z];exact h.hs)
 ·exact c _ (by rw [z];exact h.hc.out)
 ·exact c _ (by rw [z];exact h.hg.out)
 ·obtain ⟨vs,hv⟩:=h.hc.isl (aF _ z);exact c _ hv
 ·obtain ⟨vs,hv⟩:=h.hg.isl (aF _ z);exact c _ hv
def StO.putT {y:Addr} {n:SN} {st:PSt} {t:Int} (h:StO a H y n st):StO a (upd H y (.ins a.b n.dx (sff t n.lc n.ls n.lg))) y n { st with turn:=t }:=by
 have ny:=h.ney;have tn:∀ b,z7 H b->b≠y:=λ b ⟨xs,hx⟩ z=>by rw [z,h.hy] at hx;cases hx
 simp only [SN.all,az,aH,not_or] at ny;obtain ⟨n1,n2,n3,n4,n5⟩:=ny;refine ⟨mW,h.hc.tup λ b o c hb=>?_,?_,h.hg.tup λ b o c hb=>?_,h.nd⟩
 ·rw [mX ?_]
  ·exact hb
  ·rcases c with rfl|c|c
   ·exact aX n2
   ·exact λ z=>n4 (by rw [<- z];exact c)
   ·exact tn b c
 ·rw [mX (aX n1)];exact h.hs
 ·rw [mX ?_]
  ·exact hb
  ·rcases c with rfl|c|c
   ·exact aX n3
   ·exact λ z=>n5 (by rw [<- z];exact c)
   ·exact tn b c
def zbf {rs:Av} (h:Rep H p v (qz a bs rs)):∃ y dx fs l1 bvs,v=.ref y/\p y/\H y=some (.ins a.q dx fs)/\fs.lookup ("belts":Str)=some (.ref l1)/\p l1/\H l1=some (.lst bvs)/\Bts a H p bvs bs:=by
 obtain ⟨y,dx,fs,rfl,py,hy,g1,g2⟩:=Rep.ob' h;obtain ⟨u1,e1,r1⟩:=g1 _ _ VR;obtain ⟨l1,bvs,rfl,pl,h1,b1⟩:=r1.lst';exact ⟨y,dx,fs,l1,bvs,rfl,py,hy,e1,pl,h1,.of b1⟩
def zhY {t u:Int} {lc ls lg:Addr}:zQ "turn" (.int u) (sff t lc ls lg)=sff u lc ls lg:=rfl
def zef (a:Ad):Sp:=λ vs H Q _=>∃ (vw:V) (y:Addr) (n:SN) (st:PSt) (bs:A3) (rs:Av),vs=[vw,.ref y]/\Rep H (Off (y :: n.all)) vw (qz a bs rs)/\StO a H y n st/\stWf bs rs st/\zR bs rs/\(∀ b∈bs,zB b.1 b.2)/\(∀ r∈rs,r.ok) /\
 ∀ l us H',Fr (y :: n.all) H H'->StO a H' y n (passF bs rs st).1->H l=none->l ∉ y :: n.all->H' l=some (.lst us)->Reps H' (z7 H') us ((passF bs rs st).2.map WG)->Q (.ref l) H'
def Vt (T:Txt K mg a) (F:Fun K "pass_turn" "pass_turn" xI f fd):FnOk P w K mg base (CXr P w) 6 f fd ["work","state"] (zef a):=by
 refine F.okx Vc ?_ ?_
 ·walk_at "i"
 walk_at "j";refine oE6 h λ vw y n st bs rs m7=>oA8 m7 λ m8 hw so wf mP bo ro k=>?_;clear m7 h;subst m8;have b24:=mP.1.1.2;walk_at "T";refine ⟨_,(zh (zp 2 Vc.nd (zx ⟨rfl,rfl,rfl⟩ hr (za (pq 0) (za (pq 1) zb))))  (qd (ql qC rfl (qB (za (zj (pq 0) rfl) zb)) (xA (n:=2) rfl (z8 (qg 3 Vc.nd) (z8 (qg 4 Vc.nd) jE)))  (zc (zD (zm (qK hr.units1) (zt qq (zj (pq 1) rfl) (zj (pq 4) rfl)) zd (zr _))  (zc (zw (zx ⟨rfl,rfl,rfl⟩ hr (za (zo (zj (pq 1) rfl) (pq 3)) zb))))  zn)))  (zh (zdq (pq 1) zd zhx)  (zc (zl (pq 2)))))),?_⟩;walk_at "a";refine uc (zdU T).mono (spActAll.i vw y n st bs rs rfl hw so wf mP bo ro (λ l us H1 f1 so1 nl nl' hl rl=>?_));have wA:=jn wf mP bo ro rs.length;have hw1:=hw.fr f1;refine oE5 (zbf hw1) λ yw dw fw l1 bvs m7=>oA7 m7 λ m8 _ hyw ew1 pl1 hl1 hB=>?_;clear m7;subst m8;have lb:bvs.length=bs.length:=hB.len;generalize hA:zF rs st rs.length=A at so1 rl wA;refine oA4 (sff_l (t:=A.1.turn) (lc:=n.lc) (ls:=n.ls) (lg:=n.lg)) λ lk1 lk2 lk3 lk4=>?_;walk_at "a";let mS:St->Hp->Prop:=λ σ' H'=>∃ (v3 v4:As),σ'=[some (.ref yw),some (.ref y),some (.ref l),v3,v4]/\Fr (y :: n.all) H1 H'/\StO a H' y n { A.1 with cells:=qi bs A.1.turn A.1.cells bs.length };refine cut mS ?_ ?_
 ·walk_at "d";walk_at "a";refine ra hyw T.gj T.gk ew1 (iE2 l1 _ (iA3 rfl hl1 ?_));let mT:Nat->St->Hp->Prop:=λ i σ H'=>∃ (v3 v4:As),σ=[some (.ref yw),some (.ref y),some (.ref l),v3,v4]/\Fr (y :: n.all) H1 H'/\StO a H' y n { A.1 with cells:=qi bs A.1.turn A.1.cells i };refine QX (K:=K) (a:=l1) (xs:=bvs) mT (iE2 _ _ (iA3 rfl Fr.refl so1)) (λ i σ H' _ h=>by obtain ⟨_,_,_,f,_⟩:=h;exact SqL.of (f _ _ pl1 hl1)) ?_ ?_
  ·intro i x t σ H2 hi ht m9;refine oE2 m9 λ v3 v4 m7=>oA3 m7 λ m8 f2 so2=>?_;clear m7 m9;subst m8;obtain ⟨b,hb',hBt⟩:=hB.at hi;refine oE3 hBt.inv λ y1 dx1 fs1 m7=>oA5 m7 λ m8 py1 g0 _ e2=>?_;clear m7;subst m8;have g02:=f2 _ _ py1 g0;have hil:=(aa.mp hb').1;have bk:=bo b (ah hb');have f3:=f2.trans (zb3 (ms:=y :: n.all) (o:=.tup [.int i,.ref y1]) ht);have so3:=so2.same (zf (o:=.tup [.int i,.ref y1]) ht);have g03:=mZ (o:=.tup [.int i,.ref y1]) g02 ht;refine un2 mW ?_;generalize upd H2 t (.tup [.int i,.ref y1])=H3 at f3 so3 g03 ⊢;have eb:bs.getD i (0,1)=b:=by rw [ae,hb'];rfl
   have co:=ZI (t:=A.1.turn) wA.co i;have hc:=qo (xs:=qi bs A.1.turn A.1.cells i) (d:=[]) (show i < _ by rw [co.1];exact hil);refine oE2 (so3.cell hc) λ bC vs m7=>oA3 m7 λ hbC hvC rvC=>?_;clear m7;have lc:=(co.2 i b _ hb' hc).1;have b1:=bk.1;have b2:=bk.2.1;have b3:=bk.2.2.1;walk_at "a";refine ra so3.hy T.ad T.dl lk4 ?_;refine ra g03 T.ic T.gQ e2 ?_;walk_at "a";refine zN (λ z=>?_) (λ z=>?_)
   ·walk_at "a";refine uc (za4 T).mono ?_;refine ra so3.hy T.ad T.gf lk1 (zu (SqL.of so3.hc.out) (zE (Qi hbC)) ?_);refine iE3 bC vs _ (iA5 rfl hvC rvC (by lia) (λ us' r'=>?_));refine iE2 _ _ (iA3 rfl (f3.trans (qA (VQ hbC))) ?_);have:=so3.putC hbC r';rw [qi,eb,ar z];exact this
   ·refine iE2 _ _ (iA3 rfl f3 ?_);rw [qi,eb,ap z];exact so3
  ·intro σ H2 m9;refine oE2 m9 λ v3 v4 m7=>oA3 m7 λ m8 f2 so2=>?_;clear m7 m9;subst m8;rw [lb] at so2;exact iE2 _ _ (iA3 rfl f2 so2)
 intro σ' H2 m9;refine oE2 m9 λ v3 v4 m7=>oA3 m7 λ m8 f2 so2=>?_;clear m7 m9;subst m8;walk_at "a";refine ⟨y,?_⟩;refine iE4 a.b n.dx _ _ (iA6 rfl so2.hy T.ad T.dl lk4 ?_);refine iE2 _ 1 (iA3 rfl rfl (iE2 n.dx _ (iA3 so2.hy (show 4 < 1000 by decide) ?_)));rw [zhY];have f3:=f2.trans (qA (x:=y) (o:=.ins a.b n.dx (sff (A.1.turn + 1) n.lc n.ls n.lg)) (by simp));walk_at "a";refine k l us _ (f1.trans f3) (by rw [passF,hA];exact so2.putT) nl nl' (f3 _ _ nl' hl) (by rw [passF,hA];exact so1.repsT f3 rl)
def vH (T:Txt K mg a):Cal P w K mg base "pass_turn" 6 ["work","state"] [] (zef a):=T.kY.cal (Vt T)
def zem (a:Ad):Sp:=λ vs H Q _=>∃ (v:V) (st:PSt) (p:A7),vs=[v]/\Rep H p v (Xw a st)/\st.cells.length<=100/\st.gone.length<=100/\∀ v' H',Same H H'->Q1 a H H' v' st->Q v' H'
def XA (T:Txt K mg a):Cal P w K mg base "copied_state" 3 ["state"] [] (zem a):=T.iX.cal λ F=>by
 refine F.okx Q2 ?_ ?_
 ·walk_at "i"
 walk_at "j";obtain ⟨v,st,p,rfl,hs,lc,lg,k⟩:=h;obtain ⟨y,dx,fs,rfl,py,hy,g1,g2⟩:=Rep.ob' hs;obtain ⟨u1,e1,r1⟩:=g1 _ _ (VY st);obtain ⟨u2,e2,r2⟩:=g1 _ _ (Wg st);obtain ⟨u3,e3,r3⟩:=g1 _ _ (Wf st);obtain ⟨u4,e4,r4⟩:=g1 _ _ (VZ st);cases r1;walk_at "T";refine ⟨_,(zc (zl (qr (x:="State") ⟨rfl,rfl,rfl⟩ hr (za (zj (pq 0) rfl) (za (zj (pq 0) rfl) (za (zj (pq 0) rfl) (za (zj (pq 0) rfl) zb))))))),?_⟩;walk_at "a";refine ⟨a.b,_,_,_,(VB T).mono,y,a.b,dx,fs,_,rfl,hy,T.ad,T.dl,e1,?_⟩;refine ra hy T.ad T.gf e2 ?_;refine ra hy T.ad T.gm e3 ?_;refine ra hy T.ad T.gg e4 ?_;exact Xe T (st:=st) r2 r3 r4 lc lg λ y' H' s' sn=>k _ _ s' sn
inductive spOneTurn (a:Ad) (vs:Ar) (H:Hp) (Q:VK) (E:XK):Prop
 | i (vw v:V) (st:PSt) (bs:A3) (rs:Av) (p:A7):vs=[vw,v]->Rep H (Off []) vw (qz a bs rs)->Rep H p v (Xw a st)->stWf bs rs st->zR bs rs->(∀ b∈bs,zB b.1 b.2)->(∀ r∈rs,r.ok)->(∀ v' H',Same H H'->Q1 a H H' v' (passF bs rs st).1->Q v' H')->spOneTurn a vs H Q E
def Xz (T:Txt K mg a):Cal P w K mg base "one_turn" 7 ["work","state"] [] (spOneTurn a):=T.lC.cal λ F=>by
 refine F.okx zac ?_ ?_
 ·walk_at "i"
 walk_at "j";rcases h with ⟨vw,v,st,bs,rs,p,rfl,hw,hv,wf,mP,bo,ro,k⟩;have b24:=mP.1.1.2;have r24:=mP.1.2.2;walk_at "T";refine ⟨_,(zg (zp 2 zac.nd (zx ⟨rfl,rfl,rfl⟩ hr (za (pq 1) zb)))  (zg (zw (zx ⟨rfl,rfl,rfl⟩ hr (za (pq 0) (za (pq 2) zb))))  (zc (zl (pq 2))))),?_⟩;walk_at "a";refine uc (XA T).mono ⟨v,st,p,rfl,hv,by rw [wf.co.1];lia,by rw [wf.go.1];lia,λ v' H1 s1 sn=>?_⟩;obtain ⟨y,n,rfl,so1,ny,nd,nn⟩:=sn;have na:∀ b∈y :: n.all,H b=none:=λ b hb=>by
  rcases az.mp hb with rfl|hb
  ·exact ny
  ·exact nn b hb
 have hw1:Rep H1 (Off (y :: n.all)) vw (qz a bs rs):=jb (hw.more (ns:=y :: n.all) λ b hb=>.inr (na b hb)) s1;walk_at "a";refine uc (vH T).mono ⟨vw,y,n,st,bs,rs,rfl,hw1,so1,wf,mP,bo,ro,λ l us H2 f2 so2 _ _ _ _=>?_⟩;walk_at "a";exact k _ _ (λ b o hb=>f2 b o (λ z=>by rw [na b z] at hb;cases hb) (s1 b o hb)) ⟨y,n,rfl,so2,ny,nd,nn⟩
noncomputable def zi (bs:A3) (rs:Av):Nat->PSt
 | 0=>qP bs rs
 | n + 1=>(passF bs rs (zi bs rs n)).1
def zfe {rs:Av} (ro:∀ r∈rs,r.ok):stWf bs rs (qP bs rs):=by
 refine ⟨⟨by simp [qP],λ i b c h1 h2=>?_⟩,⟨by simp [qP],λ i r s h1 h2=>?_⟩,⟨by simp [qP],λ i r g h1 h2=>?_⟩⟩
 ·simp only [qP,am,h1,b5,cD] at h2;subst h2;refine ⟨by simp,λ x hx=>?_⟩;rw [(cy.mp hx).2];exact Qj
 ·have hs:=ah h2;have e:s=0:=(cy.mp hs).2;subst e;have ok:=ro r (ah h1);obtain ⟨wd,ins,outs,pc,ks⟩:=r;refine ⟨by decide,λ hw=>?_,λ hw=>?_,λ _ _=>rfl⟩
  ·simp only at hw;subst hw;have:=ok.2.1;simp only at this ⊢
   lia
  ·simp only at hw;subst hw;have:=ok.2.1;simp only at this ⊢
   lia
 ·simp only [qP,am,h1,b5,cD] at h2;subst h2;refine ⟨rfl,λ n hn=>?_⟩;rw [(cy.mp hn).2];decide
theorem zH {bs:A3} {rs:Av} (mP:zR bs rs) (bo:∀ b∈bs,zB b.1 b.2) (ro:∀ r∈rs,r.ok):∀ n,stWf bs rs (zi bs rs n)
 | 0=>zfe ro
 | n + 1=>zeF (zH mP bo ro n) mP bo ro
def zee (a:Ad):Sp:=λ vs H Q _=>∃ (vw:V) (n:Nat) (bs:A3) (rs:Av),vs=[vw,.int n]/\Rep H (Off []) vw (qz a bs rs)/\zR bs rs/\(∀ b∈bs,zB b.1 b.2)/\(∀ r∈rs,r.ok)/\n<=1000/\∀ v' H',Same H H'->Q1 a H H' v' (zi bs rs n)->Q v' H'
def za1 (T:Txt K mg a):Cal P w K mg base "played" 7 ["work","turns"] [] (zee a):=T.md.cal λ F=>by
 refine F.okx zdd ?_ ?_
 ·walk_at "i"
 walk_at "j";obtain ⟨vw,m,bs,rs,rfl,hw,mP,bo,ro,hm,k⟩:=h;have b24:=mP.1.1.2;have r24:=mP.1.2.2;walk_at "T";refine ⟨_,(zg (zp 2 zdd.nd (zx ⟨rfl,rfl,rfl⟩ hr (za (pq 0) zb)))  (qd (ql qC rfl (jD (za (pq 1) zb)) (qg 3 zdd.nd)  (zc (zw (zx ⟨rfl,rfl,rfl⟩ hr (za (pq 0) (za (pq 2) zb))))))  (zc (zl (pq 2))))),?_⟩;walk_at "a";refine uc (Zl T).mono ⟨vw,bs,rs,_,rfl,hw,b24,r24,bo,ro,λ v' H1 s1 sn=>?_⟩;obtain ⟨y,n,rfl,so1,ny,nd,nn⟩:=sn;have na:∀ b∈y :: n.all,H b=none:=λ b hb=>by
  rcases az.mp hb with rfl|hb
  ·exact ny
  ·exact nn b hb
 have hw1:Rep H1 (Off (y :: n.all)) vw (qz a bs rs):=jb (hw.more (ns:=y :: n.all) λ b hb=>.inr (na b hb)) s1;walk_at "a";refine cut (λ σ' H'=>∃ (v3:As),σ'=[some vw,some (.int m),some (.ref y),v3]/\Fr (y :: n.all) H1 H'/\StO a H' y n (zi bs rs m)) ?_ ?_
 ·walk_at "d";walk_at "a";refine ⟨by lia,by lia,?_⟩;refine xS (n:=(m:Int).toNat) (λ i σ H'=>∃ (v3:As),σ=[some vw,some (.int m),some (.ref y),v3]/\Fr (y :: n.all) H1 H'/\StO a H' y n (zi bs rs i)) ⟨_,rfl,Fr.refl,so1⟩ ?_ (λ σ H' h=>?_)
  ·rintro i σ H2 hi ⟨v3,rfl,f2,so2⟩;walk_at "a";refine uc (vH T).mono ⟨vw,y,n,_,bs,rs,rfl,hw1.fr f2,so2,zH mP bo ro i,mP,bo,ro,λ l us H3 f3 so3 _ _ _ _=>?_⟩;exact ⟨_,rfl,f2.trans f3,so3⟩
  ·rw [show ((m:Int)).toNat=m by simp] at h;exact h
 rintro σ' H2 ⟨v3,rfl,f2,so2⟩;walk_at "a";exact k _ _ (λ b o hb=>f2 b o (λ z=>by rw [na b z] at hb;cases hb) (s1 b o hb)) ⟨y,n,rfl,so2,ny,nd,nn⟩
def V5:Sp:=λ vs H Q _=>∃ a b:Int,vs=[.int a,.int b]/\0<=a/\0<=b/\Q (.int (Int.gcd a b:Int)) H
def zdw (F:Fun K "common" "common" ZP f fd):FnOk P w K mg base (CXr P w) 1 f fd ["one","other"] V5:=by
 refine F.okx zde ?_ ?_
 ·walk_at "i"
 walk_at "k";obtain ⟨a,b,rfl,ha,hb,k⟩:=h;refine ⟨_,(zg (zp 2 zde.nd (pq 0))  (zg (zp 3 zde.nd (pq 1))  (zg (zar qC (zm zav (pq 3) zd (zr _))  (zg (zp 4 zde.nd (zt qq (pq 2) (pq 3)))  (zg (zp 2 zde.nd (pq 3))  (zc (zp 3 zde.nd (pq 4))))))  (zc (zl (pq 2)))))),?_⟩;walk_at "r";refine ⟨λ m σ H'=>∃ p r v,σ=[some (.int a),some (.int b),some (.int p),some (.int r),v]/\H'=H/\0<=p/\0<=r/\Int.gcd p r=Int.gcd a b/\m=r.toNat,⟨_,a,b,none,rfl,rfl,ha,hb,rfl,rfl⟩,?_⟩;rintro m σ H' ⟨p,r,v,rfl,rfl,hp,hr',hg,rfl⟩;walk_at "r";refine zN (λ h=>?_) (λ h=>?_)
 ·refine zh2 ?_;have h1:=aJ p (show r≠0 by lia);have h2:=aG p h;exact ⟨h,_,by lia,r,p % r,_,rfl,rfl,hr',h1,(ze9 hp h).trans hg,rfl⟩
 ·have e:r=0:=by lia
  subst e;have e2:=zgf hp;rw [hg] at e2;rw [<- e2];exact k
def Pac (ns:A8):Prop:=∀ n∈ns,0 < n/\n<=1000000000000
def Pac.nil:Pac []:=λ _ h=>nomatch h
def Pac.snoc (h:Pac ns) (h1:0 < n) (h2:n<=1000000000000):Pac (ns ++ [n]):=λ k hk=>by
 rcases aH.mp hk with z|z
 ·exact h k z
 ·rw [ay.mp z];exact ⟨h1,h2⟩
def Pac.at (h:Pac ns) {x:V} (e:(ns.map V.int)[i]?=some x):∃ n,x=.int n/\0 < n/\n<=1000000000000/\n∈ns/\ns.take (i + 1)=ns.take i ++ [n]:=by
 rw [am,ao] at e;obtain ⟨n,hn,rfl⟩:=e;have hm:=ah hn;refine ⟨n,rfl,(h n hm).1,(h n hm).2,hm,?_⟩;rw [fX,hn]
 rfl
def zc9 (K:A0):Sp:=λ vs H Q _=>∃ (l:Addr) (ns:A8),vs=[.ref l]/\SqL K H l (ns.map V.int)/\Pac ns/\∀ L,IsLcm ns L->Q (.int L) H
def zfl (T:Txt K mg a):Cal P w K mg base "common" 1 ["one","other"] [] V5:=T.me.cal zdw
def zdT (T:Txt K mg a):Cal P w K mg base "lasting" 2 ["paces"] [] (zc9 K):=T.lU.cal λ F=>by
 refine F.okx zbq ?_ ?_
 ·walk_at "i"
 walk_at "k";obtain ⟨l,ns,rfl,hl,hn,k⟩:=h;refine ⟨_,(zg (zp 1 zbq.nd zd)  (zg (ql qC rfl (qm (pq 0)) (qg 2 zbq.nd)  (zc (zp 1 zbq.nd (zt jM (zt Vx (pq 1) (zx ⟨rfl,rfl,rfl⟩ hr (za (pq 1) (za (pq 2) zb)))) (pq 2)))))  (zc (zl (pq 1))))),?_⟩;walk_at "a";walk_at "d";refine ⟨l,rfl,.inl ⟨⟨_,hl⟩,?_⟩⟩;refine qM (K:=K) (a:=l) (xs:=ns.map V.int) (λ i σ H'=>∃ (m:Int) (v:As),σ=[some (V.ref l),some (V.int m),v]/\H'=H/\IsLcm (ns.take i) m) ⟨1,none,rfl,rfl,IsLcm.nil⟩ (λ i σ H' _ ⟨_,_,_,e,_⟩=>e ▸ hl) ?_ ?_
 ·rintro i x σ H1 hi ⟨m,v,rfl,rfl,hm⟩;obtain ⟨p,rfl,p0,p1,_,ht⟩:=hn.at hi;walk_at "r";have g0:(0:Int) < (Int.gcd m p:Int):=by have:=zcD (a:=m) (b:=p) (by lia);lia
  have g1:(Int.gcd m p:Int)<=p:=VE p0;refine ⟨_,_,_,zfl T,m,p,rfl,c7 hm.pos,c7 p0,?_⟩;walk_at "r";refine ⟨fd_ok g0 ?_,mul_okR (by lia) (by lia),?_⟩
  ·have:(1000000000000:Nat) < 2 ^ 8999:=by decide +kernel
   lia
  ·rw [fdiv_pos g0,ht];exact ⟨_,_,rfl,hm.step p0⟩
 ·rintro σ H1 ⟨m,v,rfl,rfl,hm⟩;rw [ai,aR] at hm;walk_at "r";exact k m hm
theorem IsLcm.ex:∀ {ns:A8},Pac ns->∃ L,IsLcm ns L:=λ {ns} h=>by
 have:∀ k,k<=ns.length->∃ L,IsLcm (ns.take k) L:=λ k=>by
  induction k with
  | zero=>exact λ _=>⟨1,IsLcm.nil⟩
  | succ k ih =>
   intro hk;obtain ⟨L,hL⟩:=ih (by lia);have e:ns.take (k + 1)=ns.take k ++ [ns[k]]:=by rw [fX,ac (by lia)];rfl
   rw [e];exact ⟨_,hL.step (h _ (getElem_mem _)).1⟩
 have:=this ns.length (au _)
 rwa [aR] at this
def ziJ (T:Txt K mg a) (wd:Wd):kitOne K (.ref (wo a wd)) (.ref a.k)=some (decide (wd=.drain)):=by
 cases wd
 ·exact T.iQ
 ·exact T.ka
 ·exact T.iR
 ·exact T.hW
 ·exact T.kb
 ·exact T.iS
noncomputable def jt (wd:Wd) (rs:Av) (n:Nat):List Int:=((List.range n).filter λ i=>decide (rs[i]?.map Row.wd=some wd)).map λ (i:Nat)=>(i:Int)
def xO {rs:Av} {n:Nat} {r:Row} (h:rs[n]?=some r):jt wd rs (n + 1)=jt wd rs n ++ if r.wd=wd then [(n:Int)] else []:=by
 unfold jt;rw [range_succ,List.filter_append,bg]
 congr 1
 by_cases e:r.wd=wd <;> simp [h,e]
noncomputable def zS (wd:Wd) (rs:Av):List Int:=jt wd rs rs.length
def xD (wd:Wd) (rs:Av) (n:Nat):(jt wd rs n).length<=n:=by
 unfold jt;rw [ai];exact ba (List.length_filter_le _ _) (by simp)
def Z0 {rs:Av} (h:m∈zS wd rs):∃ (i:Nat) (r:Row),m=i/\rs[i]?=some r/\r.wd=wd:=by
 unfold zS jt at h;obtain ⟨i,hi,rfl⟩:=be.mp h;rw [cn] at hi;have h2:=bT hi.2;rw [ao] at h2;obtain ⟨r,h3,h4⟩:=h2;exact ⟨i,r,rfl,h3,h4⟩
def Xa {rs:Av} {r:Row} (h:rs[i]?=some r) (hw:r.wd=wd):(i:Int)∈zS wd rs:=by
 unfold zS jt;refine be.mpr ⟨i,cn.mpr ⟨dN.mpr (aa.mp h).1,?_⟩,rfl⟩;rw [h];exact bp (by rw [<- hw];rfl)
def zei (a:Ad) (wd:Wd):Sp:=λ vs H Q _=>∃ (v:V) (bs:A3) (rs:Av) (p:A7),vs=[v]/\Rep H p v (qz a bs rs)/\rs.length<=100/\∀ q H',Same H H'->H q=none->H' q=some (.lst (iv (zS wd rs)))->Q (.ref q) H'
def X4 (T:Txt K mg a):MCal P w K mg base a.q "drains" 1 ["self"] [] (zei a .drain):=T.ky.cal T.gj λ F=>by
 refine F.okx JM ?_ ?_
 ·walk_at "i"
 walk_at "j";refine oE4 h λ v bs rs p m7=>oA4 m7 λ m8 hv l100 k=>?_;clear m7 h;subst m8;refine oE7 (qV hv) λ y dx fs l1 l2 bvs mK m7=>oA9 m7 λ m8 hy e1 e2 h1 h2 hB hK no=>?_;clear m7;subst m8;walk_at "T";refine ⟨_,(zc (zl (jG (vars:=["number","knot"]) (caps:=[]) (N:=["number","knot"]) (ON:=["self"]) (osc:=ze jQ) rfl rfl (by first|decide +kernel|kernel_rfl) rfl rfl (qB (za (zj (pq 0) rfl) zb)) (λ _ _ _ _=>(xA (n:=2) rfl (z8 (qg 0 (show (["number","knot"]:Aa).Nodup from by decide +kernel)) (z8 (qg 1 (show (["number","knot"]:Aa).Nodup from by decide +kernel)) jE)))) (λ _ _ _ _=>(zcn (jc (z9 XF jp (za (pq 1) (za wl zb))) (λ _=>rfl)))) (λ _ _ _ _=>(pq 0))))),?_⟩;walk_at "a";walk_at "e";walk_at "a";refine ra hy T.gj T.gi e2 (iE2 l2 _ (iA3 rfl h2 (λ _ _ _ _ mQ hacc=>?_)));refine QX (K:=K) (a:=l2) (xs:=mK) (λ i σ H'=>∃ (v0 v1:As),σ=[v0,v1]/\Same H H'/\H' mQ=some (.lst (iv (jt .drain rs i)))) (iE2 _ _ (iA3 rfl (zf hacc) mW)) (λ i σ H' _ h=>by obtain ⟨_,_,_,s,_⟩:=h;exact SqL.of (s _ _ h2)) ?_ ?_
 ·intro i x t σ H' hi ht m9;refine oE2 m9 λ v0 v1 m7=>oA3 m7 λ m8 s7 e1'=>?_;clear m7 m9;subst m8;obtain ⟨r,hr',hKn⟩:=hK.at hi;refine oE6 hKn.inv λ y1 dx1 m1 m2 m3 fs1 m7=>oA9 m7 λ m8 _ _ _ _ g0 f1 f2 mR=>oA5 mR λ _ g1 g2 _ _=>?_;clear m7 mR;subst m8;have hil:=(aa.mp hr').1;have s8:=s7.trans (zf (o:=.tup [.int i,.ref y1]) ht);have e8:=mZ (o:=.tup [.int i,.ref y1]) e1' ht;refine un2 mW ?_;generalize upd H' t (.tup [.int i,.ref y1])=H8 at s8 e8 ⊢;walk_at "a";refine iE2 (.ref a.k) _ (iA3 T.lP rfl (iE4 _ _ _ _ (iA4 rfl ((WT T r.wd).ty (CT T r.wd) (s8 _ _ g0)) (.inl ⟨_,rfl,ziJ T r.wd⟩) ?_)));walk_at "a";refine zN (λ b=>?_) (λ b=>?_)
  ·refine ⟨_,iA3 e8 (zk (by have:=xD .drain rs i;rw [zy];lia)) (iE2 _ _ (iA3 rfl (λ b o hb=>by rw [mX (mY hb hacc)];exact s8 b o hb) ?_))⟩;rw [mW,xO hr',ar b,qI]
  ·exact iE2 _ _ (iA3 rfl s8 (by rw [xO hr',ap b,bY];exact e8))
 intro σ H2 m9;refine oE2 m9 λ v0 v1 m7=>oA3 m7 λ m8 s2 ha=>?_;clear m7 m9;subst m8;rw [hK.len] at ha;exact k _ _ s2 hacc ha
def vB (T:Txt K mg a):MCal P w K mg base a.q "sources" 1 ["self"] [] (zei a .source):=T.i9.cal T.gj λ F=>by
 refine F.okx Q3 ?_ ?_
 ·walk_at "i"
 walk_at "j";obtain ⟨v,bs,rs,p,rfl,hv,l100,k⟩:=h;obtain ⟨y,dx,fs,l1,l2,bvs,mK,rfl,hy,e1,e2,h1,h2,hB,hK,no⟩:=qV hv;walk_at "T";refine ⟨_,(zc (zl (jG (vars:=["number","knot"]) (caps:=[]) (N:=["number","knot"]) (ON:=["self"]) (osc:=ze jz) rfl rfl (by first|decide +kernel|kernel_rfl) rfl rfl (qB (za (zj (pq 0) rfl) zb)) (λ _ _ _ _=>(xA (n:=2) rfl (z8 (qg 0 (show (["number","knot"]:Aa).Nodup from by decide +kernel)) (z8 (qg 1 (show (["number","knot"]:Aa).Nodup from by decide +kernel)) jE)))) (λ _ _ _ _=>(zcn (jc (z9 XF jp (za (pq 1) (za wl zb))) (λ _=>rfl)))) (λ _ _ _ _=>(pq 0))))),?_⟩;walk_at "a";walk_at "e";walk_at "a";refine ra hy T.gj T.gi e2 ⟨l2,_,rfl,h2,λ _ _ _ _ mQ hacc=>?_⟩;refine QX (K:=K) (a:=l2) (xs:=mK) (λ i σ H'=>∃ (v0 v1:As),σ=[v0,v1]/\Same H H'/\H' mQ=some (.lst (iv (jt .source rs i)))) ⟨_,_,rfl,zf hacc,mW⟩ (λ i σ H' _ h=>by obtain ⟨_,_,_,s,_⟩:=h;exact SqL.of (s _ _ h2)) ?_ ?_
 ·rintro i x t σ H' hi ht ⟨v0,v1,rfl,s7,e1'⟩;obtain ⟨r,hr',hKn⟩:=hK.at hi;obtain ⟨y1,dx1,m1,m2,m3,fs1,rfl,_,_,_,_,g0,f1,f2,_,g1,g2,_,_⟩:=hKn.inv;have hil:=(aa.mp hr').1;have s8:=s7.trans (zf (o:=.tup [.int i,.ref y1]) ht);have e8:=mZ (o:=.tup [.int i,.ref y1]) e1' ht;refine un2 mW ?_;generalize upd H' t (.tup [.int i,.ref y1])=H8 at s8 e8 ⊢;walk_at "a";refine ⟨.ref a.j,_,T.ki,rfl,_,_,_,_,rfl,(WT T r.wd).ty (CT T r.wd) (s8 _ _ g0),.inl ⟨_,rfl,zib T r.wd⟩,?_⟩;walk_at "a";refine zN (λ b=>?_) (λ b=>?_)
  ·refine ⟨_,e8,zk (by have:=xD .source rs i;rw [zy];lia),_,_,rfl,(λ b o hb=>by rw [mX (mY hb hacc)];exact s8 b o hb),?_⟩;rw [mW,xO hr',ar b,qI]
  ·exact ⟨_,_,rfl,s8,by rw [xO hr',ap b,bY];exact e8⟩
 rintro σ H2 ⟨v0,v1,rfl,s2,ha⟩;rw [hK.len] at ha;exact k _ _ s2 hacc ha
def xW (bs:A3) (rs:Av) (n:Int):Prop:=(∃ b∈bs,b.2=n)\/∃ r∈rs,(r.wd=.source\/r.wd=.drain)/\r.pace=n/\0 < n
def zam {r:Row} (h:r.ok) (hw:r.wd=.source\/r.wd=.drain):0<=r.pace/\r.pace<=4:=by
 obtain ⟨wd,ins,outs,pc,ks⟩:=r;rcases hw with hw|hw
 ·simp only at hw;subst hw;have h1:=h.2.2.1;have h2:=h.2.2.2.1;simp only at h1 h2;exact ⟨by show 0<=pc;lia,h2⟩
 ·simp only at hw;subst hw;exact ⟨h.2.2.1,h.2.2.2⟩
def zgV (a:Ad):Sp:=λ vs H Q _=>∃ (v:V) (bs:A3) (rs:Av) (p:A7),vs=[v]/\Rep H p v (qz a bs rs)/\bs.length<=100/\rs.length<=100/\(∀ b∈bs,zB b.1 b.2)/\(∀ r∈rs,r.ok) /\
 ∀ L ns H',IsLcm ns L->(∀ n,n∈ns ↔ xW bs rs n)->Same H H'->Q (.int L) H'
def zaI (T:Txt K mg a):MCal P w K mg base a.q "beat" 3 ["self"] [] (zgV a):=T.lj.cal T.gj λ F=>by
 refine F.okx Vi ?_ ?_
 ·walk_at "i"
 walk_at "j";refine oE4 h λ v bs rs p m7=>oA7 m7 λ m8 hv lb lr bo ro k=>?_;clear m7 h;subst m8;have hv0:=hv;refine oE7 (qV hv) λ y dx fs l1 l2 bvs mK m7=>oA9 m7 λ m8 hy e1 e2 h1 h2 hB hK no=>?_;clear m7;subst m8;walk_at "T";refine ⟨_,(zg (JX (i:=1) Vi.nd rfl (Or.inl rfl) (vars:=["belt"]) (caps:=[]) (N:=["belt"]) (ON:=["self","paces","number","pace"]) (osc:=ze xK) rfl rfl (by first|decide +kernel|kernel_rfl) rfl rfl (qm (zj (pq 0) rfl)) (λ _ _ _ _=>(qg 0 (show (["belt"]:Aa).Nodup from by decide +kernel))) (λ _ _ _ _=>qe) (λ _ _ _ _=>(zj (pq 0) rfl)))  (zg (ql qC rfl (qm (zt zJ (Jo ⟨rfl,rfl,rfl⟩ hr (pq 0)) (Jo ⟨rfl,rfl,rfl⟩ hr (pq 0)))) (qg 2 Vi.nd)  (zg (zp 3 Vi.nd (zj (zo (zj (pq 0) rfl) (pq 2)) rfl))  (zc (zD (zm zav (pq 3) zd (zr _))  (zc (zw (qy aq ax aw zK (pq 1) (za (pq 3) zb))))  zn))))  (zc (zl (zx ⟨rfl,rfl,rfl⟩ hr (za (pq 1) zb)))))),?_⟩;walk_at "a";walk_at "e";walk_at "a";refine ra hy T.gj T.gk e1 ⟨l1,rfl,.inl ⟨⟨_,SqL.of h1⟩,λ _ _ _ _ mQ hacc=>?_⟩⟩;let mS:Nat->St->Hp->Prop:=λ i σ H'=>∃ (v0:As),σ=[v0]/\Same H H'/\H' mQ=some (.lst (iv ((bs.take i).map (·.2))));refine qM (K:=K) (a:=l1) (xs:=bvs) mS ⟨_,iA3 rfl (zf hacc) (by rw [bZ];exact mW)⟩ (λ i σ H' _ h=>by obtain ⟨_,_,s,_⟩:=h;exact SqL.of (s _ _ h1)) ?_ ?_
 ·intro i x σ H' hi m9;refine oE1 m9 λ v0 m7=>oA3 m7 λ m8 s7 e7=>?_;clear m7 m9;subst m8;obtain ⟨b,hr',hBt⟩:=hB.at hi;refine oE3 hBt.inv λ y1 dx1 fs1 m7=>oA5 m7 λ m8 _ g0 f1 f2=>?_;clear m7;subst m8;have hil:=(aa.mp hr').1;walk_at "a";refine ra (s7 _ _ g0) T.ic T.gQ f2 ?_;refine ⟨_,iA3 e7 (zk (by rw [zy,ai,aS];lia)) ⟨_,iA3 rfl (λ b o hb=>by rw [mX (mY hb hacc)];exact s7 b o hb) ?_⟩⟩;rw [mW,aN,hr',bg,qI]
  rfl
 intro σ H2 m9;refine oE1 m9 λ v0 m7=>oA3 m7 λ m8 s2 ha=>?_;clear m7 m9;subst m8;rw [hB.len,aR] at ha;walk_at "a";walk_at "d";walk_at "a";refine iE7 y a.q dx fs _ _ _ (iA5 rfl (s2 _ _ hy) (no _ (by decide +kernel) (by decide +kernel)) ((vB T).mono) ?_);refine iE4 _ bs rs p (iA4 rfl (hv0.keep λ b o pb hb=>⟨pb,s2 _ _ hb⟩) lr (λ q1 H3 s3 n1 hq1=>?_));refine iE7 y a.q dx fs _ _ _ (iA5 rfl (s3 _ _ (s2 _ _ hy)) (no _ (by decide +kernel) (by decide +kernel)) ((X4 T).mono) ?_);refine iE4 _ bs rs p (iA4 rfl (hv0.keep λ b o pb hb=>⟨pb,s3 _ _ (s2 _ _ hb)⟩) lr (λ q2 H4 s4 n2 hq2=>?_));have l3:=xD .source rs rs.length;have l4:=xD .drain rs rs.length;refine Vn (SqL.of (s4 _ _ hq1)) (SqL.of hq2) (vM (by rw [zy,zy];show (jt _ _ _).length + (jt _ _ _).length<=_;lia)) λ q3 hq3=>?_;rw [zbW];have s5:Same H (upd H4 q3 (.lst (iv (zS .source rs ++ zS .drain rs)))):=((s2.trans s3).trans s4).trans (zf hq3);have ha5:upd H4 q3 (.lst (iv (zS .source rs ++ zS .drain rs))) mQ=some (.lst (iv (bs.map (·.2)))):=mZ (s4 _ _ (s3 _ _ ha)) hq3;have hq5:upd H4 q3 (.lst (iv (zS .source rs ++ zS .drain rs))) q3=some (.lst (iv (zS .source rs ++ zS .drain rs))):=mW;have nq:q3≠mQ:=(mY (s4 _ _ (s3 _ _ ha)) hq3).symm;have hq0:H q3=none:=zA ((s2.trans s3).trans s4) hq3;generalize upd H4 q3 (.lst (iv (zS .source rs ++ zS .drain rs)))=H5 at s5 ha5 hq5 ⊢;refine ⟨q3,rfl,.inl ⟨⟨_,SqL.of hq5⟩,?_⟩⟩;let mT:Nat->St->Hp->Prop:=λ i σ H'=>∃ (v2 v3:As) (ns:A8),σ=[some (.ref y),some (.ref mQ),v2,v3]/\Same H H'/\H' q3=some (.lst (iv (zS .source rs ++ zS .drain rs)))/\H' mQ=some (.lst (iv ns))/\Pac ns/\ns.length<=bs.length + i/\∀ n,n∈ns ↔ n∈bs.map (·.2)\/∃ (m:Nat) (r:Row),(m:Int)∈(zS .source rs ++ zS .drain rs).take i/\rs[m]?=some r/\r.pace=n/\0 < n;refine qM (K:=K) (a:=q3) (xs:=iv (zS .source rs ++ zS .drain rs)) mT
  ⟨_,_,bs.map (·.2),rfl,s5,hq5,ha5,?_,by simp,?_⟩ (λ i σ H' _ h=>by obtain ⟨_,_,_,_,_,h,_⟩:=h;exact SqL.of h) ?_ ?_
 ·intro n hn;obtain ⟨b,hb,rfl⟩:=be.mp hn;have:=bo b hb;exact ⟨by have:=this.2.2.1;lia,by have:=this.2.2.2;lia⟩
 ·intro n;simp
 ·intro i x σ H6 hi m9;refine oE3 m9 λ v2 v3 ns m7=>oA7 m7 λ m8 s6 hq6 ha6 pn ln mem=>?_;clear m7 m9;subst m8;obtain ⟨m,hm,rfl⟩:=Zh hi;have hmm:=ah hm;have hil:=(aa.mp hm).1;have hlen:(zS .source rs ++ zS .drain rs).length<=200:=by
   rw [aQ];show (jt _ _ _).length + (jt _ _ _).length<=_
   lia
  obtain ⟨j,r,rfl,hr',hw⟩:∃ (j:Nat) (r:Row),m=j/\rs[j]?=some r/\(r.wd=.source\/r.wd=.drain):=by
   rcases aH.mp hmm with z|z
   ·obtain ⟨j,r,q1,q2,q3⟩:=Z0 z;exact ⟨j,r,q1,q2,.inl q3⟩
   ·obtain ⟨j,r,q1,q2,q3⟩:=Z0 z;exact ⟨j,r,q1,q2,.inr q3⟩
  have hp:=zam (ro r (ah hr')) hw;obtain ⟨kv,hkv,hKn⟩:∃ kv,mK[j]?=some kv/\KnP a H p kv r:=by
   have hj:=(aa.mp hr').1;have e:mK[j]?=some (mK[j]'(by rw [hK.len];exact hj)):=ac _;exact ⟨_,e,hK.g j _ r e hr'⟩
  refine oE6 hKn.inv λ y1 dx1 m1 m2 m3 fs1 m7=>oA9 m7 λ m8 _ _ _ _ g0 _ _ mR=>oA5 mR λ _ _ _ _ fp=>?_;clear m7 mR;subst m8;walk_at "a";refine ra (s6 _ _ hy) T.gj T.gi e2 (zu (SqL.of (s6 _ _ h2)) (zE hkv) ?_);have NP:NoAttr K (wo a r.wd) "pace":=by
   rcases hw with z|z
   ·rw [z];exact T.gG
   ·rw [z];exact T.gE
  refine iE5 y1 (wo a r.wd) dx1 fs1 _ (iA6 rfl (s6 _ _ g0) (CT T _) NP (fp hw) ?_);walk_at "a";have tk:(zS .source rs ++ zS .drain rs).take (i + 1)=(zS .source rs ++ zS .drain rs).take i ++ [(j:Int)]:=by rw [aN,hm];rfl
  refine zN (λ b=>?_) (λ b=>?_)
  ·walk_at "a";refine ⟨.inl ⟨rfl,_,SqL.of ha6⟩,iE3 mQ _ _ (iA5 rfl rfl ha6 (zk (by rw [zy];lia)) ?_)⟩;rw [qI];refine iE3 _ _ (ns ++ [r.pace]) (iA7 rfl (λ b o hb=>by rw [mX (mY hb hacc)];exact s6 b o hb) (by rw [mX nq];exact hq6) mW (pn.snoc b (by lia)) (by simp;lia) (λ n=>?_));rw [aH,mem n,ay,tk];constructor
   ·rintro ((h|⟨m',r',h1,h2,h3,h4⟩)|h)
    ·exact .inl h
    ·exact .inr (iE2 m' r' (iA4 (bJ _ h1) h2 h3 h4))
    ·subst h;exact .inr (iE2 j r (iA4 (aY _ (ay.mpr rfl)) hr' rfl b))
   ·rintro (h|⟨m',r',h1,h2,h3,h4⟩)
    ·exact .inl (.inl h)
    ·rcases aH.mp h1 with h1|h1
     ·exact .inl (.inr (iE2 m' r' (iA4 h1 h2 h3 h4)))
     ·have e:m'=j:=by have:=ay.mp h1;lia
      subst e;rw [hr'] at h2;cases h2;exact .inr h3.symm
  ·refine iE3 _ _ ns (iA7 rfl s6 hq6 ha6 pn (by lia) (λ n=>?_));rw [mem n,tk];constructor
   ·rintro (h|⟨m',r',h1,h2,h3,h4⟩)
    ·exact .inl h
    ·exact .inr (iE2 m' r' (iA4 (bJ _ h1) h2 h3 h4))
   ·rintro (h|⟨m',r',h1,h2,h3,h4⟩)
    ·exact .inl h
    ·rcases aH.mp h1 with h1|h1
     ·exact .inr (iE2 m' r' (iA4 h1 h2 h3 h4))
     ·have e:m'=j:=by have:=ay.mp h1;lia
      subst e;rw [hr'] at h2;cases h2
      lia
 ·intro σ H6 m9;refine oE3 m9 λ v2 v3 ns m7=>oA7 m7 λ m8 s6 hq6 ha6 pn ln mem=>?_;clear m7 m9;subst m8;rw [zy,aR] at mem;walk_at "a";refine uc (zdT T).mono (iE2 mQ ns (iA4 rfl (SqL.of ha6) pn (λ L hL=>k L ns _ hL (λ n=>?_) s6)));rw [mem n];unfold xW;constructor
  ·rintro (h|⟨m',r',h1,h2,h3,h4⟩)
   ·obtain ⟨b,hb,e⟩:=be.mp h;exact .inl ⟨b,hb,e⟩
   ·refine .inr ⟨r',iA4 (ah h2) ?_ h3 h4⟩;rcases aH.mp h1 with z|z
    ·refine oE2 (Z0 z) λ j r m7=>oA3 m7 λ q1 q2 q3=>?_;clear m7;have e:m'=j:=by lia
     subst e;rw [h2] at q2;cases q2;exact .inl q3
    ·refine oE2 (Z0 z) λ j r m7=>oA3 m7 λ q1 q2 q3=>?_;clear m7;have e:m'=j:=by lia
     subst e;rw [h2] at q2;cases q2;exact .inr q3
  ·rintro (⟨b,hb,e⟩|⟨r,hr',hw,h3,h4⟩)
   ·exact .inl (be.mpr ⟨b,hb,e⟩)
   ·obtain ⟨m',hm'⟩:=br hr';refine .inr (iE2 m' r (iA4 ?_ hm' h3 h4));rcases hw with hw|hw
    ·exact bJ _ (Xa hm' hw)
    ·exact aY _ (Xa hm' hw)
def xE {ags:Ae} {gss:List A8} {g:A8} (h:NL H p G ags (qk gss)) (e:gss[i]?=some g):∃ b,ags[i]?=some b/\H b=some (.lst (iv g)):=by
 obtain ⟨b,vs,h1,h2,h3⟩:=h.at (i:=i) (xs:=g.map D.int) (by rw [qk,am,e];rfl);rw [Js h3] at h2;exact ⟨b,h1,h2⟩
noncomputable def kdW (rs:Av) (x:Int × Int):Int:=x8 ((rs[x.1.toNat]?.map Row.kinds).getD []) x.2
noncomputable def zq (rs:Av) (c:Ax):List Ab:=c.map λ wr=>wr.map (kdW rs)
def zda (a:Ad):Sp:=λ vs H Q _=>∃ (vw:V) (cb:Addr) (us:Ar) (bs:A3) (rs:Av) (c:Ax) (p q:A7),vs=[vw,.ref cb]/\Rep H p vw (qz a bs rs)/\H cb=some (.lst us)/\Reps H q us (c.map qa)/\(∀ wr∈c,xX rs wr)/\(∀ r∈rs,r.ok)/\c.length<=6/\∀ t H',Same H H'->H t=none->H' t=some (.tup ((zq rs c).map oiV))->Q (.ref t) H'
theorem zcd (T:Txt K mg a):Cal P w K mg base "kinds_in" 2 ["work","cells"] [] (zda a):=T.lD.cal λ F=>by
 refine F.okx zad ?_ ?_
 ·walk_at "i"
 walk_at "j";refine oE8 h λ vw cb us bs rs c p q m7=>oA8 m7 λ m8 hw hcb rus wk ro c6 k=>?_;clear m7 h;subst m8;have lu:us.length=c.length:=by rw [rus.len,ai]
 walk_at "T";refine ⟨_,(zc (zl (vx Qe Qf (za (jG (vars:=["ware"]) (caps:=[0]) (N:=["ware","work"]) (ON:=["work","cells"]) (osc:=ze wC) rfl rfl (by first|decide +kernel|kernel_rfl) rfl rfl (qm (pq 1)) (λ _ _ _ _=>(qg 0 (show (["ware","work"]:Aa).Nodup from by decide +kernel))) (λ _ _ _ _=>qe) (λ _ _ _ _=>(wj (zm je (pq 0) zG (zr _)) zG (vv hr (za (pq 1) (za (pq 0) zb)))))) zb)))),?_⟩;walk_at "e";walk_at "a";refine ⟨cb,rfl,.inl ⟨⟨_,SqL.of hcb⟩,λ _ _ _ _ mQ hacc=>?_⟩⟩;let mS:Nat->St->Hp->Prop:=λ j σ H'=>∃ (v0:As),σ=[v0,some vw]/\Same H H'/\H' mQ=some (.lst ((zq rs (c.take j)).map oiV));refine qM (K:=K) (a:=cb) (xs:=us) mS ⟨_,iA3 rfl (zf hacc) mW⟩ (λ i σ H' _ h=>by obtain ⟨_,_,s,_⟩:=h;exact SqL.of (s _ _ hcb)) ?_ ?_
 ·intro j v σ H1 hj m9;refine oE1 m9 λ v0 m7=>oA3 m7 λ m8 s1 ha=>?_;clear m7 m9;subst m8;obtain ⟨d,hd,rv⟩:=rus.at hj;rw [am,ao] at hd;obtain ⟨wr,hwr,rfl⟩:=hd;have hjl:=(aa.mp hwr).1;have e:(zq rs (c.take (j + 1))).map oiV=(zq rs (c.take j)).map oiV ++ [oiV (wr.map (kdW rs))]:=by
   rw [aN,hwr];simp [zq]
  have lk:((zq rs (c.take j)).map oiV).length<=6:=by simp [zq];lia
  have sn:∀ (x:V),Same H (upd H1 mQ (.lst ((zq rs (c.take j)).map oiV ++ [x]))):=λ x b o hb=>by rw [mX (mY hb hacc)];exact s1 b o hb
  cases wr with
  | none =>
   have rv:Rep H q v .non:=rv;cases rv;walk_at "a";exact ⟨_,iA3 ha (zk (by lia)) ⟨_,iA3 rfl (sn _) (by rw [mW,e];rfl)⟩⟩
  | some x =>
   obtain ⟨tx,rfl,htx⟩:=vy (b:=x) rv;refine oE2 (wk _ (ah hwr) x.1 x.2 rfl) λ jj r m7=>oA4 m7 λ e1 hr' hs _=>?_;clear m7;have kp:0 < r.kinds.length:=by
    have ok:=ro r (ah hr');unfold Row.ok at ok;rw [hs] at ok;have:=ok.2.2.2.2.1
    lia
   have hw1:Rep H1 p vw (qz a bs rs):=hw.keep λ b o hb ho=>⟨hb,s1 _ _ ho⟩;have rx:Rep H1 q (.ref tx) (.tup [.int jj,.int x.2]):=by
    have:=rv.keep (H':=H1) (q:=q) λ b o hb ho=>⟨hb,s1 _ _ ho⟩;have e2:qa (some x)=.tup [.int x.1,.int x.2]:=rfl;rw [e2,e1] at this;exact this
   walk_at "a";refine uc (WJ T).mono (iE5 vw (.ref tx) bs rs p (iE4 q jj x.2 r (iA7 rfl hw1 rx hr' hs kp ?_)));refine ⟨_,iA3 ha (zk (by lia)) ⟨_,iA3 rfl (sn _) ?_⟩⟩;rw [mW,e];show _=some (HO.lst (_ ++ [V.int (kdW rs x)]))
   unfold kdW;rw [e1,aB,hr']
   rfl
 intro σ H1 m9;refine oE1 m9 λ v0 m7=>oA3 m7 λ m8 s1 ha=>?_;clear m7 m9;subst m8;rw [lu,aR] at ha;refine iE2 mQ _ ⟨rfl,.inl ⟨SqL.of ha,λ t ht=>?_⟩⟩;exact k t _ (s1.trans (zf ht)) (zA s1 ht) mW
def QP (bs:A3) (rs:Av) (L:Int):Prop:=∃ ns,IsLcm ns L/\∀ n,n∈ns ↔ xW bs rs n
def zfr {rs:Av} {L L':Int} (h:QP bs rs L) (h':QP bs rs L'):L=L':=by
 obtain ⟨ns,i,m⟩:=h;obtain ⟨ns',i',m'⟩:=h';have d:L ∣ L':=i.least _ λ n hn=>i'.dv n ((m' n).mpr ((m n).mp hn));have d':L' ∣ L:=i'.least _ λ n hn=>i.dv n ((m n).mpr ((m' n).mp hn));exact Int.dvd_antisymm (c7 i.pos) (c7 i'.pos) d d'
open Classical in
noncomputable def vJ (bs:A3) (rs:Av):Int:=if h:∃ L,QP bs rs L then Classical.choose h else 1
def zbc {rs:Av} (h:QP bs rs L):L=vJ bs rs:=by
 unfold vJ;rw [dif_pos ⟨L,h⟩];exact zfr h (Classical.choose_spec (⟨L,h⟩:∃ L,QP bs rs L))
noncomputable def xa (rs:Av) (st:PSt) (j:Int):Int:=match rs[j.toNat]? with
 | some r=>(st.gone.getD j.toNat []).headD 0 % (r.kinds.length:Int)
 | none=>0
noncomputable def JH (bs:A3) (rs:Av) (st:PSt):ShK:=(some (st.turn % vJ bs rs),st.cells.map (zq rs),st.sides.map some,(zS .source rs).map λ j=>some (xa rs st j))
def V3 (a:Ad):Sp:=λ vs H Q _=>∃ (vw:V) (y:Addr) (n:SN) (j:Nat) (bs:A3) (rs:Av) (st:PSt) (r:Row) (p:A7),vs=[vw,.ref y,.int j]/\Rep H p vw (qz a bs rs)/\StO a H y n st/\rs[j]?=some r/\r.wd=.source/\r.ok/\stWf bs rs st/\Q (.int (xa rs st j)) H
def VN (T:Txt K mg a):Cal P w K mg base "kind_place" 1 ["work","state","number"] [] (V3 a):=T.kF.cal λ F=>by
 refine F.okx XS ?_ ?_
 ·walk_at "i"
 walk_at "j";refine oE5 h λ vw y n j bs m7=>oE4 m7 λ rs st r p m8=>oA8 m8 λ mR hv so hr' hs ok wf k=>?_;clear m7 m8 h;subst mR;refine oE7 (qV hv) λ yw dx fs l1 l2 bvs mK m7=>oA9 m7 λ m8 hy e1 e2 h1 h2 hB hK no=>?_;clear m7;subst m8;obtain ⟨kv,hkv,hKn⟩:=Jp hK hr';refine oE6 hKn.inv λ y1 dx1 m1 m2 m3 fs1 m7=>oA9 m7 λ m8 _ _ _ _ g0 _ _ mR=>oA5 mR λ _ _ _ g3 _=>?_;clear m7 mR;subst m8;obtain ⟨g3a,g3b⟩:=g3 hs;have kp:0 < r.kinds.length:=by
  unfold Row.ok at ok;rw [hs] at ok;have:=ok.2.2.2.2.1
  lia
 have hj:=(aa.mp hr').1;obtain ⟨g,hg⟩:∃ g,st.gone[j]?=some g:=⟨_,ac (by rw [wf.go.1];exact hj)⟩;have q1:=(wf.go.2 j r g hr' hg).1;have cp:=xG ok;obtain ⟨gh,gs,rfl⟩:=cU (eY (by lia:0 < g.length));obtain ⟨bG,hbG,hgG⟩:=xE so.hg hg;have hmap:(n.ags.map V.ref)[j]?=some (.ref bG):=by rw [am,hbG];rfl
 have ek:xa rs st j=gh % (r.kinds.length:Int):=by
  unfold xa;rw [aB,hr',ae,hg]
  rfl
 rw [ek] at k;walk_at "T";refine ⟨_,(zc (zl (zt qq (zo (zo (zj (pq 1) rfl) (pq 2)) zd) (z9 zX zW (za (zj (zo (zj (pq 0) rfl) (pq 2)) rfl) zb))))),?_⟩;walk_at "a";refine ra so.hy T.ad T.gg rfl (zu (SqL.of so.hg.out) (zE hmap) (zu (SqL.of hgG) at0 ?_));walk_at "a";refine ra hy T.gj T.gi e2 (zu (SqL.of h2) (zE hkv) ?_);refine iE5 y1 (wo a r.wd) dx1 fs1 _ (iA6 rfl g0 (CT T _) (by rw [hs];exact T.gu) g3a ?_);refine ⟨_,.inl ⟨_,SqL.of g3b,rfl⟩,?_⟩;rw [zy];walk_at "a";exact ⟨by lia,k⟩
theorem Vm {H:Hp} {p:A7}:∀ c:List Ab,Reps H p (c.map oiV) (c.map oiD)
 | []=>.nil
 | none :: c=>.cons .non (Vm c)
 | some n :: c=>.cons .int (Vm c)
def zbD {t:Addr} {c:List Ab} (h:H t=some (.tup (c.map oiV))):Rep H (z7 H) (.ref t) (.tup (c.map oiD)):=(Vm c).mkT ⟨_,h⟩ h
def Jz {H H':Hp} {d:D} (r:Rep H (z7 H) v d) (s:Same H H'):Rep H' (z7 H') v d:=r.keep λ b o ⟨xs,hx⟩ hb=>⟨⟨xs,s _ _ hx⟩,s _ _ hb⟩
def Wc {H H':Hp} {ds:List D} (r:Reps H (z7 H) vs ds) (s:Same H H'):Reps H' (z7 H') vs ds:=r.keep λ b o ⟨xs,hx⟩ hb=>⟨⟨xs,s _ _ hx⟩,s _ _ hb⟩
def zeK {rs:Av} (h:m∈zS wd rs):∃ (j:Nat) (r:Row),m=j/\rs[j]?=some r/\r.wd=wd:=by
 unfold zS jt at h;obtain ⟨j,hj,rfl⟩:=be.mp h;obtain ⟨h1,h2⟩:=cn.mp hj;have h2:=bT h2;obtain ⟨r,hr,e⟩:=ao.mp h2;exact ⟨j,r,rfl,hr,e⟩
def zfz (a:Ad):Sp:=λ vs H Q _=>∃ (vw:V) (y:Addr) (n:SN) (bs:A3) (rs:Av) (st:PSt) (p:A7),vs=[vw,.ref y]/\Rep H p vw (qz a bs rs)/\StO a H y n st/\stWf bs rs st/\bs.length<=24/\rs.length<=24/\(∀ b∈bs,zB b.1 b.2)/\(∀ r∈rs,r.ok)/\∀ t H',Same H H'->Rep H' (z7 H') (.ref t) (shD (JH bs rs st))->Q (.ref t) H'
def zcb (T:Txt K mg a):Cal P w K mg base "shape_of" 4 ["work","state"] [] (zfz a):=T.lE.cal λ F=>by
 refine F.okx zaa ?_ ?_
 ·walk_at "i"
 walk_at "j";refine oE7 h λ vw y n bs rs st p m7=>oA9 m7 λ m8 hv so wf b24 r24 bo ro k=>?_;clear m7 h;subst m8;refine oE7 (qV hv) λ yw dx fs l1 l2 bvs mK m7=>oA9 m7 λ m8 hy e1 e2 h1 h2 hB hK no=>?_;clear m7;subst m8;walk_at "T";refine ⟨_,(zg (zp 2 zaa.nd (zt qq (zj (pq 1) rfl) (Jo ⟨rfl,rfl,rfl⟩ hr (pq 0))))  (zg (zp 3 zaa.nd (vx Qe Qf (za (jG (vars:=["cells"]) (caps:=[0]) (N:=["cells","work"]) (ON:=["work","state","beat_place","kinds","places"]) (osc:=ze xp) rfl rfl (by first|decide +kernel|kernel_rfl) rfl rfl (qm (zj (pq 1) rfl)) (λ _ _ _ _=>(qg 0 (show (["cells","work"]:Aa).Nodup from by decide +kernel))) (λ _ _ _ _=>qe) (λ _ _ _ _=>(vv hr (za (pq 1) (za (pq 0) zb))))) zb)))  (zg (zp 4 zaa.nd (vx Qe Qf (za (jG (vars:=["number"]) (caps:=[0,1]) (N:=["number","work","state"]) (ON:=["work","state","beat_place","kinds","places"]) (osc:=ze xp) rfl rfl (by first|decide +kernel|kernel_rfl) rfl rfl (qm (Jo ⟨rfl,rfl,rfl⟩ hr (pq 0))) (λ _ _ _ _=>(qg 0 (show (["number","work","state"]:Aa).Nodup from by decide +kernel))) (λ _ _ _ _=>qe) (λ _ _ _ _=>(vv hr (za (pq 1) (za (pq 2) (za (pq 0) zb)))))) zb)))  (zc (zl (qO (za (pq 2) (za (pq 3) (za (vx Qe Qf (za (zj (pq 1) rfl) zb)) (za (pq 4) zb)))))))))),?_⟩;walk_at "a";refine ra so.hy T.ad T.dl rfl ?_;refine iE7 yw a.q dx fs _ _ _ (iA5 rfl hy (no _ (by decide +kernel) (by decide +kernel)) ((zaI T).mono) ?_);refine iE4 (.ref yw) bs rs p (iA7 rfl hv (by lia) (by lia) bo ro (λ L ns H1 il im s1=>?_));have lp:=il.pos;have eL:=zbc ⟨ns,il,im⟩;walk_at "a";rw [eL];clear il im lp eL;have so1:=so.same s1;have hv1:Rep H1 p (.ref yw) (qz a bs rs):=hv.keep λ b o hb ho=>⟨hb,s1 _ _ ho⟩;have lc:n.acs.length=st.cells.length:=by rw [so.hc.len,zI,ai]
 have lcb:st.cells.length=bs.length:=wf.co.1;walk_at "e";walk_at "a";refine ra so1.hy T.ad T.gf rfl ⟨n.lc,rfl,.inl ⟨⟨_,SqL.of so1.hc.out⟩,λ _ _ _ _ mQ hacc=>?_⟩⟩;let mS:Nat->St->Hp->Prop:=λ i σ H'=>∃ (v0:As) (us:Ar),σ=[v0,some (.ref yw)]/\Same H1 H'/\H' mQ=some (.lst us)/\us.length=i/\Reps H' (z7 H') us ((st.cells.take i).map λ c=>.tup ((zq rs c).map oiD));refine qM (K:=K) (a:=n.lc) (xs:=n.acs.map V.ref) mS (iE2 _ ([]) (iA5 rfl (zf hacc) mW rfl (.nil))) (λ i σ H' _ h=>by obtain ⟨_,_,_,s,_⟩:=h;exact SqL.of (s _ _ so1.hc.out)) ?_ ?_
 ·intro i x σ H2 hi m9;refine oE2 m9 λ v0 us m7=>oA5 m7 λ m8 s2 ha lu ru=>?_;clear m7 m9;subst m8;rw [am,ao] at hi;obtain ⟨cb,hcb,rfl⟩:=hi;have hil:i < st.cells.length:=by rw [<- lc];exact (aa.mp hcb).1
  obtain ⟨c,ec⟩:∃ c,st.cells[i]?=some c:=⟨_,ac hil⟩;obtain ⟨vs,hvs,rvs⟩:=so1.hc.g i cb _ hcb (show (zI st.cells)[i]?=some (c.map qa) by rw [zI,am,ec];rfl);obtain ⟨b,hb⟩:∃ b,bs[i]?=some b:=⟨_,ac (by rw [<- wf.co.1];exact hil)⟩;obtain ⟨lc6,wk⟩:=wf.co.2 i b c hb ec;have bk:=(bo b (ah hb)).2.1;walk_at "a";refine uc (zcd T).mono (iE8 (.ref yw) cb vs bs rs c p _ (iA8 rfl (hv1.keep (λ b o hb ho=>⟨hb,s2 _ _ ho⟩)) (s2 _ _ hvs) (rvs.keep (λ b o hb ho=>⟨hb,s2 _ _ ho⟩)) wk ro (by lia) (λ t H3 s3 nt ht=>?_)));have nta:∀ b,z7 H3 b->b≠mQ:=λ b ⟨xs,hx⟩ z=>by rw [z,s3 _ _ ha] at hx;cases hx
  refine ⟨_,iA3 (s3 _ _ ha) (zk (by lia)) (iE2 _ (us ++ [.ref t]) (iA5 rfl (λ b o hb=>by rw [mX (mY hb hacc)];exact s3 _ _ (s2 b o hb)) mW (by simp [lu]) ?_))⟩;rw [aN,ec,bg];refine ((Wc ru s3).append (.one (zbD ht))).keep λ b o tb hb=>?_;have ne:=nta b tb;obtain ⟨xs,hx⟩:=tb;exact ⟨⟨xs,by rw [mX ne];exact hx⟩,by rw [mX ne];exact hb⟩
 intro σ H2 m9;refine oE2 m9 λ v0 us m7=>oA5 m7 λ m8 s2 ha lu ru=>?_;clear m7 m9;subst m8;rw [ai,lc,aR] at ru;refine iE2 mQ _ ⟨rfl,.inl ⟨SqL.of ha,λ t1 ht1=>?_⟩⟩;have s3:=zf (o:=.tup us) ht1;have ru3:=Wc ru s3;have hT1:upd H2 t1 (.tup us) t1=some (.tup us):=mW;have s13:=s2.trans s3;generalize upd H2 t1 (.tup us)=H3 at s3 ru3 hT1 s13 ⊢;have r1:Rep H3 (z7 H3) (.ref t1) (.tup ((st.cells.map (zq rs)).map λ r=>.tup (r.map oiD))):=by
  rw [eQ];exact ru3.mkT ⟨_,hT1⟩ hT1
 clear ru ru3 ha hT1 s2 s3;have so3:=so1.same s13;have hv3:Rep H3 p (.ref yw) (qz a bs rs):=hv1.keep λ b o hb ho=>⟨hb,s13 _ _ ho⟩;walk_at "a";refine iE7 yw a.q dx fs _ _ _ (iA5 rfl (s13 _ _ (s1 _ _ hy)) (no _ (by decide +kernel) (by decide +kernel)) ((vB T).mono) ?_);refine iE4 (.ref yw) bs rs p (iA4 rfl hv3 (by lia) (λ q H4 s4 nq hq=>?_));have ln:=xD .source rs rs.length;have so4:=so3.same s4;have hv4:Rep H4 p (.ref yw) (qz a bs rs):=hv3.keep λ b o hb ho=>⟨hb,s4 _ _ ho⟩;refine ⟨q,rfl,.inl ⟨⟨_,SqL.of hq⟩,λ _ _ _ _ ac2 hac2=>?_⟩⟩;let mT:Nat->St->Hp->Prop:=λ i σ H'=>∃ (v0:As),σ=[v0,some (.ref yw),some (.ref y)]/\Same H4 H'/\H' ac2=some (.lst ((((zS .source rs).take i).map λ j=>some (xa rs st j)).map oiV));refine qM (K:=K) (a:=q) (xs:=iv (zS .source rs)) mT ⟨_,iA3 rfl (zf hac2) mW⟩ (λ i σ H' _ h=>by obtain ⟨_,_,s,_⟩:=h;exact SqL.of (s _ _ hq)) ?_ ?_
 ·intro i x σ H5 hi m9;refine oE1 m9 λ v0 m7=>oA3 m7 λ m8 s5 ha=>?_;clear m7 m9;subst m8;obtain ⟨m,hm,rfl⟩:=Zh hi;have hil:=(aa.mp hm).1;refine oE2 (zeK (ah hm)) λ jj r m7=>oA3 m7 λ m8 hr' hs=>?_;clear m7;subst m8;have ln:(zS .source rs).length<=rs.length:=ln;walk_at "a";refine uc (VN T).mono (iE5 (.ref yw) y n jj bs (iE4 rs st r p (iA8 rfl (hv4.keep (λ b o hb ho=>⟨hb,s5 _ _ ho⟩)) (so4.same s5) hr' hs (ro r (ah hr')) wf ?_)));refine ⟨_,iA3 ha (zk (by rw [ai,ai,aS];lia)) ⟨_,iA3 rfl (λ b o hb=>by rw [mX (mY hb hac2)];exact s5 b o hb) ?_⟩⟩;rw [mW,aN,hm];simp [oiV]
 intro σ H5 m9;refine oE1 m9 λ v0 m7=>oA3 m7 λ m8 s5 ha=>?_;clear m7 m9;subst m8;rw [zy,aR] at ha;refine iE2 ac2 _ ⟨rfl,.inl ⟨SqL.of ha,λ t2 ht2=>?_⟩⟩;have s6:=zf (o:=.tup (((zS .source rs).map λ j=>some (xa rs st j)).map oiV)) ht2;have hT2:upd H5 t2 (.tup (((zS .source rs).map λ j=>some (xa rs st j)).map oiV)) t2=some (.tup (((zS .source rs).map λ j=>some (xa rs st j)).map oiV)):=mW;have s36:=(s4.trans s5).trans s6;generalize upd H5 t2 (.tup (((zS .source rs).map λ j=>some (xa rs st j)).map oiV))=H6 at s36 hT2 ⊢;have so6:=so3.same s36;walk_at "a";refine ra so6.hy T.ad T.gm rfl (iE2 n.ls _ ⟨rfl,.inl ⟨SqL.of so6.hs,λ t3 ht3=>?_⟩⟩);intro t4 ht4;have s7:=zf (o:=.tup (iv st.sides)) ht3;have hT3:upd H6 t3 (.tup (iv st.sides)) t3=some (.tup ((st.sides.map some).map oiV)):=by rw [mW,eQ];rfl
 generalize upd H6 t3 (.tup (iv st.sides))=H7 at s7 hT3 ht4 ⊢;have s8:=zf (o:=.tup [.int (st.turn % vJ bs rs),.ref t1,.ref t3,.ref t2]) ht4;have hT4:upd H7 t4 (.tup [.int (st.turn % vJ bs rs),.ref t1,.ref t3,.ref t2]) t4=some (.tup [.int (st.turn % vJ bs rs),.ref t1,.ref t3,.ref t2]):=mW;generalize upd H7 t4 (.tup [.int (st.turn % vJ bs rs),.ref t1,.ref t3,.ref t2])=H8 at s8 hT4 ⊢;refine k t4 H8 ((s1.trans s13).trans (s36.trans (s7.trans s8))) ?_;exact Reps.mkT (vs:=[.int (st.turn % vJ bs rs),.ref t1,.ref t3,.ref t2]) (.cons .int (.cons (Jz r1 (s36.trans (s7.trans s8))) (.cons (Jz (zbD hT3) s8) (.cons (Jz (zbD hT2) (s7.trans s8)) .nil)))) ⟨_,hT4⟩ hT4
noncomputable abbrev qJ (bs:A3) (rs:Av) (i:Nat):ShK:=JH bs rs (zi bs rs i)
structure RoundAt (bs:A3) (rs:Av) (lim i j:Nat):Prop where
 lt:i < j
 le:j<=lim
 eq:qJ bs rs i=qJ bs rs j
 fst:∀ x y,x < y->y < j->qJ bs rs x≠qJ bs rs y
def vY (bs:A3) (rs:Av) (lim:Nat):Prop:=∀ x y,x < y->y<=lim->qJ bs rs x≠qJ bs rs y
def RoundAt.one {rs:Av} {lim lim' i j i' j':Nat} (h:RoundAt bs rs lim i j) (h':RoundAt bs rs lim' i' j'):i=i'/\j=j':=by
 have ej:j=j':=by
  rcases eu j j' with z|z|z
  ·exact absurd h.eq (h'.fst i j h.lt z)
  ·exact z
  ·exact absurd h'.eq (h.fst i' j' h'.lt z)
 subst ej;refine ⟨?_,rfl⟩;rcases eu i i' with z|z|z
 ·exact absurd (h.eq.trans h'.eq.symm) (h.fst i i' z h'.lt)
 ·exact z
 ·exact absurd (h'.eq.trans h.eq.symm) (h.fst i' i z h.lt)
def RoundAt.no {rs:Av} {lim i j:Nat} (h:RoundAt bs rs lim i j):¬ vY bs rs lim:=λ z=>z i j h.lt h.le h.eq
def Nxt (H H':Hp):Prop:=∀ b u,H b=some u->(∀ φ,u≠.ext φ)->H' b=some u
def Same.nxt {H H':Hp} (s:Same H H'):Nxt H H':=λ b u hb _=>s b u hb
def Nxt.trans {H H' H2:Hp} (a:Nxt H H') (b:Nxt H' H2):Nxt H H2:=λ c u hc n=>b c u (a c u hc n) n
def zf4 {D:Addr} {φ:Heap->Prop} (h:H D=some (.ext φ)):Nxt H (upd H D o):=λ b u hb n=>by
 rw [mX (λ z=>by rw [z,h] at hb;cases hb;exact n φ rfl)];exact hb
def zeM {H H':Hp} {as:Ae} {xss:List (List D)} (h:NL H (z7 H) G as xss) (s:Nxt H H'):NL H' (z7 H') G as xss:=by
 refine h.tup λ b o c hb=>s b o hb λ φ z=>?_;subst z;rcases c with c|c|⟨xs,c⟩
 ·rw [c,h.out] at hb;cases hb
 ·obtain ⟨vs,hv⟩:=h.isl (aF _ c);rw [hv] at hb;cases hb
 ·rw [c] at hb;cases hb
def StO.nxt {H H':Hp} {y:Addr} {n:SN} {st:PSt} (h:StO a H y n st) (s:Nxt H H'):StO a H' y n st:=⟨s _ _ h.hy (λ φ z=>by cases z),zeM h.hc s,s _ _ h.hs (λ φ z=>by cases z),zeM h.hg s,h.nd⟩
def zfy {H H':Hp} {d:D} (r:Rep H (z7 H) v d) (s:Nxt H H'):Rep H' (z7 H') v d:=r.keep λ b o ⟨xs,hx⟩ hb=>by
 have e:=s b _ hx (λ φ z=>by cases z);rw [hx] at hb;cases hb;exact ⟨⟨xs,e⟩,e⟩
structure SD (a:Ad) (H:Hp) (bs:A3) (rs:Av) (xs:List (ShK × Addr × Addr)) (t:Nat):Prop where
 len:xs.length=t
 at':∀ (i:Nat) x,xs[i]?=some x->x.1=qJ bs rs i/\Rep H (z7 H) (.ref x.2.1) (shD x.1)/\∃ n,StO a H x.2.2 n (zi bs rs i)
 fst:∀ x y,x < y->y < t->qJ bs rs x≠qJ bs rs y
def SD.nxt {H H':Hp} {rs:Av} {xs:List (ShK × Addr × Addr)} {t:Nat} (h:SD a H bs rs xs t) (s:Nxt H H'):SD a H' bs rs xs t:=⟨h.len,λ i x e=>by
 obtain ⟨e1,r,n,so⟩:=h.at' i x e;exact ⟨e1,zfy r s,n,so.nxt s⟩,h.fst⟩
def SD.keys {rs:Av} {xs:List (ShK × Addr × Addr)} {t:Nat} (h:SD a H bs rs xs t):keysOk H xs:=λ x hx=>by
 obtain ⟨i,hi⟩:=br hx;exact ⟨_,(h.at' i x hi).2.1⟩
def SD.look {rs:Av} {xs:List (ShK × Addr × Addr)} {t:Nat} {k:ShK} {y:Addr} (h:SD a H bs rs xs t) (e:xP xs k=some y):∃ i n,i < t/\qJ bs rs i=k/\StO a H y n (zi bs rs i):=by
 unfold xP at e;obtain ⟨x,hx,rfl⟩:=ao.mp e;have hk:x.1=k:=by
  have:=List.find?_some hx;simpa using this
 obtain ⟨i,hi⟩:=br (List.mem_of_find?_eq_some hx);obtain ⟨e1,_,n,so⟩:=h.at' i x hi;exact ⟨i,n,by rw [<- h.len];exact (aa.mp hi).1,e1.symm.trans hk,so⟩
def SD.new {rs:Av} {xs:List (ShK × Addr × Addr)} {t:Nat} {k:ShK} (h:SD a H bs rs xs t) (e:xP xs k=none):∀ i,i < t->qJ bs rs i≠k:=λ i hi z=>by
 obtain ⟨x,hx⟩:∃ x,xs[i]?=some x:=⟨_,ac (by rw [h.len];exact hi)⟩;unfold xP at e;rw [Option.map_eq_none_iff,List.find?_eq_none] at e;exact e x (ah hx) (bp ((h.at' i x hx).1.trans z))
def SD.add {rs:Av} {xs:List (ShK × Addr × Addr)} {t:Nat} {b y:Addr} {n:SN} (h:SD a H bs rs xs t) (e:xP xs (qJ bs rs t)=none) (r:Rep H (z7 H) (.ref b) (shD (qJ bs rs t))) (so:StO a H y n (zi bs rs t)):SD a H bs rs (xs ++ [(qJ bs rs t,b,y)]) (t + 1):=by
 refine ⟨by simp [h.len],λ i x hx=>?_,λ u v huv hv=>?_⟩
 ·by_cases hi:i < xs.length
  ·rw [aO hi] at hx;exact h.at' i x hx
  ·rw [aI (by lia)] at hx;have hz:=(aa.mp hx).1;have:i=t:=by simp at hz;have:=h.len;lia
   subst this;rw [h.len,fv] at hx;cases hx;exact ⟨rfl,r,n,so⟩
 ·rcases Nat.lt_or_ge v t with z|z
  ·exact h.fst u v huv z
  ·have:v=t:=by lia
   subst this;exact h.new e u huv
def V1 (a:Ad):Sp:=λ vs H Q E=>∃ (vw:V) (lim:Nat) (bs:A3) (rs:Av),vs=[vw,.int lim]/\Rep H (Off []) vw (qz a bs rs)/\zR bs rs/\(∀ b∈bs,zB b.1 b.2)/\(∀ r∈rs,r.ok)/\lim<=1000 /\
 (∀ i j t y0 y1 n0 n1 H',RoundAt bs rs lim i j->Same H H'->H' t=some (.tup [.ref y0,.ref y1])->StO a H' y0 n0 (zi bs rs i)->StO a H' y1 n1 (zi bs rs j)->Q (.ref t) H') /\
 (vY bs rs lim->∀ H',Same H H'->E (.ref a.g) none H')
theorem Qb (T:Txt K mg a):Cal P w K mg base "round_ends" 8 ["work","limit"] [] (V1 a):=T.kG.cal λ F=>by
 refine F.okx XQ ?_ ?_
 ·walk_at "i"
 walk_at "j";refine oE4 h λ vw lim bs rs m7=>oA8 m7 λ m8 hv mP bo ro l1000 kQ kE=>?_;clear m7 h;subst m8;have b24:=mP.1.1.2;have r24:=mP.1.2.2;walk_at "T";refine ⟨_,(zh (zp 2 XQ.nd (zx ⟨rfl,rfl,rfl⟩ hr (za (pq 0) zb)))  (zh (zp 3 XQ.nd zfV)  (qd (ql qC rfl (jD (za (zt zJ (pq 1) zd) zb)) (qg 4 XQ.nd)  (zh (zp 5 XQ.nd (zx ⟨rfl,rfl,rfl⟩ hr (za (pq 0) (za (pq 2) zb))))  (zh (zD (zez (zg9 hr.units1 (pq 5) (pq 3)) (by with_unfolding_all rfl))  (zc (zl (qO (za (zfW hr.units1 (pq 3) (pq 5) (λ _ _=>rfl)) (za (pq 2) zb)))))  zn)  (zh (zfS hr.units1 (pq 3) (pq 5) (pq 2) rfl)  (zc (zp 2 XQ.nd (zx ⟨rfl,rfl,rfl⟩ hr (za (pq 0) (za (pq 2) zb)))))))))  (zc (jd ⟨rfl,rfl,rfl⟩ rfl (za jF zb)))))),?_⟩;walk_at "a";refine uc (Zl T).mono (iE4 vw bs rs _ (iA7 rfl hv b24 r24 bo ro (λ v' H1 s1 sn=>?_)));refine oE2 sn λ y nn m7=>oA5 m7 λ m8 so _ _ _=>?_;clear m7 sn;subst m8;walk_at "a";intro D hD;have sD:=zf (o:=sdO P w D []) hD;have nD:H D=none:=zA s1 hD;have s2:=s1.trans sD;have so2:=so.same sD;have hD2:upd H1 D (sdO P w D []) D=some (sdO P w D []):=mW;generalize upd H1 D (sdO P w D [])=H2 at s2 so2 hD2 ⊢;clear so s1 sD hD;walk_at "a";let mS:St->Hp->Prop:=λ σ' H'=>∃ (v2 v4 v5:As),σ'=[some vw,some (.int lim),v2,some (.ref D),v4,v5]/\Same H H'/\vY bs rs lim;refine cut mS ?_ ?_
 ·walk_at "d";walk_at "a";refine ⟨by lia,by lia,?_⟩;refine xS (n:=((lim:Int) + 1).toNat) (λ t σ H'=>∃ (v4 v5:As) (y:Addr) (n:SN) (xs:List (ShK × Addr × Addr)),σ=[some vw,some (.int lim),some (.ref y),some (.ref D),v4,v5]/\Same H H'/\H' D=some (sdO P w D xs)/\StO a H' y n (zi bs rs t)/\SD a H' bs rs xs t) (iE5 _ _ y nn ([]) (iA5 rfl s2 hD2 so2 ⟨rfl,λ i x e=>by simp at e,λ x y _ z=>absurd z (Nat.not_lt_zero _)⟩)) ?_ ?_
  ·clear so2 hD2 s2;intro t σ H3 ht m9;refine oE5 m9 λ v4 v5 y n xs m7=>oA5 m7 λ m8 s3 hD3 so3 sd3=>?_;clear m7 m9;subst m8;have ht':t<=lim:=by lia
   have lx:=sd3.len;walk_at "a";refine uc (zcb T).mono (iE7 vw y n bs rs (zi bs rs t) _ (iA9 rfl (hv.same s3) so3 (zH mP bo ro t) b24 r24 bo ro (λ b H4 s4 r4=>?_)));have hD4:=s4 _ _ hD3;have so4:=so3.same s4;have sd4:=sd3.nxt (Same.nxt s4);have s04:=s3.trans s4;clear hD3 so3 sd3 s3 s4;walk_at "a";refine iE5 D b xs _ _ (iA6 rfl rfl hD4 sd4.keys r4 ?_);cases el:xP xs (qJ bs rs t) with
   | some y0 =>
    refine oE2 (sd4.look el) λ i n0 m7=>oA3 m7 λ hi ei so0=>?_;clear m7;walk_at "a";refine iE6 D b xs _ _ y0 (iA7 rfl rfl hD4 sd4.keys r4 el (λ q hq=>?_));have sq:=zf (o:=.tup [.ref y0,.ref y]) hq;exact kQ i t q y0 y n0 n _ ⟨hi,ht',ei,sd4.fst⟩ (s04.trans sq) mW (so0.same sq) (so4.same sq)
   | none =>
    walk_at "a";refine iE6 D b xs _ _ y (iA9 rfl rfl rfl hD4 sd4.keys r4 el (zk (by lia)) ?_);have nx:Nxt H4 (upd H4 D (sdO P w D (xs ++ [(qJ bs rs t,b,y)]))):=zf4 hD4;have so5:=so4.nxt nx;have sd5:=(sd4.add el r4 so4).nxt nx;have hD5:upd H4 D (sdO P w D (xs ++ [(qJ bs rs t,b,y)])) D=some (sdO P w D (xs ++ [(qJ bs rs t,b,y)])):=mW;have s5:Same H (upd H4 D (sdO P w D (xs ++ [(qJ bs rs t,b,y)]))):=λ c u hc=>by rw [mX (mY hc nD)];exact s04 c u hc
    generalize upd H4 D (sdO P w D (xs ++ [(qJ bs rs t,b,y)]))=H5 at so5 sd5 hD5 s5 ⊢;walk_at "a";refine uc (Xz T).mono (spOneTurn.i vw (.ref y) (zi bs rs t) bs rs _ rfl (hv.same s5) so5.rep (zH mP bo ro t) mP bo ro (λ v' H6 s6 sn=>?_));refine oE2 sn λ y2 n2 m7=>oA3 m7 λ m8 so6 _=>?_;clear m7 sn;subst m8;exact iE5 _ _ y2 n2 _ (iA5 rfl (s5.trans s6) (s6 _ _ hD5) so6 (sd5.nxt (Same.nxt s6)))
  ·intro σ H3 m9;refine oE5 m9 λ v4 v5 y n xs m7=>oA5 m7 λ m8 s3 hD3 so3 sd3=>?_;clear m7 m9;subst m8;exact iE3 _ _ _ (iA3 rfl s3 (λ x y hxy hy=>sd3.fst x y hxy (by lia)))
 intro σ' H3 m9;refine oE3 m9 λ v2 v4 v5 m7=>oA3 m7 λ m8 s3 nr=>?_;clear m7 m9;subst m8;walk_at "a";exact ⟨a.g,iA3 T.kK T.l8 (kE nr H3 s3)⟩
noncomputable def wY (old new:A8):List Int:=(List.range old.length).map λ p=>new.getD p 0 - old.getD p 0
noncomputable def xf (gs0 gs1:List A8):List A8:=List.zipWith wY gs0 gs1
def zdK {gs0 gs1:List A8} {g0 g1:A8} (h0:gs0[i]?=some g0) (h1:gs1[i]?=some g1):xf (gs0.take (i + 1)) (gs1.take (i + 1))=xf (gs0.take i) (gs1.take i) ++ [wY g0 g1]:=by
 unfold xf;rw [aN,aN,h0,h1];have l0:=(aa.mp h0).1;have l1:=(aa.mp h1).1;rw [List.zipWith_append (by rw [aS,aS];lia)]
 rfl
def zel (a:Ad):Sp:=λ vs H Q _=>∃ (y0 y1:Addr) (n0 n1:SN) (s0 s1:PSt),vs=[.ref y0,.ref y1]/\StO a H y0 n0 s0/\StO a H y1 n1 s1/\s0.gone.length=s1.gone.length/\s0.gone.length<=24/\(∀ (i:Nat) g0 g1,s0.gone[i]?=some g0->s1.gone[i]?=some g1->g0.length=g1.length/\g0.length<=4) /\
 ∀ l as H',Same H H'->NL H' (z7 H') l as (qk (xf s0.gone s1.gone))->(∀ b∈l :: as,H b=none)->Q (.ref l) H'
def za5 (T:Txt K mg a):Cal P w K mg base "growth_of" 1 ["before","after"] [] (zel a):=T.kZ.cal λ F=>by
 refine F.okx Vg ?_ ?_
 ·walk_at "i"
 walk_at "j";refine oE6 h λ y0 y1 n0 n1 s0 s1 m7=>oA7 m7 λ m8 so0 so1 le l24 lg k=>?_;clear m7 h;subst m8;have la0:n0.ags.length=s0.gone.length:=by rw [so0.hg.len,qk,ai]
 have la1:n1.ags.length=s0.gone.length:=by rw [so1.hg.len,qk,ai,le]
 walk_at "T";refine ⟨_,(zg (zp 2 Vg.nd (zL zb))  (zg (ql qC rfl (zbF (za (zj (pq 0) rfl) (za (zj (pq 1) rfl) zb))) (xA (n:=2) rfl (z8 (vQ (i:=3) Vg.nd rfl (Or.inr rfl)) (z8 (vQ (i:=4) Vg.nd rfl (Or.inr rfl)) jE)))  (zc (zw (qy aq ax aw zK (pq 2) (za (jG (vars:=["place"]) (caps:=[4,3]) (N:=["place","new","old"]) (ON:=["before","after","growth","old","new"]) (osc:=ze xJ) rfl rfl (by first|decide +kernel|kernel_rfl) rfl rfl (jD (za (z9 zX zW (za (pq 3) zb)) zb)) (λ _ _ _ _=>(qg 0 (show (["place","new","old"]:Aa).Nodup from by decide +kernel))) (λ _ _ _ _=>qe) (λ _ _ _ _=>(zt xC (zo (pq 1) (pq 0)) (zo (pq 2) (pq 0))))) zb)))))  (zc (zl (pq 2))))),?_⟩;walk_at "a";intro l hl;have sl:=zf (o:=.lst []) hl;have nl0:NL (upd H l (.lst [])) (z7 (upd H l (.lst []))) l [] (qk (xf (s0.gone.take 0) (s1.gone.take 0))):=zbM mW;generalize upd H l (.lst [])=H1 at sl nl0 ⊢;have so10:=so0.same sl;have so11:=so1.same sl;walk_at "d";walk_at "a";refine ra so10.hy T.ad T.gg rfl (ra so11.hy T.ad T.gg rfl (iE6 true true n0.lg n1.lg _ _ (iA4 rfl (SqL.of so10.hg.out) (SqL.of so11.hg.out) ?_)));let mS:Nat->St->Hp->Prop:=λ i σ H'=>∃ (v3 v4:As) (as:Ae),σ=[some (.ref y0),some (.ref y1),some (.ref l),v3,v4]/\Same H H'/\NL H' (z7 H') l as (qk (xf (s0.gone.take i) (s1.gone.take i)))/\∀ b∈as,H b=none;refine zfa (K:=K) (xs:=n0.ags.map V.ref) (ys:=n1.ags.map V.ref) mS (iE3 _ _ ([]) (iA4 rfl sl nl0 (by simp))) (λ i σ H' _ h=>by obtain ⟨_,_,_,_,s,_⟩:=h;exact ⟨SqL.of (s _ _ so0.hg.out),SqL.of (s _ _ so1.hg.out)⟩) ?_ ?_
 ·intro i x z t σ H2 hi hj ht m9;refine oE3 m9 λ v3 v4 as m7=>oA4 m7 λ m8 s2 nl2 fa=>?_;clear m7 m9;subst m8;rw [am,ao] at hi hj;obtain ⟨b0,hb0,rfl⟩:=hi;obtain ⟨b1,hb1,rfl⟩:=hj;have hil:i < s0.gone.length:=by rw [<- la0];exact (aa.mp hb0).1
  obtain ⟨g0,e0⟩:∃ g,s0.gone[i]?=some g:=⟨_,ac hil⟩;obtain ⟨g1,e1⟩:∃ g,s1.gone[i]?=some g:=⟨_,ac (by rw [<- le];exact hil)⟩;obtain ⟨lg1,lg4⟩:=lg i g0 g1 e0 e1;obtain ⟨c0,q0,h0⟩:=xE so0.hg e0;obtain ⟨c1,q1,h1⟩:=xE so1.hg e1;rw [hb0] at q0;cases q0;rw [hb1] at q1;cases q1;have st:=zf (o:=.tup [.ref b0,.ref b1]) ht;have s3:=s2.trans st;have nl3:=nl2.tup (H':=upd H2 t (.tup [.ref b0,.ref b1])) λ b o _ hb=>st b o hb;refine un2 mW ?_;generalize upd H2 t (.tup [.ref b0,.ref b1])=H3 at s3 nl3 ⊢;have las:as.length<=24:=by rw [nl3.len,qk,ai,xf,fS,aS,aS];lia
  walk_at "a";refine ⟨.inl ⟨rfl,_,SqL.of nl3.out⟩,?_⟩;walk_at "e";walk_at "a";refine ⟨_,.inl ⟨_,SqL.of (s3 _ _ h0),rfl⟩,?_⟩;rw [zy];walk_at "a";refine ⟨by lia,by lia,λ _ _ _ _ mQ hacc=>?_⟩;let mT:Nat->St->Hp->Prop:=λ j σ H'=>∃ (v0:As),σ=[v0,some (.ref b1),some (.ref b0)]/\Same H3 H'/\H' mQ=some (.lst (iv ((List.range j).map λ p=>g1.getD p 0 - g0.getD p 0)));refine xS (n:=((g0.length:Int)).toNat) mT ⟨_,iA3 rfl (zf hacc) mW⟩ ?_ ?_
  ·intro j σ H4 hj m9;refine oE1 m9 λ v0 m7=>oA3 m7 λ m8 s4 ha=>?_;clear m7 m9;subst m8;have hjl:j < g0.length:=by lia
   walk_at "a";simp only [cZ];refine zu (SqL.of (s4 _ _ (s3 _ _ h1))) (zE (jN (qo (d:=0) (by lia:j < g1.length)))) (zu (SqL.of (s4 _ _ (s3 _ _ h0))) (zE (jN (qo (d:=0) hjl))) ?_);walk_at "a";refine ⟨_,iA3 ha (zk (by rw [zy,ai,List.length_range];lia)) ⟨_,iA3 rfl (λ b o hb=>by rw [mX (mY hb hacc)];exact s4 b o hb) ?_⟩⟩;rw [mW,qI,range_succ,bg]
   rfl
  intro σ H4 m9;refine oE1 m9 λ v0 m7=>oA3 m7 λ m8 s4 ha=>?_;clear m7 m9;subst m8;rw [show ((g0.length:Int)).toNat=g0.length by lia] at ha;have nl4:=nl3.tup (H':=H4) λ b o _ hb=>s4 b o hb;have nb:mQ ∉ as:=λ z=>by
   obtain ⟨vs,h⟩:=nl3.isl (aF _ z);rw [hacc] at h;cases h
  have nG:mQ≠l:=λ z=>by rw [z,nl3.out] at hacc;cases hacc
  have ntG:¬ z7 H4 l:=λ ⟨xs,hx⟩=>by rw [nl4.out] at hx;cases hx
  refine iE3 l _ _ (iA5 rfl rfl nl4.out (zk (by rw [ai];lia)) ?_);have np:=nl4.push (b:=mQ) (vs:=iv (wY g0 g1)) (ys:=(wY g0 g1).map D.int) ha nb nG ntG reps_ints;refine iE3 _ _ (as ++ [mQ]) (iA4 rfl (λ b o hb=>by rw [mX (mY hb hl)];exact s4 _ _ (s3 _ _ hb)) ?_ (λ b hb=>?_))
  ·rw [zdK e0 e1,show qk (xf (s0.gone.take i) (s1.gone.take i) ++ [wY g0 g1])=qk (xf (s0.gone.take i) (s1.gone.take i)) ++ [(wY g0 g1).map D.int] by simp [qk]];refine np.keep (λ _ _ _ hc=>hc) λ c hc _=>?_;obtain ⟨xs,hx⟩:=hc;exact ⟨xs,by rw [mX (λ z=>by rw [z,nl4.out] at hx;cases hx)];exact hx⟩
  ·rcases aH.mp hb with hb|hb
   ·exact fa b hb
   ·rw [ay.mp hb];exact zA s3 hacc
 ·intro σ H2 m9;refine oE3 m9 λ v3 v4 as m7=>oA4 m7 λ m8 s2 nl2 fa=>?_;clear m7 m9;subst m8;rw [ai,ai,la0,la1,ee,aR,show List.take s0.gone.length s1.gone=s1.gone by rw [le];exact aR] at nl2;walk_at "a";refine k l as _ s2 nl2 λ b hb=>?_;rcases az.mp hb with rfl|hb
  ·exact hl
  ·exact fa b hb
def VX {st:PSt} {fb:Ab}:(zY st k fb).2.turn=st.turn/\(zY st k fb).2.sides=st.sides/\(zY st k fb).2.gone=st.gone:=by
 cases fb <;> exact ⟨rfl,rfl,rfl⟩
def zat {st:PSt} {x:zC} {tb:Ab}:(vt st x tb).turn=st.turn/\(vt st x tb).sides=st.sides/\(vt st x tb).gone=st.gone:=by
 cases tb <;> exact ⟨rfl,rfl,rfl⟩
def movedF_keep {r:Row} {st:PSt} {ch:Am}:(movedF r st k ch).turn=st.turn/\(movedF r st k ch).sides=st.sides/\(movedF r st k ch).gone=st.gone:=by
 obtain ⟨a1,a2,a3⟩:=VX (st:=st) (k:=k) (fb:=qE r ch);obtain ⟨b1,b2,b3⟩:=zat (st:=(zY st k (qE r ch)).2) (x:=(zY st k (qE r ch)).1) (tb:=Zn r ch);exact ⟨b1.trans a1,b2.trans a2,b3.trans a3⟩
def jx {α:Type} {xs:List α} {k j:Nat} {x d:α} (h:k≠j):(xs.set k x).getD j d=xs.getD j d:=by
 rw [ae,ae,bK h]
def zd1 (rs:Av) (st:PSt) (k:Nat):(qG rs st k).1.turn=st.turn/\∀ j,k < j->(qG rs st k).1.sides.getD j 0=st.sides.getD j 0/\(qG rs st k).1.gone.getD j []=st.gone.getD j []:=by
 unfold qG;cases rs[k]? with
 | none=>exact ⟨rfl,λ _ _=>⟨rfl,rfl⟩⟩
 | some r =>
  simp only;cases qh r (qp rs st.cells r) (qU st.cells r) st.turn (st.sides.getD k 0).toNat with
  | none=>exact ⟨rfl,λ _ _=>⟨rfl,rfl⟩⟩
  | some ch =>
   obtain ⟨c1,c2,c3⟩:=movedF_keep (r:=r) (st:=st) (k:=k) (ch:=ch);refine ⟨c1,λ j hj=>⟨?_,?_⟩⟩
   ·show ((movedF r st k ch).sides.set k _).getD j 0=_
    rw [jx (by lia),c2]
   ·show ((movedF r st k ch).gone.set k _).getD j []=_
    rw [jx (by lia),c3]
theorem Q0 (rs:Av) (st:PSt):∀ i,(zF rs st i).1.turn=st.turn/\∀ j,i<=j->(zF rs st i).1.sides.getD j 0=st.sides.getD j 0/\(zF rs st i).1.gone.getD j []=st.gone.getD j []
 | 0=>⟨rfl,λ _ _=>⟨rfl,rfl⟩⟩
 | i + 1=>by
  obtain ⟨h1,h2⟩:=Q0 rs st i;obtain ⟨g1,g2⟩:=zd1 rs (zF rs st i).1 i;refine ⟨g1.trans h1,λ j hj=>?_⟩;obtain ⟨a1,a2⟩:=h2 j (by lia);obtain ⟨b1,b2⟩:=g2 j (by lia);exact ⟨b1.trans a1,b2.trans a2⟩
theorem qt (bs:A3) (rs:Av):∀ n,(zi bs rs n).turn=n
 | 0=>rfl
 | n + 1=>by
  show (zF rs (zi bs rs n) rs.length).1.turn + 1=_
  rw [(Q0 rs (zi bs rs n) rs.length).1,qt bs rs n]
  rfl
def zgi (g:A8) (j p:Nat):g.getD p 0<=(ZH g j).getD p 0:=by
 unfold ZH;by_cases e:j=p
 ·subst e;by_cases h:j < g.length
  ·rw [ae (l:=g.set _ _),a7 h];show _<=g.getD j 0 + 1
   lia
  ·rw [de (by lia)];exact bL _
 ·rw [jx e];exact bL _
def XG (rs:Av) (st:PSt) (k i p:Nat):(st.gone.getD i []).getD p 0<=((qG rs st k).1.gone.getD i []).getD p 0:=by
 unfold qG;cases rs[k]? with
 | none=>exact bL _
 | some r =>
  simp only;cases qh r (qp rs st.cells r) (qU st.cells r) st.turn (st.sides.getD k 0).toNat with
  | none=>exact bL _
  | some ch =>
   obtain ⟨c1,c2,c3⟩:=movedF_keep (r:=r) (st:=st) (k:=k) (ch:=ch);show _<=(((movedF r st k ch).gone.set k _).getD i []).getD p 0
   rw [c3];by_cases e:k=i
   ·subst e;by_cases h:k < st.gone.length
    ·rw [ae (l:=st.gone.set _ _),a7 h];exact zgi _ _ _
    ·rw [de (by lia)];exact bL _
   ·rw [jx e];exact bL _
theorem WR (rs:Av) (st:PSt) (i p:Nat):∀ m,(st.gone.getD i []).getD p 0<=((zF rs st m).1.gone.getD i []).getD p 0
 | 0=>bL _
 | m + 1=>Int.le_trans (WR rs st i p m) (XG rs _ m i p)
theorem vP (bs:A3) (rs:Av) (n i p:Nat):∀ m,((zi bs rs n).gone.getD i []).getD p 0<=((zi bs rs (n + m)).gone.getD i []).getD p 0
 | 0=>bL _
 | m + 1=>Int.le_trans (vP bs rs n i p m) (WR rs (zi bs rs (n + m)) i p rs.length)
def zdL {rs:Av} {s0 s1:PSt} (ro:∀ r∈rs,r.ok) (w0:stWf bs rs s0) (w1:stWf bs rs s1):s0.gone.length=s1.gone.length/\∀ (i:Nat) g0 g1,s0.gone[i]?=some g0->s1.gone[i]?=some g1->g0.length=g1.length/\g0.length<=4:=by
 refine ⟨by rw [w0.go.1,w1.go.1],λ i g0 g1 e0 e1=>?_⟩;have hi:=(aa.mp e0).1;obtain ⟨r,hr⟩:∃ r,rs[i]?=some r:=⟨_,ac (by rw [<- w0.go.1];exact hi)⟩;have q0:=(w0.go.2 i r g0 hr e0).1;have q1:=(w1.go.2 i r g1 hr e1).1;have rl:=xz (ro r (ah hr));refine ⟨by lia,?_⟩;rw [q0];have:=bd (n:=max r.ins.length r.outs.length) (a:=(0:Int));show (qF r).length<=4
 unfold qF;rw [bd]
 lia
def zed (a:Ad) (R:List (Int × Int)->List Row->Nat->Nat->Hp->V->Hp->Prop):Sp:=λ vs H Q E=>∃ (vw:V) (lim:Nat) (bs:A3) (rs:Av),vs=[vw,.int lim]/\Rep H (Off []) vw (qz a bs rs)/\zR bs rs/\(∀ b∈bs,zB b.1 b.2)/\(∀ r∈rs,r.ok)/\lim<=1000 /\
 (∀ i j v H',RoundAt bs rs lim i j->Same H H'->R bs rs i j H v H'->Q v H')/\(vY bs rs lim->∀ H',Same H H'->E (.ref a.g) none H')
def rOf (_:A3) (_:Av) (i j:Nat) (_:Hp) (v:V) (H':Hp):Prop:=∃ t,v=.ref t/\H' t=some (.tup [.int i,.int ((j:Int) - i)])
def QT (T:Txt K mg a) (F:FunD K "round_of" "round_of" js f fd):FnOk P w K mg base (CXr P w) 9 f fd ["work","limit"] (zed a rOf):=by
 refine F.okx zab ?_ ?_
 ·walk_at "i"
 walk_at "j";refine oE4 h λ vw lim bs rs m7=>oA8 m7 λ m8 hv mP bo ro l1000 kQ kE=>?_;clear m7 h;subst m8;walk_at "T";refine ⟨_,(zg (zp 2 zab.nd (zx ⟨rfl,rfl,rfl⟩ hr (za (pq 0) (za (pq 1) zb))))  (zc (zl (qO (za (zj (zo (pq 2) zd) rfl) (za (zt xC (zj (zo (pq 2) zd) rfl) (zj (zo (pq 2) zd) rfl)) zb)))))),?_⟩;walk_at "a";refine uc (Qb T).mono (iE4 vw lim bs rs (iA8 rfl hv mP bo ro l1000 (λ i j t y0 y1 n0 n1 H1 rnd s1 ht so0 so1=>?_) kE));walk_at "a";refine n6 ht at0 (ra so0.hy T.ad T.dl rfl ?_);refine n6 ht (show atI _ 1=some (.ref y1) from rfl) (ra so1.hy T.ad T.dl rfl ?_);refine n6 ht at0 (ra so0.hy T.ad T.dl rfl ?_);walk_at "a";intro t2 ht2;rw [qt,qt];exact kQ i j _ _ rnd (s1.trans (zf ht2)) ⟨t2,rfl,mW⟩
def zcc (T:Txt K mg a):Cal P w K mg base "round_of" 9 ["work","limit"] [] (zed a rOf):=T.kg.cal (QT T)
def zb9 (T:Txt K mg a):Cal P w K mg base "round_of" 9 ["work","limit"] [.int 200] (zed a rOf):=T.kg.cald (QT T)
def Jr {A W Z:Prop} [Decidable A] (z:Z) (w:A->Z->W):if A then W else Z:=by
 by_cases h:A
 ·rw [ar h];exact w h z
 ·rw [ap h];exact z
inductive spLimit (K:A0) (a:Ad) (vs:Ar) (H:Hp) (Q:VK) (E:XK):Prop
 | i (l:Addr) (ns:A8) (vw:V) (bs:A3) (rs:Av) (p:A7):vs=[.ref l,vw]->SqL K H l (iv ns)->Rep H p vw (qz a bs rs)->(∀ lim:Nat,lim<=1000->Q (.int lim) H)->spLimit K a vs H Q E
def zdW (T:Txt K mg a):Cal P w K mg base "_law_limit" 2 ["_law_script","_law_work_here"] [] (spLimit K a):=T.lX.cal λ F=>by
 refine F.okx zbv ?_ ?_
 ·walk_at "i"
 walk_at "j";rcases h with ⟨l,ns,vw,bs,rs,p,rfl,hl,hv,k⟩;refine oE7 (qV hv) λ yw dx fs l1 l2 bvs mK m7=>oA9 m7 λ m8 hy e1 e2 h1 h2 hB hK no=>?_;clear m7;subst m8;have kk:∀ n:Int,0<=n->n<=1000->Q (.int n) H:=λ n a b=>by
  obtain ⟨m,rfl⟩:∃ m:Nat,n=m:=⟨n.toNat,by lia⟩;exact k m (by lia)
 walk_at "T";refine ⟨_,(zh (zp 2 zbv.nd (zx ⟨rfl,rfl,rfl⟩ hr (za (zx ⟨rfl,rfl,rfl⟩ hr (za (pq 0) (za zd zb))) (za zd zb))))  (zh (zD (PW.pt (pw_and (zm QS (zZ (pq 2)) zd (zr _)) (pw_and1 (zm (qK hr.units1) (z9 zX zW (za (zj (pq 1) rfl) zb)) zd (zr _)))))  (zc (zl zd))  zn)  (zh (zD (PW.pt (pw_and (zm (qK hr.units1) (zZ (pq 2)) zd (zr _)) (pw_and1 (zm QS (z9 zX zW (za (zj (pq 1) rfl) zb)) zd (zr _)))))  (zc (zl zd))  zn)  (zh (zD (zm (qK hr.units1) (zZ (pq 2)) zd (zr _))  (zc (zl (zt zJ zd (zZ (qb (pq 2))))))  zn)  (zh (zD (PW.pt (pw_and (zm (qK hr.units1) (zZ (pq 2)) zd (zr _)) (pw_and1 (zm QS (z9 zX zW (za (zj (pq 1) rfl) zb)) zd (zr _)))))  (zc (zl (zt zJ zd (zZ (qb (pq 2))))))  zn)  (zh (zD (PW.pt (pw_and (zm (qK hr.units1) (zZ (pq 2)) zd (zr _)) (pw_and1 (zm QS (z9 zX zW (za (zj (pq 1) rfl) zb)) zd (zr _)))))  (zc (zl (zt zJ zd (zZ (qb (pq 2))))))  zn)  (zh (zD (zm zav (z9 zX zW (za (zj (pq 1) rfl) zb)) zd (zr _))  (zc (zl (zt zJ zd (zZ (qb (pq 2))))))  zn)  (zc (zl (zt zJ zd (zZ (qb (pq 2))))))))))))),?_⟩;walk_at "a";refine uc (jh T).mono (uc (zfo T).mono (iE3 l ns 7 (iA3 rfl hl ?_)));refine iE2 _ _ (iA4 rfl (by decide) (by decide) ?_);have u0:=ju (QY ns 7) 1207959571;generalize wu (QY ns 7) 1207959571=nu at u0 ⊢;walk_at "a";refine Jr ?_ (λ _ z=>⟨gA,iE5 yw a.q dx fs _ (iA6 rfl hy T.gj T.gk e1 ⟨_,⟨.inl ⟨_,SqL.of h1,rfl⟩,zN (λ _=>kk _ (by decide) (by decide)) (λ _=>z)⟩⟩)⟩);walk_at "a";refine Jr ?_ (λ _ z=>⟨gA,iE5 yw a.q dx fs _ (iA6 rfl hy T.gj T.gk e1 ⟨_,⟨.inl ⟨_,SqL.of h1,rfl⟩,zN (λ _=>kk _ (by decide) (by decide)) (λ _=>z)⟩⟩)⟩);walk_at "a";refine zN (λ _=>(kk _ (by lia) (by lia))) (λ _=>?_);walk_at "a";refine Jr ?_ (λ _ z=>⟨gA,iE5 yw a.q dx fs _ (iA6 rfl hy T.gj T.gk e1 ⟨_,⟨.inl ⟨_,SqL.of h1,rfl⟩,zN (λ _=>(kk _ (by lia) (by lia))) (λ _=>z)⟩⟩)⟩);walk_at "a";refine Jr ?_ (λ _ z=>⟨gA,iE5 yw a.q dx fs _ (iA6 rfl hy T.gj T.gk e1 ⟨_,⟨.inl ⟨_,SqL.of h1,rfl⟩,zN (λ _=>(kk _ (by lia) (by lia))) (λ _=>z)⟩⟩)⟩);walk_at "a";refine ra hy T.gj T.gk e1 ⟨_,.inl ⟨_,SqL.of h1,rfl⟩,zN (λ _=>(kk _ (by lia) (by lia))) (λ _=>?_)⟩;walk_at "a";exact (kk _ (by lia) (by lia))
def ziz (a:Ad) (R:List (Int × Int)->List Row->Nat->Hp->V->Hp->Prop):Sp:=λ vs H Q _=>∃ (vw:V) (lim:Nat) (bs:A3) (rs:Av),vs=[vw,.int lim]/\Rep H (Off []) vw (qz a bs rs)/\zR bs rs/\(∀ b∈bs,zB b.1 b.2)/\(∀ r∈rs,r.ok)/\lim<=1000/\∀ v H',Same H H'->R bs rs lim H v H'->Q v H'
def zg1 (bs:A3) (rs:Av) (lim:Nat) (_:Hp) (v:V) (H':Hp):Prop:=(vY bs rs lim/\v=.non)\/∃ i j t,RoundAt bs rs lim i j/\v=.ref t/\H' t=some (.tup [.int i,.int ((j:Int) - i)])
def zdV (T:Txt K mg a):Cal P w K mg base "_law_round" 10 ["_law_work_here","_law_limit_here"] [] (ziz a zg1):=T.lY.cal λ F=>by
 refine F.okx zbu ?_ ?_
 ·walk_at "i"
 walk_at "j";refine oE4 h λ vw lim bs rs m7=>oA7 m7 λ m8 hv mP bo ro l1000 k=>?_;clear m7 h;subst m8;walk_at "T";refine ⟨_,(zg (zp 2 zbu.nd zG)  (zg (zg3 ⟨rfl,rfl,rfl⟩ rfl (λ pn G=>(zc (zD (zm (qK hr.units1) (pq 1) zd (zr _))  (zc (zp 2 zbu.nd (zx ⟨rfl,rfl,rfl⟩ hr (za (pq 0) zb))))  (zc (zp 2 zbu.nd (zx ⟨rfl,rfl,rfl⟩ hr (za (pq 0) (za (pq 1) zb)))))))) (λ pn a=>(zc (zp 2 zbu.nd zG))))  (zc (zl (pq 2))))),?_⟩;walk_at "a";unfold zgv;walk_at "a";refine ⟨a.g,iA3 T.kK T.l9 (λ pn=>zN (λ e=>?_) (λ _=>?_))⟩
 ·have e:lim=200:=by lia
  subst e;exact iE3 _ _ _ ⟨(zb9 T).mono,⟨vw,200,bs,rs,rfl,hv,mP,bo,ro,l1000,λ i j v H1 rnd s1 ⟨t,e,ht⟩=>k v H1 s1 (.inr (iE3 i j t (iA3 rnd e ht))),λ nr H1 s1=>⟨a.g,iA3 rfl T.gP (λ _ _=>k _ _ s1 (.inl ⟨nr,rfl⟩))⟩⟩⟩
 ·exact uc (zcc T).mono (iE4 vw lim bs rs (iA8 rfl hv mP bo ro l1000 (λ i j v H1 rnd s1 ⟨t,e,ht⟩=>k v H1 s1 (.inr (iE3 i j t (iA3 rnd e ht)))) (λ nr H1 s1=>⟨a.g,iA3 rfl T.gP (λ _ _=>k _ _ s1 (.inl ⟨nr,rfl⟩))⟩)))
section
variable {bs:A3} {rs:Av}
def zbb (bo:∀ b∈bs,zB b.1 b.2) (ro:∀ r∈rs,r.ok) (h:xW bs rs n):0 < n/\n<=4:=by
 rcases h with ⟨b,hb,rfl⟩|⟨r,hr,hw,rfl,hp⟩
 ·have h:=bo b hb;exact ⟨by have:=h.2.2.1;lia,h.2.2.2⟩
 ·exact ⟨hp,(zam (ro r hr) hw).2⟩
def zgk (bo:∀ b∈bs,zB b.1 b.2) (ro:∀ r∈rs,r.ok):∃ L,QP bs rs L:=by
 have hm:∀ n,n∈(bs.map (·.2) ++ (rs.filter λ r=>decide ((r.wd=.source\/r.wd=.drain)/\0 < r.pace)).map Row.pace) ↔ xW bs rs n:=λ n=>by
  simp only [aH,be,cn,di,xW];constructor
  ·rintro (⟨b,hb,e⟩|⟨r,⟨hr,hw,hp⟩,e⟩)
   ·exact .inl ⟨b,hb,e⟩
   ·exact .inr ⟨r,hr,hw,e,by rw [<- e];exact hp⟩
  ·rintro (⟨b,hb,e⟩|⟨r,hr,hw,e,hp⟩)
   ·exact .inl ⟨b,hb,e⟩
   ·exact .inr ⟨r,⟨hr,hw,by rw [e];exact hp⟩,e⟩
 obtain ⟨L,hL⟩:=IsLcm.ex (ns:=bs.map (·.2) ++ (rs.filter λ r=>decide ((r.wd=.source\/r.wd=.drain)/\0 < r.pace)).map Row.pace) λ n hn=>by
  have b4:=zbb bo ro ((hm n).mp hn)
  lia
 exact ⟨L,_,hL,hm⟩
def zgl (bo:∀ b∈bs,zB b.1 b.2) (ro:∀ r∈rs,r.ok) (h:xW bs rs n):n ∣ vJ bs rs:=by
 obtain ⟨L,hL⟩:=zgk bo ro;rw [<- zbc hL];obtain ⟨ns,il,im⟩:=hL;exact il.dv n ((im n).mpr h)
end
structure Alk (bs:A3) (rs:Av) (s s':PSt):Prop where
 ce:s.cells.map (zq rs)=s'.cells.map (zq rs)
 si:s.sides=s'.sides
 so:∀ (j:Nat) r,rs[j]?=some r->r.wd=.source->(s.gone.getD j []).headD 0 % (r.kinds.length:Int)=(s'.gone.getD j []).headD 0 % (r.kinds.length:Int)
 tu:∀ n,xW bs rs n->s.turn % n=s'.turn % n
noncomputable def gAt (gs:List A8) (i j:Nat):Int:=(gs.getD i []).getD j 0
section
variable {bs:A3} {rs:Av}
theorem Z1:∀ {xs ys:A8},xs.map some=ys.map some->xs=ys
 | [],[],_=>rfl
 | [],_ :: _,h=>by cases h
 | _ :: _,[],h=>by cases h
 | x :: xs,y :: ys,h=>by
  simp only [bR,List.cons.injEq,cD] at h;rw [h.1,Z1 h.2]
def zhM {s s':PSt} (bo:∀ b∈bs,zB b.1 b.2) (ro:∀ r∈rs,r.ok) (h:JH bs rs s=JH bs rs s'):Alk bs rs s s':=by
 unfold JH at h;obtain ⟨h1,h2,h3,h4⟩:some (s.turn % vJ bs rs)=some (s'.turn % vJ bs rs)/\s.cells.map (zq rs)=s'.cells.map (zq rs)/\s.sides.map some=s'.sides.map some/\(zS .source rs).map (λ j=>some (xa rs s j))=(zS .source rs).map (λ j=>some (xa rs s' j)):=by
  simpa only [Prod.mk.injEq] using h
 refine ⟨h2,Z1 h3,λ j r hr hs=>?_,λ n hn=>?_⟩
 ·have hm:=Xa hr hs;have:=List.map_inj_left.mp h4 _ hm;simp only [cD] at this;unfold xa at this;rw [aB,hr] at this;exact this
 ·have d:=zgl bo ro hn;have h1:=aT h1;rw [<- fH s.turn d,h1,fH s'.turn d]
def QZ {cs cs':Aw} (h:cs.map (zq rs)=cs'.map (zq rs)) (b:Nat):zq rs (cs.getD b [])=zq rs (cs'.getD b []):=by
 have:=bt (λ l=>l.getD b (zq rs [])) h;simpa only [ae,am,Option.getD_map] using this
def Jq (c:Ax):jJ rs (wT c)=(zq rs c).getLastD none:=by
 unfold wT zq;rw [bD,bD,List.getLast?_map];cases c.getLast? <;> rfl
def zcy (c:Ax):jJ rs (zgj c)=(zq rs c).headD none:=by cases c <;> rfl
def WB (c:Ax) (p:Nat):jJ rs (c.getD p none)=(zq rs c).getD p none:=by
 unfold zq;rw [ae,ae,am];cases c[p]? <;> rfl
def vU (x:zC):jJ rs x=none ↔ x=none:=by cases x <;> simp [jJ]
def vE (c:Ax) (i:Nat) (x:zC):zq rs (c.set i x)=(zq rs c).set i (jJ rs x):=by
 unfold zq;rw [dO]
 rfl
def VC {c c':Ax} (h:zq rs c=zq rs c'):c.length=c'.length:=by
 have:=bt List.length h;simpa [zq] using this
def zcg {cs cs':Aw} (h:cs.map (zq rs)=cs'.map (zq rs)) (i:Nat) {c c':Ax} (hc:zq rs c=zq rs c'):(cs.set i c).map (zq rs)=(cs'.set i c').map (zq rs):=by
 rw [dO,dO,h,hc]
def zaQ {cs cs':Aw} (h:cs.map (zq rs)=cs'.map (zq rs)) (r:Row):qp rs cs r=qp rs cs' r:=by
 unfold qp zP;refine fR λ b _=>?_;rw [Jq,Jq,QZ h]
def zcE {cs cs':Aw} (h:cs.map (zq rs)=cs'.map (zq rs)) (r:Row):qU cs r=qU cs' r:=by
 unfold qU zP;refine fR λ b _=>?_;rw [decide_eq_decide,<- vU (rs:=rs),<- vU (rs:=rs) (zgj (cs'.getD _ _)),zcy,zcy,QZ h]
def WH {r:Row} {hs:List Ab} {fs:Ak} {t t':Int} {side:Nat} (ok:r.ok) (h:(r.wd=.source\/r.wd=.drain)->0 < r.pace->t % r.pace=t' % r.pace):qh r hs fs t side=qh r hs fs t' side:=by
 obtain ⟨wd,ins,outs,pc,ks⟩:=r;cases wd
 ·have p1:1<=pc:=ok.2.2.1;have e:t % pc=t' % pc:=h (.inl rfl) (show 0 < pc by lia);unfold qh;simp only [e]
 ·have p0:0<=pc:=ok.2.2.1;unfold qh;by_cases z:pc=0
  ·simp [z]
  ·have e:t % pc=t' % pc:=h (.inr rfl) (show 0 < pc by lia);simp only [e]
 all_goals rfl
def zd9 {s s':PSt} {r:Row} {fb:Ab} (h:Alk bs rs s s') (hr:rs[k]?=some r) (hs:fb=none->r.wd=.source):jJ rs (zY s k fb).1=jJ rs (zY s' k fb).1/\(zY s k fb).2.cells.map (zq rs)=(zY s' k fb).2.cells.map (zq rs):=by
 cases fb with
 | none =>
  refine ⟨?_,h.ce⟩;show some (x8 _ _)=some (x8 _ _)
  rw [aB,hr];show some (x8 r.kinds _)=some (x8 r.kinds _)
  unfold x8;rw [h.so k r hr (hs rfl)]
 | some b =>
  have e:=QZ h.ce b.toNat;refine ⟨?_,zcg h.ce _ ?_⟩
  ·show jJ rs (wT (s.cells.getD b.toNat []))=jJ rs (wT (s'.cells.getD b.toNat []))
   rw [Jq,Jq,e]
  ·unfold xo zP;rw [vE,vE,e,VC e]
def zeA {s s':PSt} {x x':zC} {tb:Ab} (h:s.cells.map (zq rs)=s'.cells.map (zq rs)) (hx:jJ rs x=jJ rs x'):(vt s x tb).cells.map (zq rs)=(vt s' x' tb).cells.map (zq rs):=by
 cases tb with
 | none=>exact h
 | some b =>
  refine zcg h _ ?_;rw [vE,vE,hx];unfold zP;rw [QZ h]
def Xu {gs:List A8} {k p i j:Nat} (hk:k < gs.length) (hp:p < (gs.getD k []).length):gAt (gs.set k (ZH (gs.getD k []) p)) i j=gAt gs i j + if i=k/\j=p then 1 else 0:=by
 unfold gAt;by_cases e:k=i
 ·subst e;rw [ae (l:=gs.set _ _),a7 hk,aK];unfold ZH;by_cases z:p=j
  ·subst z;rw [ae (l:=List.set _ _ _),a7 hp,ar ⟨rfl,rfl⟩]
   rfl
  ·rw [jx z,ap (λ q=>z q.2.symm)]
   lia
 ·rw [jx e,ap (λ q=>e q.1.symm)]
  lia
def jV {gs:List A8}:(gs.getD j []).headD 0=gAt gs j 0:=by
 unfold gAt;cases gs.getD j [] <;> rfl
def zft {s s':PSt} (h:Alk bs rs s s') (w:stWf bs rs s) (w':stWf bs rs s') (ro:∀ r∈rs,r.ok) (k:Nat):Alk bs rs (qG rs s k).1 (qG rs s' k).1/\∀ i j,gAt (qG rs s k).1.gone i j - gAt s.gone i j=gAt (qG rs s' k).1.gone i j - gAt s'.gone i j:=by
 unfold qG;cases hr:rs[k]? with
 | none=>exact ⟨h,λ i j=>by show gAt s.gone i j - _=gAt s'.gone i j - _;rw [eB,eB]⟩
 | some r =>
  have ok:=ro r (ah hr);have hk:=(aa.mp hr).1;simp only;rw [<- zaQ h.ce,<- zcE h.ce,<- h.si,<- WH (t:=s.turn) (t':=s'.turn) ok λ hw hp=>h.tu _ (.inr ⟨r,ah hr,hw,rfl,hp⟩)];cases hc:qh r (qp rs s.cells r) (qU s.cells r) s.turn (s.sides.getD k 0).toNat with
  | none=>exact ⟨h,λ i j=>by show gAt s.gone i j - _=gAt s'.gone i j - _;rw [eB,eB]⟩
  | some ch =>
   have hsd:=qo (xs:=s.sides) (k:=k) (d:=0) (by rw [w.so.1];exact hk);have sd:=w.so.2 k r _ hr hsd;have sd:wx r (((s.sides.getD k 0).toNat:Nat):Int):=by rw [cg sd.1];exact sd
   obtain ⟨c1,c2,c3,c4,c5,c6⟩:=wp ok (by simp [qp]) (by simp [qU]) sd hc;have fs:qE r ch=none->r.wd=.source:=λ z=>by
    cases e:ch.1 with
    | none=>exact c4 e
    | some j =>
     unfold qE at z;rw [e] at z;have:r.ins[j]?=none:=z;rw [ac (c1 j e)] at this;cases this
   obtain ⟨t1,t2⟩:=zd9 h hr fs;obtain ⟨k1,k2,k3⟩:=movedF_keep (r:=r) (st:=s) (k:=k) (ch:=ch);obtain ⟨k1',k2',k3'⟩:=movedF_keep (r:=r) (st:=s') (k:=k) (ch:=ch);have hg0:=qo (xs:=s.gone) (k:=k) (d:=[]) (by rw [w.go.1];exact hk);have hg0':=qo (xs:=s'.gone) (k:=k) (d:=[]) (by rw [w'.go.1];exact hk);have q:=(w.go.2 k r _ hr hg0).1;have q':=(w'.go.2 k r _ hr hg0').1;have G:∀ i j,gAt (vF r s k ch).1.gone i j=gAt s.gone i j + if i=k/\j=jP r ch then 1 else 0:=λ i j=>by
    show gAt ((movedF r s k ch).gone.set k (ZH ((movedF r s k ch).gone.getD k []) (jP r ch))) i j=_
    rw [k3];exact Xu (by rw [w.go.1];exact hk) (by rw [q];exact c6)
   have G':∀ i j,gAt (vF r s' k ch).1.gone i j=gAt s'.gone i j + if i=k/\j=jP r ch then 1 else 0:=λ i j=>by
    show gAt ((movedF r s' k ch).gone.set k (ZH ((movedF r s' k ch).gone.getD k []) (jP r ch))) i j=_
    rw [k3'];exact Xu (by rw [w'.go.1];exact hk) (by rw [q'];exact c6)
   refine ⟨⟨zeA t2 t1,?_,λ j r2 h2 hs=>?_,λ n hn=>?_⟩,λ i j=>by rw [G,G'];lia⟩
   ·show (movedF r s k ch).sides.set k _=(movedF r s' k ch).sides.set k _
    rw [k2,k2',h.si]
   ·have e:=h.so j r2 h2 hs;rw [jV,jV] at e ⊢;rw [G,G',eC,e,<- eC]
   ·show (movedF r s k ch).turn % n=(movedF r s' k ch).turn % n
    rw [k1,k1'];exact h.tu n hn
theorem zc0 {s s':PSt} (h:Alk bs rs s s') (w:stWf bs rs s) (w':stWf bs rs s') (mP:zR bs rs) (bo:∀ b∈bs,zB b.1 b.2) (ro:∀ r∈rs,r.ok):∀ m,Alk bs rs (zF rs s m).1 (zF rs s' m).1/\∀ i j,gAt (zF rs s m).1.gone i j - gAt s.gone i j=gAt (zF rs s' m).1.gone i j - gAt s'.gone i j
 | 0=>⟨h,λ i j=>by show gAt s.gone i j - _=gAt s'.gone i j - _;lia⟩
 | m + 1=>by
  obtain ⟨a1,a2⟩:=zc0 h w w' mP bo ro m;obtain ⟨b1,b2⟩:=zft a1 (jn w mP bo ro m) (jn w' mP bo ro m) ro m;refine ⟨b1,λ i j=>?_⟩;have x:=a2 i j;have y:=b2 i j;show gAt (qG rs (zF rs s m).1 m).1.gone i j - _=gAt (qG rs (zF rs s' m).1 m).1.gone i j - _
  lia
def zdy {c c':Ax} (h:zq rs c=zq rs c') (p:Nat):zq rs (qR c p)=zq rs (qR c' p):=by
 unfold qR;have e:c.getD (p + 1) none=none ↔ c'.getD (p + 1) none=none:=by rw [<- vU (rs:=rs),<- vU (rs:=rs) (c'.getD _ _),WB,WB,h]
 by_cases z:c.getD (p + 1) none=none
 ·rw [ar z,ar (e.mp z),vE,vE,vE,vE,WB,WB,h]
 ·rw [ap z,ap (λ q=>z (e.mpr q)),h]
theorem zct {c c':Ax} (h:zq rs c=zq rs c'):∀ m,zq rs (wO c m)=zq rs (wO c' m)
 | 0=>h
 | m + 1=>by
  show zq rs (qR (wO c m) (c.length - 2 - m))=zq rs (qR (wO c' m) (c'.length - 2 - m))
  rw [VC h];exact zdy (zct h m) _
theorem zba {cs cs':Aw} {t t':Int} (h:cs.map (zq rs)=cs'.map (zq rs)) (ht:∀ b∈bs,t % b.2=t' % b.2):∀ i,i<=bs.length->(qi bs t cs i).map (zq rs)=(qi bs t' cs' i).map (zq rs)
 | 0,_=>h
 | i + 1,hi=>by
  have ih:=zba h ht i (by lia);have e:t % (bs.getD i (0,1)).2=t' % (bs.getD i (0,1)).2:=ht _ (by rw [ae,ac (by lia)];exact getElem_mem _);unfold qi;rw [<- e];by_cases z:t % (bs.getD i (0,1)).2=0
  ·rw [ar z,ar z];refine zcg ih i ?_;unfold zcu;rw [VC (QZ ih i)];exact zct (QZ ih i) _
  ·rw [ap z,ap z];exact ih
def zcp {s s':PSt} (h:Alk bs rs s s') (w:stWf bs rs s) (w':stWf bs rs s') (mP:zR bs rs) (bo:∀ b∈bs,zB b.1 b.2) (ro:∀ r∈rs,r.ok):Alk bs rs (passF bs rs s).1 (passF bs rs s').1/\∀ i j,gAt (passF bs rs s).1.gone i j - gAt s.gone i j=gAt (passF bs rs s').1.gone i j - gAt s'.gone i j:=by
 obtain ⟨a1,a2⟩:=zc0 h w w' mP bo ro rs.length;refine ⟨⟨zba a1.ce (λ b hb=>a1.tu _ (.inl ⟨b,hb,rfl⟩)) bs.length (au _),a1.si,a1.so,λ n hn=>?_⟩,a2⟩;show ((zF rs s rs.length).1.turn + 1) % n=((zF rs s' rs.length).1.turn + 1) % n
 rw [eC,a1.tu n hn,<- eC]
theorem ZV {p q:Nat} (h:Alk bs rs (zi bs rs p) (zi bs rs q)) (mP:zR bs rs) (bo:∀ b∈bs,zB b.1 b.2) (ro:∀ r∈rs,r.ok):∀ m,Alk bs rs (zi bs rs (p + m)) (zi bs rs (q + m))/\∀ i j,gAt (zi bs rs (p + m)).gone i j - gAt (zi bs rs p).gone i j=gAt (zi bs rs (q + m)).gone i j - gAt (zi bs rs q).gone i j
 | 0=>⟨h,λ i j=>by show gAt (zi bs rs p).gone i j - _=gAt (zi bs rs q).gone i j - _;lia⟩
 | m + 1=>by
  obtain ⟨a1,a2⟩:=ZV h mP bo ro m;obtain ⟨b1,b2⟩:=zcp a1 (zH mP bo ro _) (zH mP bo ro _) mP bo ro;refine ⟨b1,λ i j=>?_⟩;have x:=a2 i j;have y:=b2 i j;show gAt (passF bs rs (zi bs rs (p + m))).1.gone i j - _=gAt (passF bs rs (zi bs rs (q + m))).1.gone i j - _
  lia
end
def xM (c:Ax):List (Int × Int):=c.reverse.filterMap id
def atC (cs:Aw) (b p:Nat):zC:=(cs.getD b []).getD p none
def qv {α:Type} {l:List α} {i j:Nat} {x d:α}:(l.set i x).getD j d=if i=j/\i < l.length then x else l.getD j d:=by
 rw [ae,ae];by_cases e:i=j
 ·subst e;by_cases h:i < l.length
  ·rw [a7 h,ar ⟨rfl,h⟩];rfl
  ·rw [ap (λ z=>h z.2),de (by lia)]
 ·rw [bK e,ap (λ z=>e z.1)]
def Xv (c:Ax):wT c=c.getD (c.length - 1) none:=by
 unfold wT;rw [bD,eZ,ae]
def Uq (cs:Aw):Prop:=∀ b p b' p' x,atC cs b p=some x->atC cs b' p'=some x->b=b'/\p=p'
def GvL (cs:Aw) (gs:List A8):Prop:=∀ b p x,atC cs b p=some x->x.2 < gAt gs x.1.toNat 0
def RowM (c c':Ax):Prop:=∃ φ:Nat->Nat,(∀ q y,c'.getD q none=some y->c.getD (φ q) none=some y)/\∀ q q' y y',c'.getD q none=some y->c'.getD q' none=some y'->φ q=φ q'->q=q'
section
variable {cs:Aw} {gs:List A8} {c c' d:Ax}
def RowM.refl:RowM c c:=⟨id,λ _ _ h=>h,λ _ _ _ _ _ _ h=>h⟩
def RowM.trans (h:RowM c c') (h':RowM c' d):RowM c d:=by
 obtain ⟨f,f1,f2⟩:=h;obtain ⟨g,g1,g2⟩:=h';exact ⟨λ q=>f (g q),λ q y e=>f1 _ _ (g1 q y e),λ q q' y y' e e' z=>g2 q q' y y' e e' (f2 _ _ y y' (g1 q y e) (g1 q' y' e') z)⟩
def RowM.take (p:Nat):RowM c (c.set p none):=⟨id,λ q y e=>by
 rw [qv] at e
 split at e
 ·cases e
 ·exact e,λ _ _ _ _ _ _ h=>h⟩
def RowM.mvS (p:Nat):RowM c (qR c p):=by
 unfold qR
 split
 ·have key:∀ q y,((c.set (p + 1) (c.getD p none)).set p none).getD q none=some y->q≠p/\c.getD (if q=p + 1 then p else q) none=some y:=λ q y e=>by
   rw [qv] at e
   split at e
   ·cases e
   ·rename_i h1;rw [qv] at e
    split at e
    ·rename_i h2;rw [ar h2.1.symm];exact ⟨by lia,e⟩
    ·rename_i h2;by_cases e1:q=p + 1
     ·refine absurd e ?_;rw [ae,aZ (by have:¬ p + 1 < c.length:=λ z=>h2 ⟨e1.symm,z⟩;lia)];exact λ z=>nomatch z
     ·rw [ap e1];refine ⟨λ e2=>h1 ⟨e2.symm,?_⟩,e⟩;rw [bS];refine dh λ z=>?_;rw [ae,aZ (by lia)] at e;cases e
  exact ⟨λ q=>if q=p + 1 then p else q,λ q y e=>(key q y e).2,λ q q' y y' e e' z=>by
   have n1:=(key q y e).1;have n2:=(key q' y' e').1;have z:(if q=p + 1 then p else q)=if q'=p + 1 then p else q':=z
   split at z <;> split at z <;> lia⟩
 ·exact .refl
theorem RowM.mvG:∀ k,RowM c (wO c k)
 | 0=>.refl
 | k + 1=>(RowM.mvG k).trans (.mvS _)
def wX {b b' p:Nat}:atC (cs.set b c) b' p=if b=b'/\b < cs.length then c.getD p none else atC cs b' p:=by
 unfold atC;rw [qv]
 split <;> rfl
def Uq.row (h:Uq cs) {b:Nat} (m:RowM (cs.getD b []) c'):Uq (cs.set b c'):=by
 obtain ⟨f,f1,f2⟩:=m;intro b1 p1 b2 p2 x e1 e2;rw [wX] at e1 e2
 split at e1 <;> split at e2
 ·rename_i h1 h2;obtain ⟨rfl,_⟩:=h1;obtain ⟨rfl,_⟩:=h2;exact ⟨rfl,f2 _ _ x x e1 e2 (h b _ b _ x (f1 _ _ e1) (f1 _ _ e2)).2⟩
 ·rename_i h1 h2;obtain ⟨rfl,l⟩:=h1;obtain ⟨e3,_⟩:=h b _ b2 p2 x (f1 _ _ e1) e2;exact absurd ⟨e3,l⟩ h2
 ·rename_i h1 h2;obtain ⟨rfl,l⟩:=h2;obtain ⟨e3,_⟩:=h b1 p1 b _ x e1 (f1 _ _ e2);exact absurd ⟨e3.symm,l⟩ h1
 ·exact h _ _ _ _ x e1 e2
def GvL.row (h:GvL cs gs) {b:Nat} (m:RowM (cs.getD b []) c'):GvL (cs.set b c') gs:=by
 obtain ⟨f,f1,_⟩:=m;intro b1 p1 x e1;rw [wX] at e1
 split at e1
 ·exact h b _ x (f1 _ _ e1)
 ·exact h _ _ x e1
def Uq.put (h:Uq cs) {x:Int × Int} (no:∀ b p,atC cs b p≠some x) (b:Nat):Uq (cs.set b ((cs.getD b []).set 0 (some x))):=by
 have key:∀ b1 p1 y,atC (cs.set b ((cs.getD b []).set 0 (some x))) b1 p1=some y->(y=x/\b1=b/\p1=0)\/atC cs b1 p1=some y:=λ b1 p1 y e=>by
  rw [wX] at e
  split at e
  ·rename_i h1;obtain ⟨rfl,_⟩:=h1;rw [qv] at e
   split at e
   ·rename_i h2;exact .inl ⟨(aT e).symm,rfl,h2.1.symm⟩
   ·exact .inr e
  ·exact .inr e
 intro b1 p1 b2 p2 y e1 e2;rcases key _ _ _ e1 with ⟨z1,z2,z3⟩|e1 <;> rcases key _ _ _ e2 with ⟨y1,y2,y3⟩|e2
 ·exact ⟨by lia,by lia⟩
 ·exact absurd (z1 ▸ e2) (no _ _)
 ·exact absurd (y1 ▸ e1) (no _ _)
 ·exact h _ _ _ _ y e1 e2
theorem zgD {bs:A3} {t:Int} (h:Uq cs) (g:GvL cs gs):∀ i,Uq (qi bs t cs i)/\GvL (qi bs t cs i) gs
 | 0=>⟨h,g⟩
 | i + 1=>by
  obtain ⟨h1,h2⟩:=zgD (bs:=bs) (t:=t) h g i;rw [qi]
  split
  ·exact ⟨h1.row (RowM.mvG _),h2.row (RowM.mvG _)⟩
  ·exact ⟨h1,h2⟩
end
section
variable {bs:A3} {rs:Av} {s:PSt}
def zhN (w:stWf bs rs s) (ro:∀ r∈rs,r.ok) (h:Uq s.cells) (g:GvL s.cells s.gone) (k:Nat):Uq (qG rs s k).1.cells/\GvL (qG rs s k).1.cells (qG rs s k).1.gone:=by
 have mono:=XG rs s k;unfold qG at mono ⊢;cases hr:rs[k]? with
 | none=>exact ⟨h,g⟩
 | some r =>
  rw [hr] at mono;have ok:=ro r (ah hr);have hk:=(aa.mp hr).1;simp only at mono ⊢;cases hc:qh r (qp rs s.cells r) (qU s.cells r) s.turn (s.sides.getD k 0).toNat with
  | none=>exact ⟨h,g⟩
  | some ch =>
   rw [hc] at mono;simp only at mono ⊢;have sd:=w.so.2 k r _ hr (qo (d:=0) (by rw [w.so.1];exact hk));have sd':wx r ((s.sides.getD k 0).toNat:Int):=by rw [cg sd.1];exact sd
   obtain ⟨c1,_,_,c4,_,c6⟩:=wp ok (by simp [qp]) (by simp [qU]) sd' hc;have hgk:k < s.gone.length:=by rw [w.go.1];exact hk
   have gl:=(w.go.2 k r _ hr (qo (xs:=s.gone) (d:=[]) hgk)).1;have gN:(vF r s k ch).1.gone=s.gone.set k (ZH (s.gone.getD k []) (jP r ch)):=by
    show (movedF r s k ch).gone.set k (ZH ((movedF r s k ch).gone.getD k []) (jP r ch))=_
    rw [movedF_keep.2.2]
   have tk:Uq (zY s k (qE r ch)).2.cells/\(∀ b p x,atC (zY s k (qE r ch)).2.cells b p=some x->atC s.cells b p=some x)/\∀ x,(zY s k (qE r ch)).1=some x->(∀ b p,atC (zY s k (qE r ch)).2.cells b p≠some x)/\x.2 < gAt (vF r s k ch).1.gone x.1.toNat 0:=by
    cases e:qE r ch with
    | none =>
     have hs:r.wd=.source:=by
      cases e1:ch.1 with
      | none=>exact c4 e1
      | some j =>
       unfold qE at e;rw [e1] at e;simp at e;have:=c1 j e1
       lia
     refine ⟨h,λ _ _ _ z=>z,λ x ex=>?_⟩;have ex:((k:Int),(s.gone.getD k []).headD 0)=x:=aT ex;subst ex;refine ⟨λ b p z=>?_,?_⟩
     ·have:=g b p _ z;rw [jV] at this;simp only [aB] at this
      lia
     ·rw [gN,jV];simp only [aB];have cp:jP r ch=0:=by
       have:(qF r).length=1:=by
        have l:=xz ok;unfold Row.ok at ok;rw [hs] at ok;unfold qF;rw [bd,ok.1];obtain ⟨o,ho⟩:=ok.2.1;rw [ho]
        rfl
       lia
      rw [cp,Xu hgk (by rw [gl];lia),ar ⟨rfl,rfl⟩]
      lia
    | some b =>
     have inn:∀ b1 p1 x,atC (s.cells.set b.toNat (xo (zP s.cells b))) b1 p1=some x->atC s.cells b1 p1=some x:=λ b1 p1 x z=>by
      rw [wX] at z
      split at z
      ·rename_i h1;obtain ⟨rfl,_⟩:=h1;unfold xo at z;rw [qv] at z
       split at z
       ·cases z
       ·exact z
      ·exact z
     refine ⟨h.row (RowM.take _),inn,λ x ex=>?_⟩;have ex:wT (zP s.cells b)=some x:=ex;rw [Xv] at ex;have at0:atC s.cells b.toNat ((zP s.cells b).length - 1)=some x:=ex;refine ⟨λ b1 p1 z=>?_,f9 (g _ _ x at0) (mono _ _)⟩;obtain ⟨e1,e2⟩:=h _ _ _ _ x (inn _ _ _ z) at0;subst e1 e2;have hb:b.toNat < s.cells.length:=dh λ y=>by
      unfold atC at at0;rw [ae (l:=s.cells),aZ (by lia)] at at0;simp at at0
     have hl:(zP s.cells b).length - 1 < (zP s.cells b).length:=dh λ y=>by
      have:(zP s.cells b).length=0:=by lia
      rw [ae,aZ (by lia)] at ex;cases ex
     have z:atC (s.cells.set b.toNat (xo (zP s.cells b))) b.toNat ((zP s.cells b).length - 1)=some x:=z;rw [wX,ar ⟨rfl,hb⟩] at z;unfold xo at z;rw [qv,ar ⟨rfl,hl⟩] at z;cases z
   obtain ⟨u1,u2,u3⟩:=tk;have up:∀ b p x,atC s.cells b p=some x->x.2 < gAt (vF r s k ch).1.gone x.1.toNat 0:=λ b p x z=>f9 (g b p x z) (mono _ _);show Uq (movedF r s k ch).cells/\GvL (movedF r s k ch).cells (vF r s k ch).1.gone
   unfold movedF;cases Zn r ch with
   | none=>exact ⟨u1,λ b p x z=>up b p x (u2 b p x z)⟩
   | some b =>
    cases ex:(zY s k (qE r ch)).1 with
    | none=>exact ⟨u1.row (RowM.take 0),λ b1 p1 x z=>by
      change atC ((zY s k (qE r ch)).2.cells.set b.toNat ((zP (zY s k (qE r ch)).2.cells b).set 0 none)) b1 p1=some x at z;rw [wX] at z
      split at z
      ·rw [qv] at z
       split at z
       ·cases z
       ·exact up _ _ x (u2 _ _ x z)
      ·exact up _ _ x (u2 _ _ x z)⟩
    | some x =>
     obtain ⟨no,lx⟩:=u3 x ex;refine ⟨u1.put no b.toNat,λ b1 p1 y z=>?_⟩;change atC ((zY s k (qE r ch)).2.cells.set b.toNat ((zP (zY s k (qE r ch)).2.cells b).set 0 (some x))) b1 p1=some y at z;rw [wX] at z
     split at z
     ·rw [qv] at z
      split at z
      ·cases z;exact lx
      ·exact up _ _ y (u2 _ _ y z)
     ·exact up _ _ y (u2 _ _ y z)
theorem zcY (w:stWf bs rs s) (mP:zR bs rs) (bo:∀ b∈bs,zB b.1 b.2) (ro:∀ r∈rs,r.ok) (h:Uq s.cells) (g:GvL s.cells s.gone):∀ m,Uq (zF rs s m).1.cells/\GvL (zF rs s m).1.cells (zF rs s m).1.gone
 | 0=>⟨h,g⟩
 | m + 1=>by
  obtain ⟨h1,g1⟩:=zcY w mP bo ro h g m;exact zhN (jn w mP bo ro m) ro h1 g1 m
theorem Jm (mP:zR bs rs) (bo:∀ b∈bs,zB b.1 b.2) (ro:∀ r∈rs,r.ok):∀ n,Uq (zi bs rs n).cells/\GvL (zi bs rs n).cells (zi bs rs n).gone
 | 0=>by
  have no:∀ b p,atC (zi bs rs 0).cells b p=none:=λ b p=>by
   show ((bs.map λ b=>List.replicate b.1.toNat (none:zC)).getD b []).getD p none=none
   rw [ae,ae,am];cases bs[b]? with
   | none=>rfl
   | some y =>
    show ((List.replicate y.1.toNat (none:zC))[p]?).getD none=none
    rw [dn]
    split <;> rfl
  exact ⟨λ b p _ _ x e=>absurd ((no b p).symm.trans e) (λ z=>nomatch z),λ b p x e=>absurd ((no b p).symm.trans e) (λ z=>nomatch z)⟩
 | n + 1=>by
  obtain ⟨h,g⟩:=Jm mP bo ro n;obtain ⟨h1,g1⟩:=zcY (zH mP bo ro n) mP bo ro h g rs.length;exact zgD h1 g1 _
end
def zfq {n:Nat} (h:n<=30000):n < sizeLine:=c9 h (by decide)
def kW (x:Int × Int):List Key:=[.inl x.1,.inl x.2]
def zhr {x y:Int × Int} (h:kW x=kW y):x=y:=by
 obtain ⟨a,b⟩:=x;obtain ⟨c,d⟩:=y;simp only [kW,List.cons.injEq,Sum.inl.injEq,and_true] at h;rw [h.1,h.2]
def queue_mem {c:Ax} {x:Int × Int}:x∈xM c ↔ some x∈c:=by
 unfold xM;rw [dZ];constructor
 ·rintro ⟨y,h1,h2⟩;have h2:y=some x:=h2;rw [<- h2];exact List.mem_reverse.mp h1
 ·exact λ h=>⟨some x,List.mem_reverse.mpr h,rfl⟩
def flat_mem {cs:Aw} {x:Int × Int}:x∈(cs.map xM).flatten ↔ ∃ c∈cs,some x∈c:=by
 rw [List.mem_flatten];constructor
 ·rintro ⟨l,h1,h2⟩;obtain ⟨c,h3,rfl⟩:=be.mp h1;exact ⟨c,h3,queue_mem.mp h2⟩
 ·rintro ⟨c,h1,h2⟩;exact ⟨xM c,be.mpr ⟨c,h1,rfl⟩,queue_mem.mpr h2⟩
def zdp (mK:Au) (k:List Key) (v:V):(vb mK k v).length<=mK.length + 1:=by
 unfold vb
 split <;> simp
structure LayD (H:Hp) (mK:Au) (seen:Int × Int->Prop) (full:Aw):Prop where
 n:∀ x,jX mK (kW x)=none->¬ seen x
 s:∀ x v,jX mK (kW x)=some v->∃ (t:Addr) (b p:Nat) (c:Ax),v=.ref t/\H t=some (.tup [.int b,.int p])/\full[b]?=some c/\c[p]?=some (some x)
section
variable {H H':Hp} {mK:Au} {seen seen':Int × Int->Prop} {full:Aw}
def LayD.same (h:LayD H mK seen full) (s:Same H H'):LayD H' mK seen full:=⟨h.n,λ x v e=>by
 obtain ⟨t,b,p,c,e1,e2,e3⟩:=h.s x v e;exact ⟨t,b,p,c,e1,s _ _ e2,e3⟩⟩
def LayD.less (h:LayD H mK seen full) (s:∀ x,seen' x->seen x):LayD H mK seen' full:=⟨λ x e z=>h.n x e (s x z),h.s⟩
def LayD.put (h:LayD H mK seen full) {D t:Addr} {b p:Nat} {c:Ax} {x:Int × Int} (hD:H D=some (.dT mK)) (ht:H t=some (.tup [.int b,.int p])) (hc:full[b]?=some c) (hx:c[p]?=some (some x)):LayD (upd H D (.dT (vb mK (kW x) (.ref t)))) (vb mK (kW x) (.ref t)) (λ y=>seen y\/y=x) full:=by
 have ne:∀ u xs,H u=some (.tup xs)->u≠D:=λ u xs hu z=>by rw [z,hD] at hu;cases hu
 refine ⟨λ y e z=>?_,λ y v e=>?_⟩
 ·rw [VU] at e
  split at e
  ·cases e
  ·rename_i hn;rcases z with z|z
   ·exact h.n y e z
   ·exact hn (by rw [z])
 ·rw [VU] at e
  split at e
  ·rename_i hn;cases e;rw [zhr hn];exact ⟨t,b,p,c,rfl,by rw [mX (ne t _ ht)];exact ht,hc,hx⟩
  ·obtain ⟨t',b',p',c',e1,e2,e3⟩:=h.s y v e;exact ⟨t',b',p',c',e1,by rw [mX (ne t' _ e2)];exact e2,e3⟩
end
def JJ (cs:Aw) (i j:Nat) (x:Int × Int):Prop:=x∈((cs.take i).map xM).flatten\/∃ c,cs[i]?=some c/\some x∈c.take j
def zdb {cs:Aw} {c:Ax} {x:Int × Int} (h:cs[i]?=some c) (z:x∈((cs.take (i + 1)).map xM).flatten):JJ cs i c.length x:=by
 rw [aN,h,bg,List.flatten_append] at z;rcases aH.mp z with z|z
 ·exact .inl z
 ·refine .inr ⟨c,h,?_⟩;rw [aR];have z:x∈(xM c ++ []):=z;rw [bY] at z;exact queue_mem.mp z
def zhX (a:Ad):Sp:=λ vs H Q _=>∃ (y:Addr) (n:SN) (st:PSt),vs=[.ref y]/\StO a H y n st/\st.cells.length<=24/\(∀ c∈st.cells,c.length<=6)/\∀ D mK H',Same H H'->H D=none->H' D=some (.dT mK)->LayD H' mK (λ x=>x∈(st.cells.map xM).flatten) st.cells->Q (.ref D) H'
theorem Ji (T:Txt K mg a):Cal P w K mg base "cells_by_ware" 1 ["state"] [] (zhX a):=T.iH.cal λ F=>by
 refine F.okx Qm ?_ ?_
 ·walk_at "i"
 walk_at "j";refine oE3 h λ y n st m7=>oA5 m7 λ m8 so l24 l6 k=>?_;clear m7 h;subst m8;have hc:=so.hc;have lc:n.acs.length=st.cells.length:=by rw [hc.len,zI,ai]
 walk_at "T";refine ⟨_,(zg (zp 1 Qm.nd zeC)  (qd (ql qC rfl (qB (za (zj (pq 0) rfl) zb)) (xA (n:=2) rfl (z8 (qg 2 Qm.nd) (z8 (qg 3 Qm.nd) jE)))  (zc (ql qC rfl (qB (za (pq 3) zb)) (xA (n:=2) rfl (z8 (qg 4 Qm.nd) (z8 (qg 5 Qm.nd) jE)))  (zc (zD (zm Vq (pq 5) zG (zr _))  (zc (zfT (zcB hr) (pq 1) (pq 5) (qO (za (pq 2) (za (pq 4) zb))) rfl))  zn)))))  (zc (zl (pq 1))))),?_⟩;walk_at "a";intro D hD;have s1:=zf (o:=.dT []) hD;have hD1:upd H D (.dT []) D=some (.dT []):=mW;generalize upd H D (.dT [])=H1 at s1 hD1 ⊢;have ld0:LayD H1 [] (JJ st.cells 0 0) st.cells:=⟨λ x _ z=>by
  rcases z with z|⟨c,_,z⟩
  ·simp at z
  ·simp at z,λ x v e=>by simp [jX] at e⟩
 have keep:∀ {H':Hp} {mK:Au} {o:HO},Same H H'->Same H (upd H' D o):=λ s b u hb=>by
  rw [mX (mY hb hD)];exact s b u hb
 refine cut (λ σ' H'=>∃ (v2 v3 v4 v5:As) (mK:Au),σ'=[some (.ref y),some (.ref D),v2,v3,v4,v5]/\Same H H'/\H' D=some (.dT mK)/\LayD H' mK (λ x=>x∈(st.cells.map xM).flatten) st.cells) ?_ ?_
 ·walk_at "d";walk_at "a";refine ra (s1 _ _ so.hy) T.ad T.gf rfl ?_;refine iE2 n.lc _ (iA3 rfl (s1 _ _ hc.out) ?_);refine QX (K:=K) (a:=n.lc) (xs:=n.acs.map V.ref) (λ i σ H'=>∃ (v2 v3 v4 v5:As) (mK:Au),σ=[some (.ref y),some (.ref D),v2,v3,v4,v5]/\Same H H'/\H' D=some (.dT mK)/\LayD H' mK (λ x=>x∈((st.cells.take i).map xM).flatten) st.cells/\mK.length<=6 * i) (iE5 _ _ _ _ ([]) (iA5 rfl s1 hD1 (ld0.less λ x z=>by simp at z) (au _))) (λ i σ H' _ h=>by obtain ⟨_,_,_,_,_,_,s,_⟩:=h;exact SqL.of (s _ _ hc.out)) ?_ ?_
  ·intro i x t σ H2 hi ht m9;refine oE5 m9 λ v2 v3 v4 v5 mK m7=>oA5 m7 λ m8 s2 hD2 ld2 lk2=>?_;clear m7 m9;subst m8;rw [am,ao] at hi;obtain ⟨cb,hcb,rfl⟩:=hi;have hil:i < st.cells.length:=by rw [<- lc];exact (aa.mp hcb).1
   obtain ⟨c,ec⟩:∃ c,st.cells[i]?=some c:=⟨_,ac hil⟩;obtain ⟨vs,hvs,rvs⟩:=hc.g i cb _ hcb (show (zI st.cells)[i]?=some (c.map qa) by rw [zI,am,ec];rfl);have lv:vs.length=c.length:=by rw [rvs.len,ai]
   have c6:=l6 c (ah ec);have st2:=zf (o:=.tup [.int i,.ref cb]) ht;refine un2 mW ?_;have s3:=s2.trans st2;have hD3:=st2 _ _ hD2;have ld3:=ld2.same st2;generalize upd H2 t (.tup [.int i,.ref cb])=H3 at s3 hD3 ld3 ⊢;clear ld2 hD2 s2 st2 ht;walk_at "d";walk_at "a";refine iE2 cb _ (iA3 rfl (s3 _ _ hvs) ?_);refine QX (K:=K) (a:=cb) (xs:=vs) (λ j σ H'=>∃ (v4 v5:As) (mK:Au),σ=[some (.ref y),some (.ref D),some (.int i),some (.ref cb),v4,v5]/\Same H H'/\H' D=some (.dT mK)/\LayD H' mK (JJ st.cells i j) st.cells/\mK.length<=6 * i + j) ⟨_,_,mK,rfl,s3,hD3,ld3.less λ x z=>by
    rcases z with z|⟨_,_,z⟩
    ·exact z
    ·simp at z,lk2⟩ (λ i σ H' _ h=>by obtain ⟨_,_,_,_,s,_⟩:=h;exact SqL.of (s _ _ hvs)) ?_ ?_
   ·clear ld3 hD3 s3 lk2;intro j v t σ H4 hj ht m9;refine oE3 m9 λ v4 v5 mK m7=>oA5 m7 λ m8 s4 hD4 ld4 lk4=>?_;clear m7 m9;subst m8;obtain ⟨d,hd,rv⟩:=rvs.at hj;rw [am,ao] at hd;obtain ⟨wr,hwr,rfl⟩:=hd;have hjl:j < c.length:=(aa.mp hwr).1;have sn:∀ x,JJ st.cells i (j + 1) x->JJ st.cells i j x\/wr=some x:=λ x z=>by
     rcases z with z|⟨c',e,z⟩
     ·exact .inl (.inl z)
     ·rw [ec] at e;cases e;rw [aN,hwr] at z;rcases aH.mp z with z|z
      ·exact .inl (.inr ⟨c,ec,z⟩)
      ·exact .inr (ay.mp z).symm
    have st4:=zf (o:=.tup [.int j,v]) ht;refine un2 mW ?_;have s5:=s4.trans st4;have hD5:=st4 _ _ hD4;have ld5:=ld4.same st4;generalize upd H4 t (.tup [.int j,v])=H5 at s5 hD5 ld5 ⊢;clear ld4 hD4 s4 st4 ht;cases wr with
    | none =>
     have rv:Rep H (z7 H) v .non:=rv;cases rv;walk_at "a";exact iE3 _ _ mK (iA5 rfl s5 hD5 (ld5.less λ x z=>(sn x z).elim id (λ z=>nomatch z)) (by lia))
    | some x =>
     obtain ⟨tx,rfl,htx⟩:=vy (b:=x) rv;walk_at "a";intro t6 ht6;have st6:=zf (o:=.tup [.int i,.int j]) ht6;have s6:=s5.trans st6;have hD6:=st6 _ _ hD5;have ld6:=ld5.same st6;have ht6':upd H5 t6 (.tup [.int i,.int j]) t6=some (.tup [.int i,.int j]):=mW;generalize upd H5 t6 (.tup [.int i,.int j])=H6 at s6 hD6 ld6 ht6' ⊢;refine iE2 D _ (iA3 rfl (DPut.t (k:=kW x) hD6 (s6 _ _ htx) (zfq (by lia))) ?_);have pl:=zdp mK (kW x) (.ref t6);refine iE3 _ _ _ (iA5 rfl (keep (mK:=mK) s6) mW ((ld6.put hD6 ht6' ec hwr).less λ z hz=>(sn z hz).imp id (λ e=>by cases e;rfl)) (by lia))
   ·intro σ H4 m9;refine oE3 m9 λ v4 v5 mK m7=>oA5 m7 λ m8 s4 hD4 ld4 lk4=>?_;clear m7 m9;subst m8;rw [lv] at ld4 lk4;exact iE5 _ _ _ _ mK (iA5 rfl s4 hD4 (ld4.less λ x z=>zdb ec z) (by lia))
  ·intro σ H2 m9;refine oE5 m9 λ v2 v3 v4 v5 mK m7=>oA5 m7 λ m8 s2 hD2 ld2 lk2=>?_;clear m7 m9;subst m8;rw [ai,lc,aR] at ld2;exact iE5 _ _ _ _ mK (iA4 rfl s2 hD2 ld2)
 intro σ' H2 m9;refine oE5 m9 λ v2 v3 v4 v5 mK m7=>oA4 m7 λ m8 s2 hD2 ld2=>?_;clear m7 m9;subst m8;walk_at "a";exact k D mK _ s2 hD hD2 ld2
inductive Org|no|kept (b p:Nat)|new (k:Nat) (m:Int)
def Vs:Org->D
 | .no=>.non
 | .kept b p=>.tup [.str "kept",.int b,.int p]
 | .new k m=>.tup [.str "new",.int k,.int m]
def Zm (s0:PSt):zC->Org->Prop
 | none,.no=>True
 | some x,.kept b p=>∃ c,s0.cells[b]?=some c/\c[p]?=some (some x)
 | some x,.new k m=>x.1=k/\x ∉ (s0.cells.map xM).flatten/\m=x.2 - (s0.gone.getD k []).headD 0/\∃ g0 gs,s0.gone[k]?=some (g0 :: gs)
 | _,_=>False
def zcT (s0:PSt) (wr:zC):Prop:=∀ x,wr=some x->∃ (k:Nat) (g0:Int) (gs:A8),x.1=k/\s0.gone[k]?=some (g0 :: gs)
def zeh (a:Ad):Sp:=λ vs H Q _=>∃ (vw:V) (D y:Addr) (n:SN) (s0:PSt) (wr:zC) (mK:Au) (p:A7),vs=[vw,.ref D,.ref y]/\Rep H p vw (qa wr)/\H D=some (.dT mK)/\LayD H mK (λ x=>x∈(s0.cells.map xM).flatten) s0.cells/\StO a H y n s0/\zcT s0 wr/\∀ v H' o,Same H H'->Rep H' (New H) v (Vs o)->Zm s0 wr o->Q v H'
theorem za2 (T:Txt K mg a):Cal P w K mg base "origin_of" 1 ["ware","lay","before"] [] (zeh a):=T.k8.cal λ F=>by
 refine F.okx Vd ?_ ?_
 ·walk_at "i"
 walk_at "j";refine oE8 h λ vw D y n s0 wr mK p m7=>oA7 m7 λ m8 rv hD ld so ca k=>?_;clear m7 h;subst m8;walk_at "T";refine ⟨_,(zg (zD (zm je (pq 0) zG (zr _))  (zc (zl zG))  zn)  (zg (zD (zez (zha (zcB hr) (pq 0) (pq 1)) (by with_unfolding_all rfl))  (zc (zl (qO (za jF (za (zo (zco (zcB hr) (pq 1) (pq 0) (λ _ _=>rfl)) zd) (za (zo (zco (zcB hr) (pq 1) (pq 0) (λ _ _=>rfl)) zd) zb))))))  zn)  (zc (zl (qO (za jF (za (zo (pq 0) zd) (za (zt xC (zo (pq 0) zd) (zo (zo (zj (pq 2) rfl) (zo (pq 0) zd)) zd)) zb)))))))),?_⟩;walk_at "a";cases wr with
 | none =>
  have rv:Rep H p vw .non:=rv;cases rv;walk_at "a";exact k _ _ .no (Same.refl _) .non trivial
 | some x =>
  obtain ⟨tx,rfl,htx⟩:=vy (b:=x) rv;walk_at "a";refine iE2 D _ (iA3 rfl (DGet.t (k:=kW x) hD htx) ?_);cases ev:jX mK (kW x) with
  | some v =>
   refine oE4 (ld.s x v ev) λ t b q c m7=>oA4 m7 λ m8 ht e1 e2=>?_;clear m7;subst m8;walk_at "a";refine iE2 D (.ref t) (iA3 rfl (by rw [<- ev];exact DGet.t (k:=kW x) hD htx) (n6 ht at0 ?_));refine iE2 D (.ref t) (iA3 rfl (by rw [<- ev];exact DGet.t (k:=kW x) hD htx) (n6 ht (show atI _ 1=some (.int q) from rfl) ?_));intro t2 ht2;exact k _ _ (.kept b q) (zf ht2) (Reps.mkT (vs:=[.str "kept",.int b,.int q]) (.cons .str (.cons .int (.cons .int .nil))) ht2 mW) ⟨c,e1,e2⟩
  | none =>
   refine oE3 (ca x rfl) λ kk g0 gs m7=>oA2 m7 λ ek eg=>?_;clear m7;obtain ⟨bG,hbG,hgG⟩:=xE so.hg eg;have hmap:(n.ags.map V.ref)[kk]?=some (.ref bG):=by rw [am,hbG];rfl
   walk_at "a";refine n6 htx at0 (n6 htx (show atI _ 1=some (.int x.2) from rfl) ?_);refine ra so.hy T.ad T.gg rfl ?_;refine n6 htx at0 ?_;rw [ek];refine zu (SqL.of so.hg.out) (zE hmap) (zu (SqL.of hgG) at0 ?_);walk_at "a";intro t2 ht2;refine k _ _ (.new kk (x.2 - g0)) (zf ht2) (Reps.mkT (vs:=[.str "new",.int kk,.int (x.2 - g0)]) (.cons .str (.cons .int (.cons .int .nil))) ht2 mW) (iA4 ek (ld.n x ev) ?_ (iE2 g0 gs eg));rw [ae,eg]
   rfl
def QO (s0 s1:PSt) (oss:List (List Org)):Prop:=oss.length=s1.cells.length/\∀ (i:Nat) os c,oss[i]?=some os->s1.cells[i]?=some c->os.length=c.length/\∀ (j:Nat) o wr,os[j]?=some o->c[j]?=some wr->Zm s0 wr o
def Wo (oss:List (List Org)):D:=.lst (oss.map λ os=>.lst (os.map Vs))
inductive spOrigins (a:Ad) (vs:Ar) (H:Hp) (Q:VK) (E:XK):Prop
 | i (y0 y1:Addr) (n0 n1:SN) (s0 s1:PSt):vs=[.ref y0,.ref y1]->StO a H y0 n0 s0->StO a H y1 n1 s1->s0.cells.length<=24->(∀ c∈s0.cells,c.length<=6)->s1.cells.length<=24->(∀ c∈s1.cells,c.length<=6/\∀ wr∈c,zcT s0 wr)->(∀ l H' oss,Same H H'->Rep H' (New H) (.ref l) (Wo oss)->QO s0 s1 oss->Q (.ref l) H')->spOrigins a vs H Q E
def wV (T:Txt K mg a):Cal P w K mg base "origins_of" 2 ["before","after"] [] (spOrigins a):=T.kH.cal λ F=>by
 refine F.okx XR ?_ ?_
 ·walk_at "i"
 walk_at "j";rcases h with ⟨y0,y1,n0,n1,s0,s1,rfl,so0,so1,l24,l6,m24,m6,k⟩;walk_at "T";refine ⟨_,(zg (JW (i:=2) XR.nd rfl (Or.inr rfl) (zx ⟨rfl,rfl,rfl⟩ hr (za (pq 0) zb)))  (zg (zp 3 XR.nd (zL zb))  (qd (ql qC rfl (qm (zj (pq 1) rfl)) (qg 4 XR.nd)  (zc (zw (qy aq ax aw zK (pq 3) (za (jG (vars:=["ware"]) (caps:=[2,0]) (N:=["ware","lay","before"]) (ON:=["before","after","lay","origins","cells"]) (osc:=ze xh) rfl rfl (by first|decide +kernel|kernel_rfl) rfl rfl (qm (pq 4)) (λ _ _ _ _=>(qg 0 (show (["ware","lay","before"]:Aa).Nodup from by decide +kernel))) (λ _ _ _ _=>qe) (λ _ _ _ _=>(vv hr (za (pq 0) (za (pq 1) (za (pq 2) zb)))))) zb)))))  (zc (zl (pq 3)))))),?_⟩;walk_at "a";refine uc (Ji T).mono (iE3 y0 n0 s0 (iA5 rfl so0 l24 l6 (λ D mK H1 s1' nD hD ld=>?_)));walk_at "a";intro l hl;have sl:=zf (o:=.lst []) hl;have s2:=s1'.trans sl;have nl0:=zA s1' hl;have hD2:=sl _ _ hD;have ld2:=ld.same sl;have hl2:upd H1 l (.lst []) l=some (.lst []):=mW;generalize upd H1 l (.lst [])=H2 at s2 hD2 ld2 hl2 ⊢;have hc:=so1.hc;have lc:n1.acs.length=s1.cells.length:=by rw [hc.len,zI,ai]
 clear ld hD s1' sl;walk_at "a";refine cut (λ σ' H'=>∃ (v4:As) (us:Ar) (oss:List (List Org)),σ'=[some (.ref y0),some (.ref y1),some (.ref D),some (.ref l),v4]/\Same H H'/\H' l=some (.lst us)/\Reps H' (λ b=>H b=none/\b≠l) us (oss.map λ os=>.lst (os.map Vs))/\QO s0 s1 oss) ?_ ?_
 ·walk_at "d";walk_at "a";refine ra (s2 _ _ so1.hy) T.ad T.gf rfl ?_;refine ⟨n1.lc,rfl,.inl ⟨⟨_,SqL.of (s2 _ _ hc.out)⟩,?_⟩⟩;refine qM (K:=K) (a:=n1.lc) (xs:=n1.acs.map V.ref) (λ i σ H'=>∃ (v4:As) (us:Ar) (oss:List (List Org)),σ=[some (.ref y0),some (.ref y1),some (.ref D),some (.ref l),v4]/\Same H H'/\H' D=some (.dT mK)/\LayD H' mK (λ x=>x∈(s0.cells.map xM).flatten) s0.cells/\H' l=some (.lst us)/\Reps H' (λ b=>H b=none/\b≠l) us (oss.map λ os=>.lst (os.map Vs))/\oss.length=i/\∀ (i':Nat) os c,oss[i']?=some os->s1.cells[i']?=some c->os.length=c.length/\∀ (j:Nat) o wr,os[j]?=some o->c[j]?=some wr->Zm s0 wr o)
   ⟨_,[],[],rfl,s2,hD2,ld2,hl2,.nil,rfl,λ i' os c e=>by simp at e⟩ (λ i σ H' _ h=>by obtain ⟨_,_,_,_,s,_⟩:=h;exact SqL.of (s _ _ hc.out)) ?_ ?_
  ·intro i x σ H3 hi m9;refine oE3 m9 λ v4 us oss m7=>oA8 m7 λ m8 s3 hD3 ld3 hl3 r3 lo ok3=>?_;clear m7 m9;subst m8;rw [am,ao] at hi;obtain ⟨cb,hcb,rfl⟩:=hi;have hil:i < s1.cells.length:=by rw [<- lc];exact (aa.mp hcb).1
   obtain ⟨c,ec⟩:∃ c,s1.cells[i]?=some c:=⟨_,ac hil⟩;obtain ⟨vs,hvs,rvs⟩:=hc.g i cb _ hcb (show (zI s1.cells)[i]?=some (c.map qa) by rw [zI,am,ec];rfl);have lv:vs.length=c.length:=by rw [rvs.len,ai]
   obtain ⟨c6,cw⟩:=m6 c (ah ec);have lu:us.length=i:=by rw [r3.len,ai,lo]
   walk_at "a";refine ⟨.inl ⟨rfl,_,SqL.of hl3⟩,?_⟩;walk_at "e";walk_at "a";refine ⟨cb,rfl,.inl ⟨⟨_,SqL.of (s3 _ _ hvs)⟩,λ _ _ _ _ mQ hacc=>?_⟩⟩;refine qM (K:=K) (a:=cb) (xs:=vs) (λ j σ H'=>∃ (v0:As) (ws:Ar) (os:List Org),σ=[v0,some (.ref D),some (.ref y0)]/\Same H3 H'/\H' mQ=some (.lst ws)/\Reps H' (λ b=>H3 b=none/\b≠mQ) ws (os.map Vs)/\os.length=j/\∀ (j':Nat) o wr,os[j']?=some o->c[j']?=some wr->Zm s0 wr o) (iE3 _ ([]) ([]) (iA6 rfl (zf hacc) mW (.nil) rfl (λ j' o wr e=>by simp at e))) (λ i σ H' _ h=>by obtain ⟨_,_,_,_,s,_⟩:=h;exact SqL.of (s _ _ (s3 _ _ hvs))) ?_ ?_
   ·intro j v σ H4 hj m9;refine oE3 m9 λ v0 ws os m7=>oA6 m7 λ m8 s4 ha4 r4 lo4 ok4=>?_;clear m7 m9;subst m8;obtain ⟨d,hd,rv⟩:=rvs.at hj;rw [am,ao] at hd;obtain ⟨wr,hwr,rfl⟩:=hd;have hjl:j < c.length:=(aa.mp hwr).1;have s04:=s3.trans s4;have lw:ws.length=j:=by rw [r4.len,ai,lo4]
    walk_at "a";refine uc (za2 T).mono (iE8 v D y0 n0 s0 wr mK _ (iA7 rfl (rv.keep (λ b o hb ho=>⟨hb,s04 _ _ ho⟩)) (s4 _ _ hD3) (ld3.same s4) (so0.same s04) (cw wr (ah hwr)) (λ v' H5 o s5 r5 ok5=>?_)));have f6:Fr [mQ] H5 (upd H5 mQ (.lst (ws ++ [v']))):=qA (by simp);refine ⟨_,iA3 (s5 _ _ ha4) (zk (by lia)) (iE3 _ (ws ++ [v']) (os ++ [o]) (iA6 rfl (((s4.trans s5).fr.trans f6).same (by intro m hm;rw [ay.mp hm];exact hacc)) mW ?_ (by simp [lo4]) (λ j' o' wr' e1 e2=>?_)))⟩
    ·rw [bg];refine (r4.keep λ b u hb ho=>⟨hb,f6 _ _ (λ z=>hb.2 (ay.mp z)) (s5 _ _ ho)⟩).append (.one (r5.keep λ b u hb ho=>?_));have hb:H4 b=none:=hb;have nb:b≠mQ:=λ z=>by rw [z,ha4] at hb;cases hb
     exact ⟨⟨zA s4 hb,nb⟩,f6 _ _ (λ z=>nb (ay.mp z)) ho⟩
    ·by_cases hj':j' < os.length
     ·rw [aO hj'] at e1;exact ok4 j' o' wr' e1 e2
     ·rw [aI (by lia)] at e1;have hz:=(aa.mp e1).1;have:j'=j:=by simp at hz;lia
      subst this;rw [lo4,fv] at e1;cases e1;rw [hwr] at e2;cases e2;exact ok5
   ·intro σ H4 m9;refine oE3 m9 λ v0 ws os m7=>oA6 m7 λ m8 s4 ha4 r4 lo4 ok4=>?_;clear m7 m9;subst m8;rw [lv] at lo4;have s04:=s3.trans s4;have f6:Fr [l] H4 (upd H4 l (.lst (us ++ [.ref mQ]))):=qA (by simp);have nacl:mQ≠l:=λ z=>by rw [z,hl3] at hacc;cases hacc
    have nac0:H mQ=none:=zA s3 hacc;refine iE3 l _ _ (iA5 rfl rfl (s4 _ _ hl3) (zk (by lia)) ?_);have nDl:D≠l:=λ z=>by rw [z,hl3] at hD3;cases hD3
    have ld6:LayD (upd H4 l (.lst (us ++ [.ref mQ]))) mK (λ x=>x∈(s0.cells.map xM).flatten) s0.cells:=⟨ld3.n,λ x v e=>by
     refine oE4 (ld3.s x v e) λ t b p c m7=>oA3 m7 λ e1 e2 e3=>?_;clear m7;have nt:t≠l:=λ z=>by rw [z,hl3] at e2;cases e2
     exact (iE4 t b p c (iA3 e1 (by rw [mX nt];exact s4 _ _ e2) e3))⟩
    refine iE3 _ (us ++ [.ref mQ]) (oss ++ [os]) (iA8 rfl ((s04.fr.trans f6).same (by intro m hm;rw [ay.mp hm];exact nl0)) (by rw [mX nDl];exact s4 _ _ hD3) ld6 mW ?_ (by simp [lo]) (λ i' os' c' e1 e2=>?_))
    ·rw [bg];refine (r3.keep λ b u hb ho=>⟨hb,f6 _ _ (λ z=>hb.2 (ay.mp z)) (s4 _ _ ho)⟩).append (.one ?_);have r6:Reps (upd H4 l (.lst (us ++ [.ref mQ]))) (λ b=>H b=none/\b≠l) ws (os.map Vs):=r4.keep λ b u hb ho=>by
      have nb:b≠l:=λ z=>by rw [z,hl3] at hb;cases hb.1
      exact ⟨⟨zA s3 hb.1,nb⟩,f6 _ _ (λ z=>nb (ay.mp z)) ho⟩
     exact r6.mk' ⟨nac0,nacl⟩ (by rw [mX nacl];exact ha4)
    ·by_cases hi':i' < oss.length
     ·rw [aO hi'] at e1;exact ok3 i' os' c' e1 e2
     ·rw [aI (by lia)] at e1;have hz:=(aa.mp e1).1;have:i'=i:=by simp at hz;lia
      subst this;rw [lo,fv] at e1;cases e1;rw [ec] at e2;cases e2;exact ⟨lo4,ok4⟩
  ·intro σ H3 m9;refine oE3 m9 λ v4 us oss m7=>oA8 m7 λ m8 s3 hD3 ld3 hl3 r3 lo ok3=>?_;clear m7 m9;subst m8;rw [ai,lc] at lo;exact iE3 _ us oss (iA6 rfl s3 hl3 r3 lo ok3)
 intro σ' H3 m9;refine oE3 m9 λ v4 us oss m7=>oA5 m7 λ m8 s3 hl3 r3 ok3=>?_;clear m7 m9;subst m8;walk_at "a";exact k l _ oss s3 (Reps.mk' (r3.keep λ b u hb ho=>⟨hb.1,ho⟩) nl0 hl3) ok3
def OR (ρ:Aj):zC->zC->Prop
 | none,none=>True
 | some x,some y=>ρ x y
 | _,_=>False
def OR.none_iff {ρ:Aj} {x y:zC} (h:OR ρ x y):x=none ↔ y=none:=by
 cases x <;> cases y <;> simp [OR] at h ⊢
def RowR (ρ:Aj) (c c':Ax):Prop:=c.length=c'.length/\∀ p,OR ρ (c.getD p none) (c'.getD p none)
def RelC (ρ:Aj) (cs cs':Aw):Prop:=cs.length=cs'.length/\∀ b,RowR ρ (cs.getD b []) (cs'.getD b [])
section
variable {ρ:Aj} {c c':Ax} {cs cs':Aw}
def RowR.set (h:RowR ρ c c') (p:Nat) {x x':zC} (hx:OR ρ x x'):RowR ρ (c.set p x) (c'.set p x'):=by
 refine ⟨by rw [bS,bS];exact h.1,λ q=>?_⟩;rw [qv,qv,h.1]
 split
 ·exact hx
 ·exact h.2 q
def RowR.fin (h:RowR ρ c c'):OR ρ (wT c) (wT c'):=by
 rw [Xv,Xv,h.1];exact h.2 _
def RelC.set (h:RelC ρ cs cs') (b:Nat) (hc:RowR ρ c c'):RelC ρ (cs.set b c) (cs'.set b c'):=by
 refine ⟨by rw [bS,bS];exact h.1,λ q=>?_⟩;rw [qv,qv,h.1]
 split
 ·exact hc
 ·exact h.2 q
def RelC.cell (h:RelC ρ cs cs') (b:Int):RowR ρ (zP cs b) (zP cs' b):=h.2 _
def RowR.mvS (h:RowR ρ c c') (p:Nat):RowR ρ (qR c p) (qR c' p):=by
 unfold qR;by_cases e:c.getD (p + 1) none=none
 ·rw [ar e,ar ((h.2 (p + 1)).none_iff.mp e)];exact (h.set (p + 1) (h.2 p)).set p trivial
 ·rw [ap e,ap (λ z=>e ((h.2 (p + 1)).none_iff.mpr z))];exact h
theorem RowR.mvG (h:RowR ρ c c'):∀ k,RowR ρ (wO c k) (wO c' k)
 | 0=>h
 | k + 1=>by rw [wO,wO,h.1];exact (RowR.mvG h k).mvS _
theorem RelC.on {bs:A3} {t t':Int} (h:RelC ρ cs cs') (ht:∀ b∈bs,t % b.2=t' % b.2):∀ i,RelC ρ (qi bs t cs i) (qi bs t' cs' i)
 | 0=>h
 | i + 1=>by
  have e:t % (bs.getD i (0,1)).2=t' % (bs.getD i (0,1)).2:=by
   rw [ae];cases z:bs[i]? with
   | none=>show t % 1=t' % 1;lia
   | some b=>exact ht b (ah z)
  have ih:=RelC.on h ht i;rw [qi,qi,e]
  split
  ·refine ih.set i ?_;unfold zcu;rw [(ih.2 i).1];exact (ih.2 i).mvG _
  ·exact ih
end
structure Sim (bs:A3) (rs:Av) (ρ:Aj) (s s':PSt):Prop where
 al:Alk bs rs s s'
 ce:RelC ρ s.cells s'.cells
 nw:∀ (k:Nat) r (d:Nat),rs[k]?=some r->r.wd=.source->ρ ((k:Int),gAt s.gone k 0 + d) ((k:Int),gAt s'.gone k 0 + d)
section
variable {bs:A3} {rs:Av} {ρ:Aj} {s s':PSt}
def zgp (h:Sim bs rs ρ s s') (w:stWf bs rs s) (w':stWf bs rs s') (ro:∀ r∈rs,r.ok) (k:Nat):Sim bs rs ρ (qG rs s k).1 (qG rs s' k).1:=by
 obtain ⟨a1,a2⟩:=zft h.al w w' ro k;refine ⟨a1,?_,λ j r d hr hs=>?_⟩
 ·unfold qG;cases hr:rs[k]? with
  | none=>exact h.ce
  | some r =>
   have ok:=ro r (ah hr);have hk:=(aa.mp hr).1;simp only;rw [<- zaQ h.al.ce,<- zcE h.al.ce,<- h.al.si,<- WH (t:=s.turn) ok (λ z p=>h.al.tu _ (.inr ⟨r,ah hr,z,rfl,p⟩))];cases hc:qh r (qp rs s.cells r) (qU s.cells r) s.turn (s.sides.getD k 0).toNat with
   | none=>exact h.ce
   | some ch =>
    have sd:=w.so.2 k r _ hr (qo (d:=0) (by rw [w.so.1];exact hk));have sd':wx r ((s.sides.getD k 0).toNat:Int):=by rw [cg sd.1];exact sd
    obtain ⟨c1,_,_,c4,_⟩:=wp ok (by simp [qp]) (by simp [qU]) sd' hc;have tk:OR ρ (zY s k (qE r ch)).1 (zY s' k (qE r ch)).1/\RelC ρ (zY s k (qE r ch)).2.cells (zY s' k (qE r ch)).2.cells:=by
     cases e:qE r ch with
     | none =>
      refine ⟨?_,h.ce⟩;have hs:r.wd=.source:=by
       cases e1:ch.1 with
       | none=>exact c4 e1
       | some j =>
        unfold qE at e;rw [e1] at e;simp at e;have:=c1 j e1
        lia
      show ρ ((k:Int),(s.gone.getD k []).headD 0) ((k:Int),(s'.gone.getD k []).headD 0)
      have:=h.nw k r 0 hr hs;rw [jV,jV];simpa using this
     | some b =>
      refine ⟨(h.ce.cell b).fin,?_⟩;refine h.ce.set b.toNat ?_;unfold xo;rw [(h.ce.cell b).1];exact (h.ce.cell b).set _ trivial
    show RelC ρ (movedF r s k ch).cells (movedF r s' k ch).cells
    unfold movedF;cases Zn r ch with
    | none=>exact tk.2
    | some b=>exact tk.2.set b.toNat ((tk.2.cell b).set 0 tk.1)
 ·have m:=XG rs s k j 0;have e:=a2 j 0;have m:gAt s.gone j 0<=gAt (qG rs s k).1.gone j 0:=m;have:=h.nw j r ((gAt (qG rs s k).1.gone j 0 - gAt s.gone j 0).toNat + d) hr hs;rw [show gAt s.gone j 0 + (((gAt (qG rs s k).1.gone j 0 - gAt s.gone j 0).toNat + d:Nat):Int)=gAt (qG rs s k).1.gone j 0 + d by lia,show gAt s'.gone j 0 + (((gAt (qG rs s k).1.gone j 0 - gAt s.gone j 0).toNat + d:Nat):Int)=gAt (qG rs s' k).1.gone j 0 + d by lia] at this;exact this
theorem zbd (h:Sim bs rs ρ s s') (w:stWf bs rs s) (w':stWf bs rs s') (mP:zR bs rs) (bo:∀ b∈bs,zB b.1 b.2) (ro:∀ r∈rs,r.ok):∀ m,Sim bs rs ρ (zF rs s m).1 (zF rs s' m).1
 | 0=>h
 | m + 1=>zgp (zbd h w w' mP bo ro m) (jn w mP bo ro m) (jn w' mP bo ro m) ro m
def zeE (h:Sim bs rs ρ s s') (w:stWf bs rs s) (w':stWf bs rs s') (mP:zR bs rs) (bo:∀ b∈bs,zB b.1 b.2) (ro:∀ r∈rs,r.ok):Sim bs rs ρ (passF bs rs s).1 (passF bs rs s').1:=by
 have i:=zbd h w w' mP bo ro rs.length;exact ⟨(zcp h.al w w' mP bo ro).1,i.ce.on (λ b hb=>i.al.tu _ (.inl ⟨b,hb,rfl⟩)) _,i.nw⟩
theorem J0 (mP:zR bs rs) (bo:∀ b∈bs,zB b.1 b.2) (ro:∀ r∈rs,r.ok) {p q:Nat} (h:Sim bs rs ρ (zi bs rs p) (zi bs rs q)):∀ m,Sim bs rs ρ (zi bs rs (p + m)) (zi bs rs (q + m))
 | 0=>h
 | m + 1=>zeE (J0 mP bo ro h m) (zH mP bo ro _) (zH mP bo ro _) mP bo ro
end
def zfK (rs:Av) (s t:PSt) (x y:Int × Int):Prop:=(∃ b p,atC s.cells b p=some x/\atC t.cells b p=some y)\/∃ (k:Nat) (r:Row) (d:Nat),rs[k]?=some r/\r.wd=.source/\x=((k:Int),gAt s.gone k 0 + d)/\y=((k:Int),gAt t.gone k 0 + d)
noncomputable def zh8 (s0 s1 t:PSt) (n:Nat):Org->zC
 | .no=>none
 | .kept b p=>atC t.cells b p
 | .new k m=>some ((k:Int),gAt s0.gone k 0 + n * (gAt s1.gone k 0 - gAt s0.gone k 0) + m)
section
variable {bs:A3} {rs:Av}
def zep {s t:PSt} (h:Alk bs rs s t):Sim bs rs (zfK rs s t) s t:=by
 refine ⟨h,⟨by have:=bt List.length h.ce;rw [ai,ai] at this;exact this,λ b=>⟨VC (QZ h.ce b),λ p=>?_⟩⟩,λ k r d hr hs=>.inr ⟨k,r,d,hr,hs,rfl,rfl⟩⟩;have e:jJ rs ((s.cells.getD b []).getD p none)=jJ rs ((t.cells.getD b []).getD p none):=by rw [WB,WB,QZ h.ce b]
 cases e1:(s.cells.getD b []).getD p none with
 | none =>
  rw [e1] at e;rw [(vU _).mp e.symm]
  trivial
 | some x =>
  cases e2:(t.cells.getD b []).getD p none with
  | none=>rw [e1,e2] at e;exact absurd ((vU _).mp e) (λ z=>nomatch z)
  | some y=>exact .inl ⟨b,p,e1,e2⟩
def Alk.refl (s:PSt):Alk bs rs s s:=⟨rfl,rfl,λ _ _ _ _=>rfl,λ _ _=>rfl⟩
def Alk.trans {s t u:PSt} (h:Alk bs rs s t) (h':Alk bs rs t u):Alk bs rs s u:=⟨h.ce.trans h'.ce,h.si.trans h'.si,λ j r a b=>(h.so j r a b).trans (h'.so j r a b),λ n a=>(h.tu n a).trans (h'.tu n a)⟩
variable (mP:zR bs rs) (bo:∀ b∈bs,zB b.1 b.2) (ro:∀ r∈rs,r.ok) {lim i j:Nat} (rd:RoundAt bs rs lim i j)
include mP bo ro rd
theorem Vz:∀ n,Alk bs rs (zi bs rs i) (zi bs rs (i + n * (j - i)))/\∀ k p,gAt (zi bs rs (i + n * (j - i))).gone k p=gAt (zi bs rs i).gone k p + n * (gAt (zi bs rs j).gone k p - gAt (zi bs rs i).gone k p)
 | 0=>by
  rw [Nat.zero_mul,Nat.add_zero];exact ⟨.refl _,λ k p=>by rw [show ((0:Nat):Int)=0 from rfl,Int.zero_mul,Int.add_zero]⟩
 | n + 1=>by
  obtain ⟨h1,h2⟩:=Vz n;obtain ⟨g1,g2⟩:=ZV h1 mP bo ro (j - i);have lt:=rd.lt;rw [show i + (j - i)=j by lia] at g1 g2;rw [show i + (n + 1) * (j - i)=i + n * (j - i) + (j - i) by rw [d9];lia];refine ⟨(zhM bo ro rd.eq).trans g1,λ k p=>?_⟩;have:=g2 k p;have e:=h2 k p;rw [show ((n + 1:Nat):Int)=(n:Int) + 1 by lia,Int.add_mul,Int.one_mul];generalize (n:Int) * (gAt (zi bs rs j).gone k p - gAt (zi bs rs i).gone k p)=z at e ⊢
  lia
theorem zaL (n b p:Nat) {o:Org} (h:Zm (zi bs rs i) (atC (zi bs rs j).cells b p) o):atC (zi bs rs (i + (n + 1) * (j - i))).cells b p=zh8 (zi bs rs i) (zi bs rs j) (zi bs rs (i + n * (j - i))) n o:=by
 obtain ⟨h1,h2⟩:=Vz mP bo ro rd n;have lt:=rd.lt;have sm:=J0 mP bo ro (zep h1) (j - i);rw [show i + (j - i)=j by lia] at sm;rw [show i + (n + 1) * (j - i)=i + n * (j - i) + (j - i) by rw [d9];lia];have orr:OR (zfK rs (zi bs rs i) (zi bs rs (i + n * (j - i)))) (atC (zi bs rs j).cells b p) (atC (zi bs rs (i + n * (j - i) + (j - i))).cells b p):=(sm.ce.2 b).2 p;generalize atC (zi bs rs (i + n * (j - i) + (j - i))).cells b p=w at orr ⊢;obtain ⟨uq,gv⟩:=Jm mP bo ro i;have inq:∀ {b p:Nat} {x:Int × Int},atC (zi bs rs i).cells b p=some x->∃ c,(zi bs rs i).cells[b]?=some c/\c[p]?=some (some x):=λ {b p x} e=>by
  unfold atC at e;rw [ae,ae] at e;cases e1:(zi bs rs i).cells[b]? with
  | none=>rw [e1] at e;simp at e
  | some c =>
   rw [e1] at e;cases e2:c[p]? with
   | none=>rw [aK,e2] at e;cases e
   | some y=>rw [aK,e2] at e;cases e;exact ⟨c,rfl,e2⟩
 have old:∀ {b p:Nat} {x:Int × Int} {d:Nat} {k:Nat},atC (zi bs rs i).cells b p=some x->x≠((k:Int),gAt (zi bs rs i).gone k 0 + d):=λ {b p x d k} e z=>by
  have:=gv b p x e;rw [z,aB] at this;simp only at this
  lia
 cases o with
 | no =>
  cases e:atC (zi bs rs j).cells b p with
  | none=>rw [e] at orr;exact orr.none_iff.mp rfl
  | some x=>rw [e] at h;exact h.elim
 | kept b' p' =>
  cases e:atC (zi bs rs j).cells b p with
  | none=>rw [e] at h;exact h.elim
  | some x =>
   rw [e] at h orr;obtain ⟨c,g1,g2⟩:=h;have at1:atC (zi bs rs i).cells b' p'=some x:=by
    unfold atC;rw [ae,ae,g1,aK,g2]
    rfl
   cases w with
   | none=>exact orr.elim
   | some y =>
    rcases orr with ⟨b2,p2,q1,q2⟩|⟨k,r,d,_,_,q,_⟩
    ·obtain ⟨rfl,rfl⟩:=uq _ _ _ _ x at1 q1;exact q2.symm
    ·exact absurd q (old at1)
 | new k m =>
  cases e:atC (zi bs rs j).cells b p with
  | none=>rw [e] at h;exact h.elim
  | some x =>
   rw [e] at h orr;obtain ⟨g1,g2,g3,_⟩:=h;cases w with
   | none=>exact orr.elim
   | some y =>
    rcases orr with ⟨b2,p2,q1,_⟩|⟨k',r,d,hr,hs,rfl,rfl⟩
    ·obtain ⟨c,q3,q4⟩:=inq q1;exact absurd (flat_mem.mpr ⟨c,ah q3,ah q4⟩) g2
    ·have ek:k'=k:=by simp only at g1;lia
     subst ek;rw [jV] at g3;simp only at g3;show some ((k':Int),gAt (zi bs rs (i + n * (j - i))).gone k' 0 + (d:Int))=some ((k':Int),_)
     rw [h2 k' 0,show m=(d:Int) by lia]
end
noncomputable def lf (y0 lo lg:Addr) (L:Int):List (Str × V):=zQ "growth" (.ref lg) (zQ "origins" (.ref lo) (zQ "length" (.int L) (zQ "before" (.ref y0) [])))
def Ws {y0 lo lg:Addr}:(lf y0 lo lg L).lookup ("growth":Str)=some (.ref lg):=by unfold lf;rw [zz,ar rfl]
def zbT {y0 lo lg:Addr}:(lf y0 lo lg L).lookup ("origins":Str)=some (.ref lo):=by unfold lf;rw [zz,ap (by decide +kernel),zz,ar rfl]
def QI {y0 lo lg:Addr}:(lf y0 lo lg L).lookup ("length":Str)=some (.int L):=by unfold lf;rw [zz,ap (by decide +kernel),zz,ap (by decide +kernel),zz,ar rfl]
def xm {y0 lo lg:Addr}:(lf y0 lo lg L).lookup ("before":Str)=some (.ref y0):=by unfold lf;rw [zz,ap (by decide +kernel),zz,ap (by decide +kernel),zz,ap (by decide +kernel),zz,ar rfl]
def Wh (a:Ad):Sp:=λ vs H Q _=>∃ (z dx y0 y1:Addr) (n0 n1:SN) (s0 s1:PSt) (H0:Hp),vs=[.ref z,.ref y0,.ref y1]/\H z=some (.ins a.p dx [])/\Same H0 H/\H0 z=none/\StO a H0 y0 n0 s0/\StO a H0 y1 n1 s1/\s0.cells.length<=24/\(∀ c∈s0.cells,c.length<=6)/\s1.cells.length<=24/\(∀ c∈s1.cells,c.length<=6/\∀ wr∈c,zcT s0 wr)/\s0.gone.length=s1.gone.length/\s0.gone.length<=24/\(∀ (i:Nat) g0 g1,s0.gone[i]?=some g0->s1.gone[i]?=some g1->g0.length=g1.length/\g0.length<=4) /\
 ∀ lo lg gs oss H',Same H0 H'->H' z=some (.ins a.p dx (lf y0 lo lg (s1.turn - s0.turn)))->Rep H' (Off [z]) (.ref lo) (Wo oss)->QO s0 s1 oss->NL H' (z7 H') lg gs (qk (xf s0.gone s1.gone))->Q .non H'
def zay (T:Txt K mg a) (F:Fun K "__init__" "Lap.__init__" wI f fd):FnOk P w K mg base (CXr P w) 3 f fd ["self","before","after"] (Wh a):=by
 refine F.okx zaf ?_ ?_
 ·walk_at "i"
 walk_at "j";refine oE5 h λ z dx y0 y1 n0 m7=>oE4 m7 λ n1 s0 s1 H0 m8=>oA9 m8 λ mR hz sH z0 so0 so1 l0 c0 mU=>oA6 mU λ l1 c1 gl g24 gr k=>?_;clear m7 m8 mU h;subst mR;walk_at "T";refine ⟨_,(zg (qQ (pq 0) (pq 1) rfl)  (zg (qQ (pq 0) (zt xC (zj (pq 2) rfl) (zj (pq 1) rfl)) rfl)  (zg (qQ (pq 0) (zx ⟨rfl,rfl,rfl⟩ hr (za (pq 1) (za (pq 2) zb))) rfl)  (zc (qQ (pq 0) (zx ⟨rfl,rfl,rfl⟩ hr (za (pq 1) (za (pq 2) zb))) rfl))))),?_⟩;walk_at "a";have sz:∀ {H':Hp} {o:HO},Same H0 H'->Same H0 (upd H' z o):=λ s b o hb=>by rw [mX (mY hb z0)];exact s b o hb
 refine iE4 z a.p dx ([]) (iA6 rfl hz T.gq T.gx (by decide) ?_);have s1':=sz (o:=.ins a.p dx (zQ "before" (.ref y0) [])) sH;walk_at "a";refine ra ((so1.same s1').hy) T.ad T.dl rfl (ra ((so0.same s1').hy) T.ad T.dl rfl ?_);walk_at "a";refine iE4 z a.p dx _ (iA6 rfl mW T.gq T.gO (by show 1 < 1000;decide) ?_);rw [vK];have s2:=sz (o:=.ins a.p dx (zQ "length" (.int (s1.turn - s0.turn)) (zQ "before" (.ref y0) []))) sH;have hz2:upd H z (.ins a.p dx (zQ "length" (.int (s1.turn - s0.turn)) (zQ "before" (.ref y0) []))) z=some (.ins a.p dx (zQ "length" (.int (s1.turn - s0.turn)) (zQ "before" (.ref y0) []))):=mW;generalize upd H z (.ins a.p dx (zQ "length" (.int (s1.turn - s0.turn)) (zQ "before" (.ref y0) [])))=H2 at s2 hz2 ⊢;walk_at "a";refine uc (wV T).mono (spOrigins.i y0 y1 n0 n1 s0 s1 rfl (so0.same s2) (so1.same s2) l0 c0 l1 c1 (λ lo H3 oss s3 ro3 ok3=>?_));have s03:=s2.trans s3;have hz3:=s3 _ _ hz2;refine iE4 z a.p dx _ (iA6 rfl hz3 T.gq T.ig (by show 2 < 1000;decide) ?_);have s4:=sz (o:=.ins a.p dx (zQ "origins" (.ref lo) (zQ "length" (.int (s1.turn - s0.turn)) (zQ "before" (.ref y0) [])))) s03;have r4:Rep (upd H3 z (.ins a.p dx (zQ "origins" (.ref lo) (zQ "length" (.int (s1.turn - s0.turn)) (zQ "before" (.ref y0) []))))) (Off [z]) (.ref lo) (Wo oss):=ro3.keep λ b o hb ho=>by
  have nb:b≠z:=λ e=>by have hb:H2 b=none:=hb;rw [e,hz2] at hb;cases hb
  exact ⟨by simp [Off,nb],by rw [mX nb];exact ho⟩
 have hz4:upd H3 z (.ins a.p dx (zQ "origins" (.ref lo) (zQ "length" (.int (s1.turn - s0.turn)) (zQ "before" (.ref y0) [])))) z=some (.ins a.p dx (zQ "origins" (.ref lo) (zQ "length" (.int (s1.turn - s0.turn)) (zQ "before" (.ref y0) [])))):=mW;generalize upd H3 z (.ins a.p dx (zQ "origins" (.ref lo) (zQ "length" (.int (s1.turn - s0.turn)) (zQ "before" (.ref y0) []))))=H4 at s4 r4 hz4 ⊢;refine uc (za5 T).mono (iE6 y0 y1 n0 n1 s0 s1 (iA7 rfl (so0.same s4) (so1.same s4) gl g24 gr (λ lg gs H5 s5 ng fr=>?_)));have hz5:=s5 _ _ hz4;refine iE4 z a.p dx _ (iA6 rfl hz5 T.gq T.hJ (by show 3 < 1000;decide) ?_);refine k lo lg gs oss _ (sz (s4.trans s5)) mW (r4.keep λ b o hb ho=>?_) ok3 (ng.tup λ b o hb ho=>?_)
 ·have nb:b≠z:=λ e=>hb (by rw [e];simp);exact ⟨hb,by rw [mX nb];exact s5 _ _ ho⟩
 ·have nb:b≠z:=λ e=>by
   subst e;rcases hb with hb|hb|⟨xs,hb⟩
   ·have:=fr lg (bX ..);rw [<- hb,hz4] at this;cases this
   ·have:=fr b (aF _ hb);rw [hz4] at this;cases this
   ·rw [hz5] at hb;cases hb
  rw [mX nb];exact ho
def zid (T:Txt K mg a):KCal P w K mg base "Lap" a.p 3 ["self","before","after"] [] (Wh a):=T.lK.cal T.mJ (zay T)
structure LapO (a:Ad) (H:Hp) (z y0:Addr) (n0:SN) (s0 s1:PSt) (oss:List (List Org)):Prop where
 ex:∃ dx lo lg gs,H z=some (.ins a.p dx (lf y0 lo lg (s1.turn - s0.turn)))/\Rep H (λ _=>True) (.ref lo) (Wo oss)/\NL H (z7 H) lg gs (qk (xf s0.gone s1.gone))
 so:StO a H y0 n0 s0
 ok:QO s0 s1 oss
def LapO.same {H H':Hp} {z y0:Addr} {n0:SN} {s0 s1:PSt} {oss:List (List Org)} (h:LapO a H z y0 n0 s0 s1 oss) (s:Same H H'):LapO a H' z y0 n0 s0 s1 oss:=by
 obtain ⟨dx,lo,lg,gs,h1,h2,h3⟩:=h.ex;exact ⟨⟨dx,lo,lg,gs,s _ _ h1,jb h2 s,h3.tup λ b o _ hb=>s b o hb⟩,h.so.same s,h.ok⟩
def zc8 (a:Ad):Sp:=λ vs H Q _=>∃ (z y0 t:Addr) (n0:SN) (s0 s1:PSt) (oss:List (List Org)) (k:Nat) (m:Int) (n:Nat) (x:Int) (xs:A8),vs=[.ref z,.ref t,.int n]/\LapO a H z y0 n0 s0 s1 oss/\H t=some (.tup [.str "new",.int k,.int m])/\s0.gone[k]?=some (x :: xs)/\s0.gone.length=s1.gone.length/\0<=gAt s1.gone k 0 - x/\gAt s1.gone k 0 - x<=1000/\∀ t' H',Same H H'->H' t'=some (.tup [.int k,.int (x + n * (gAt s1.gone k 0 - x) + m)])->Q (.ref t') H'
def Xh (T:Txt K mg a):MCal P w K mg base a.p "new_ware" 1 ["self","origin","rounds"] [] (zc8 a):=T.i8.cal T.gq λ F=>by
 refine F.okx Q6 ?_ ?_
 ·walk_at "i"
 walk_at "j";refine oE8 h λ z y0 t n0 s0 s1 oss kk m7=>oE4 m7 λ m n x xs m8=>oA8 m8 λ mR lo ht hg le d0 d1 k=>?_;clear m7 m8 h;subst mR;refine oE4 lo.ex λ dx l1 lg gs m7=>oA3 m7 λ hz _ ng=>?_;clear m7;have hk:=(aa.mp hg).1;obtain ⟨g1,e1⟩:∃ g,s1.gone[kk]?=some g:=⟨_,ac (by rw [<- le];exact hk)⟩;have eg:(xf s0.gone s1.gone)[kk]?=some (wY (x :: xs) g1):=by unfold xf;rw [fE,hg,e1]
 have eG:gAt s1.gone kk 0=g1.getD 0 0:=by unfold gAt;rw [ae (l:=s1.gone),e1];rfl
 obtain ⟨b0,hb0,h0⟩:=xE lo.so.hg hg;obtain ⟨b1,hb1,h1⟩:=xE ng eg;have eF:(wY (x :: xs) g1)[0]?=some (g1.getD 0 0 - x):=by unfold wY;rw [am,fT (by simp)];rfl
 rw [eG] at d0 d1 k;walk_at "T";refine ⟨_,(zg (zp 3 Q6.nd (zo (pq 1) zd))  (zg (zp 4 Q6.nd (zt zJ (zo (zo (zj (zj (pq 0) rfl) rfl) (pq 3)) zd) (zt jM (pq 2) (zo (zo (zj (pq 0) rfl) (pq 3)) zd))))  (zc (zl (qO (za (pq 3) (za (zt zJ (pq 4) (zo (pq 1) zd)) zb))))))),?_⟩;walk_at "a";refine n6 ht (show atI _ 1=some (.int kk) from rfl) ?_;walk_at "a";refine ra hz T.gq T.gx xm (ra lo.so.hy T.ad T.gg rfl (zu (SqL.of lo.so.hg.out) (zE (by rw [am,hb0];rfl)) (zu (SqL.of h0) at0 ?_)));refine ra hz T.gq T.hJ Ws (zu (SqL.of ng.out) (zE (by rw [am,hb1];rfl)) (zu (SqL.of h1) (show atI _ ((0:Nat):Int)=some (.int (g1.getD 0 0 - x)) from zE (jN eF)) ?_));refine ⟨mul_okR (by lia) (by lia),?_⟩;walk_at "a";refine n6 ht (show atI _ 2=some (.int m) from rfl) ?_;walk_at "a";exact λ p hp=>k p _ (zf hp) mW
noncomputable def zaP (O:Nat × Nat->Org) (q:Nat × Nat):Option (Nat × Nat):=match O q with
 | .kept b p=>some (b,p)
 | _=>none
noncomputable def chn (O:Nat × Nat->Org) (q0:Nat × Nat):Nat->Option (Nat × Nat)
 | 0=>some q0
 | t + 1=>(chn O q0 t).bind (zaP O)
def zgr (C:Nat->Nat × Nat->zC) (O:Nat × Nat->Org) (q0:Nat × Nat) (N left:Nat) (q:Nat × Nat):Prop:=∃ t,chn O q0 t=some q/\C N q0=C left q/\((t + left=N/\∀ u,0 < u->u<=t->chn O q0 u≠some q0)\/∃ d,t + left < d/\∀ u,0 < u->u < d->chn O q0 u≠some q0)
section
variable {C:Nat->Nat × Nat->zC} {O:Nat × Nat->Org} {ok:Nat × Nat->Prop} (hC:∀ n q b p,ok q->O q=.kept b p->C (n + 1) q=C n (b,p)) (hk:∀ q b p,ok q->O q=.kept b p->ok (b,p)) {q0:Nat × Nat} (h0:ok q0)
include hC hk h0
theorem zfi:∀ t q,chn O q0 t=some q->ok q/\∀ m,C (m + t) q0=C m q
 | 0,q,h=>by cases h;exact ⟨h0,λ _=>rfl⟩
 | t + 1,q,h=>by
  obtain ⟨q1,h1,h2⟩:=bW.mp h;obtain ⟨o1,c1⟩:=zfi t q1 h1;unfold zaP at h2
  split at h2
  ·rename_i b p e;cases h2;exact ⟨hk q1 b p o1 e,λ m=>by rw [show m + (t + 1)=m + 1 + t by lia,c1 (m + 1),hC m q1 b p o1 e]⟩
  ·cases h2
theorem zgh {d:Nat} (hd:chn O q0 d=some q0) (d0:0 < d) (m:Nat):C m q0=C (m % d) q0:=by
 have:=(zfi hC hk h0 d q0 hd).2
 induction m using Nat.strongRecOn with
 | _ m ih =>
  by_cases h:m < d
  ·rw [Nat.mod_eq_of_lt h]
  ·rw [Nat.mod_eq_sub_mod (by lia),<- ih (m - d) (by lia),<- this (m - d),show m - d + d=m by lia]
theorem zd0 {N l:Nat} {q:Nat × Nat} (h:zgr C O q0 N (l + 1) q) {b p:Nat} (e:O q=.kept b p):((b,p)≠q0->zgr C O q0 N l (b,p))/\((b,p)=q0->0 < N - l/\zgr C O q0 N (l % (N - l)) q0):=by
 obtain ⟨t,h1,h2,h3⟩:=h;have nx:chn O q0 (t + 1)=some (b,p):=by
  show (chn O q0 t).bind (zaP O)=_
  rw [h1];show zaP O q=_
  unfold zaP;rw [e]
 have cq:C N q0=C l (b,p):=by rw [h2,hC l q b p (zfi hC hk h0 t q h1).1 e]
 refine ⟨λ ne=>⟨t + 1,nx,cq,?_⟩,λ eq=>?_⟩
 ·rcases h3 with ⟨a1,a2⟩|⟨d,a1,a2⟩
  ·refine .inl ⟨by lia,λ u u0 ul=>?_⟩;by_cases z:u=t + 1
   ·rw [z,nx];exact λ y=>ne (aT y)
   ·exact a2 u u0 (by lia)
  ·exact .inr ⟨d,by lia,a2⟩
 ·rcases h3 with ⟨a1,a2⟩|⟨d,a1,a2⟩
  ·refine ⟨by lia,0,rfl,?_,.inr ⟨t + 1,?_,λ u u0 ul=>a2 u u0 (by lia)⟩⟩
   ·rw [cq,eq,show N - l=t + 1 by lia];exact zgh hC hk h0 (by rw [nx,eq]) (by lia) l
   ·rw [show N - l=t + 1 by lia,Nat.zero_add];exact c8 _ (by lia)
  ·exact absurd (nx.trans (by rw [eq])) (a2 (t + 1) (by lia) (by lia))
end
def zaJ {y0 lo lg:Addr} {x:Str} (h1:x≠"before") (h2:x≠"length") (h3:x≠"origins") (h4:x≠"growth"):(lf y0 lo lg L).lookup x=none:=by
 unfold lf;rw [zz,ap h4,zz,ap h3,zz,ap h2,zz,ap h1]
 rfl
def LapO.org {z y0:Addr} {n0:SN} {s0 s1:PSt} {oss:List (List Org)} (h:LapO a H z y0 n0 s0 s1 oss) {b p:Nat} {os:List Org} {o:Org} (e1:oss[b]?=some os) (e2:os[p]?=some o):∃ dx lo lg us bl vs v,H z=some (.ins a.p dx (lf y0 lo lg (s1.turn - s0.turn)))/\H lo=some (.lst us)/\us[b]?=some (.ref bl)/\H bl=some (.lst vs)/\vs[p]?=some v/\Rep H (λ _=>True) v (Vs o):=by
 obtain ⟨dx,lo,lg,gs,hz,r,_⟩:=h.ex;obtain ⟨l0,us,e,_,hl,ru⟩:=Rep.lst' r;cases e;have hb:b < us.length:=by rw [ru.len,ai];exact (aa.mp e1).1
 obtain ⟨d,hd,rb⟩:=ru.at (ac hb);rw [am,e1] at hd;cases hd;obtain ⟨bl,vs,e,_,hbl,rv⟩:=Rep.lst' rb;have hp:p < vs.length:=by rw [rv.len,ai];exact (aa.mp e2).1
 obtain ⟨d,hd,rp⟩:=rv.at (ac hp);rw [am,e2] at hd;cases hd;exact ⟨dx,lo,lg,us,bl,vs,vs[p],hz,hl,by rw [<- e];exact ac hb,hbl,ac hp,rp⟩
def zc6 {x:Str} (h:Rep H p v (.tup [.str x,.int k,.int m])):∃ t,v=.ref t/\H t=some (.tup [.str x,.int k,.int m]):=by
 obtain ⟨t,us,rfl,_,ht,rr⟩:=Rep.tup' h;have g:=rr.g;obtain ⟨x0,_,rfl,h1⟩:=VJ rr.len;obtain ⟨x1,x2,rfl⟩:=two_of h1;have a0:=g 0 x0 _ rfl rfl;have a1:=g 1 x1 _ rfl rfl;have a2:=g 2 x2 _ rfl rfl;cases a0;cases a1;cases a2;exact ⟨t,rfl,ht⟩
def zhO (rs:Av) (st:PSt) (k i p:Nat):gAt (qG rs st k).1.gone i p<=gAt st.gone i p + if i=k then 1 else 0:=by
 unfold qG;have z:gAt st.gone i p<=gAt st.gone i p + if i=k then 1 else 0:=by split <;> lia
 cases rs[k]? with
 | none=>exact z
 | some r =>
  simp only;cases qh r (qp rs st.cells r) (qU st.cells r) st.turn (st.sides.getD k 0).toNat with
  | none=>exact z
  | some ch =>
   obtain ⟨_,_,c3⟩:=movedF_keep (r:=r) (st:=st) (k:=k) (ch:=ch);show gAt ((movedF r st k ch).gone.set k _) i p<=_
   rw [c3];unfold gAt;rw [qv]
   split
   ·rename_i h;obtain ⟨rfl,_⟩:=h;rw [ar rfl];unfold ZH;rw [qv]
    split
    ·rename_i h;rw [h.1];exact bL _
    ·lia
   ·exact z
theorem zcZ (rs:Av) (st:PSt) (i p:Nat):∀ m,gAt (zF rs st m).1.gone i p<=gAt st.gone i p + if i < m then 1 else 0
 | 0=>by rw [ap (Nat.not_lt_zero _)];exact Int.le_of_eq (Int.add_zero _).symm
 | m + 1=>by
  have h1:=zcZ rs st i p m;have h2:=zhO rs (zF rs st m).1 m i p;show gAt (qG rs (zF rs st m).1 m).1.gone i p<=_
  by_cases e:i=m
  ·rw [ar e] at h2;rw [ap (by lia)] at h1;rw [ar (by lia)]
   lia
  ·rw [ap e] at h2;by_cases h:i < m
   ·rw [ar h] at h1;rw [ar (by lia)]
    lia
   ·rw [ap h] at h1;rw [ap (by lia)]
    lia
theorem Jn (bs:A3) (rs:Av) (k p:Nat):∀ n:Nat,gAt (zi bs rs n).gone k p<=n
 | 0=>by
  show gAt (rs.map qF) k p<=0
  unfold gAt;rw [ae,ae,am];cases rs[k]? with
  | none=>exact bL _
  | some r =>
   show ((qF r)[p]?).getD 0<=0
   unfold qF;rw [dn]
   split <;> exact bL _
 | n + 1=>by
  have h1:=Jn bs rs k p n;have h2:=zcZ rs (zi bs rs n) k p rs.length;show gAt (zF rs (zi bs rs n) rs.length).1.gone k p<=_
  split at h2 <;> lia
def V0 (a:Ad):Sp:=λ vs H Q _=>∃ (z y0 t:Addr) (n0:SN) (oss:List (List Org)) (bs:A3) (rs:Av) (lim i j N b p:Nat) (c:Ax),vs=[.ref z,.ref t,.int N]/\LapO a H z y0 n0 (zi bs rs i) (zi bs rs j) oss/\zR bs rs/\(∀ b∈bs,zB b.1 b.2)/\(∀ r∈rs,r.ok)/\RoundAt bs rs lim i j/\lim<=1000/\H t=some (.tup [.int b,.int p])/\(zi bs rs i).cells[b]?=some c/\p < c.length/\∀ v H',Same H H'->Rep H' (z7 H') v (qa (atC (zi bs rs (i + N * (j - i))).cells b p))->Q v H'
theorem QG (T:Txt K mg a):MCal P w K mg base a.p "ware_after" 2 ["self","first","rounds"] [] (V0 a):=T.iy.cal T.gq λ F=>by
 refine F.okx ZM ?_ ?_
 ·walk_at "i"
 walk_at "j";refine oE8 h λ z y0 t n0 oss bs rs lim m7=>oE6 m7 λ i j N b p c m8=>oA9 m8 λ mR lo mP bo ro rd l1000 ht mU=>oA3 mU λ hc hp k=>?_;clear m7 m8 mU h;subst mR;have w0:=zH mP bo ro i;have w1:=zH mP bo ro j;let C:Nat->Nat × Nat->zC:=λ n q=>atC (zi bs rs (i + n * (j - i))).cells q.1 q.2;let O:Nat × Nat->Org:=λ q=>(oss.getD q.1 []).getD q.2 .no;let ok:Nat × Nat->Prop:=λ q=>∃ c,(zi bs rs i).cells[q.1]?=some c/\q.2 < c.length;have hO:∀ q,ok q->∃ os,oss[q.1]?=some os/\os[q.2]?=some (O q)/\Zm (zi bs rs i) (atC (zi bs rs j).cells q.1 q.2) (O q):=λ q ⟨c,h1,h2⟩=>by
  have hq:=(aa.mp h1).1;have eb:=ac (l:=bs) (i:=q.1) (by rw [<- w0.co.1];exact hq);obtain ⟨c1,e1⟩:∃ c1,(zi bs rs j).cells[q.1]?=some c1:=⟨_,ac (by rw [w1.co.1,<- w0.co.1];exact hq)⟩;have l1:c1.length=c.length:=by rw [(w1.co.2 q.1 _ c1 eb e1).1,(w0.co.2 q.1 _ c eb h1).1]
  obtain ⟨os,e2⟩:∃ os,oss[q.1]?=some os:=⟨_,ac (by rw [lo.ok.1];exact (aa.mp e1).1)⟩;obtain ⟨l2,g⟩:=lo.ok.2 q.1 os c1 e2 e1;obtain ⟨o,e3⟩:∃ o,os[q.2]?=some o:=⟨_,ac (by lia)⟩;obtain ⟨wr,e4⟩:∃ wr,c1[q.2]?=some wr:=⟨_,ac (by lia)⟩;have eO:O q=o:=by
   show (oss.getD q.1 []).getD q.2 .no=o
   rw [ae,ae,e2,aK,e3]
   rfl
  have eW:atC (zi bs rs j).cells q.1 q.2=wr:=by
   unfold atC;rw [ae,ae,e1,aK,e4]
   rfl
  rw [eO,eW];exact ⟨os,iA3 e2 e3 (g q.2 o wr e3 e4)⟩
 have hC:∀ n q b p,ok q->O q=.kept b p->C (n + 1) q=C n (b,p):=λ n q b p hq e=>by
  refine oE1 (hO q hq) λ _ m7=>oA3 m7 λ _ _ g=>?_;clear m7;rw [e] at g;exact zaL mP bo ro rd n q.1 q.2 g
 have hk:∀ q b p,ok q->O q=.kept b p->ok (b,p):=λ q b p hq e=>by
  refine oE1 (hO q hq) λ _ m7=>oA3 m7 λ _ _ g=>?_;clear m7;rw [e] at g;cases e1:atC (zi bs rs j).cells q.1 q.2 with
  | none=>rw [e1] at g;exact g.elim
  | some x =>
   rw [e1] at g;obtain ⟨c,g1,g2⟩:=g;exact ⟨c,g1,(aa.mp g2).1⟩
 walk_at "T";refine ⟨_,(zg (zp 3 ZM.nd (pq 1))  (zg (zp 4 ZM.nd (pq 2))  (zg (zar qC (zm zav (pq 4) zd (zr _))  (zg (zp 5 ZM.nd (zo (zo (zj (pq 0) rfl) (zo (pq 3) zd)) (zo (pq 3) zd)))  (zg (zD (zm je (pq 5) zG (zr _))  (zc (zl zG))  zn)  (zg (zg4 (i:=4) ZM.nd rfl (Or.inl rfl) zd zhv)  (zg (zD (zm (qK hr.units1) (zo (pq 5) zd) jF (zr _))  (zc (zl (QD ⟨rfl,rfl,rfl⟩ hr (pq 0) (za (pq 5) (za (pq 4) zb)))))  zn)  (zg (zp 3 ZM.nd (qO (za (zo (pq 5) zd) (za (zo (pq 5) zd) zb))))  (zc (zD (zm (qK hr.units1) (pq 3) (pq 1) (zr _))  (zc (zp 4 ZM.nd (zt qq (pq 4) (zt xC (pq 2) (pq 4)))))  zn))))))))  (zc (zl (zo (zo (zj (zj (pq 0) rfl) rfl) (zo (pq 3) zd)) (zo (pq 3) zd))))))),?_⟩;walk_at "a";have ok0:ok (b,p):=⟨c,hc,hp⟩;have k:∀ v H',Same H H'->Rep H' (z7 H') v (qa (C N (b,p)))->Q v H':=k;refine ⟨λ l σ H'=>∃ (tc:Addr) (q:Nat × Nat) (v5:As),σ=[some (.ref z),some (.ref t),some (.int N),some (.ref tc),some (.int l),v5]/\Same H H'/\H' tc=some (.tup [.int q.1,.int q.2])/\zgr C O (b,p) N l q/\ok q,(iE4 N t (b,p) none (iA5 rfl (Same.refl _) ht ⟨0,iA3 rfl rfl (.inl ⟨by lia,λ u u0 ul=>absurd u0 (by lia)⟩)⟩ ok0)),?_⟩;intro l σ H1 m9;refine oE3 m9 λ tc q v5 m7=>oA5 m7 λ m8 s1 htc bk okq=>?_;clear m7 m9;subst m8;have lo1:=lo.same s1;have ceq:C N (b,p)=C l q:=bk.choose_spec.2.1;walk_at "a";refine zN (λ hl=>?_) (λ hl=>?_)
 ·obtain ⟨l,rfl⟩:∃ l',l=l' + 1:=⟨l - 1,by lia⟩;refine zh2 ?_;refine oE1 (hO q okq) λ os m7=>oA3 m7 λ e1 e2 og=>?_;clear m7;refine oE7 (lo1.org e1 e2) λ dx lo' lg us bl vs v m7=>oA6 m7 λ hz hlo hus hbl hvs rv=>?_;clear m7;have lc:=zaL mP bo ro rd l q.1 q.2 og;walk_at "a";refine ra hz T.gq T.ig zbT (n6 htc at0 (zu (SqL.of hlo) (zE hus) (n6 htc (show atI _ 1=some (.int q.2) from rfl) (zu (SqL.of hbl) (zE hvs) ?_))));cases eo:O q with
  | no =>
   rw [eo] at rv lc;have rv:Rep H1 (λ _=>True) v .non:=rv;cases rv;walk_at "a";exact k _ H1 s1 (by rw [ceq];show Rep H1 _ _ (qa (atC _ _ _));rw [lc];exact .non)
  | new kk m =>
   rw [eo] at rv lc;obtain ⟨to,rfl,hto⟩:=zc6 rv;rw [eo] at og;obtain ⟨x,xs,hg⟩:∃ x xs,(zi bs rs i).gone[kk]?=some (x :: xs):=by
    cases e3:atC (zi bs rs j).cells q.1 q.2 with
    | none=>rw [e3] at og;exact og.elim
    | some w2=>rw [e3] at og;obtain ⟨_,_,_,g0,gs,h⟩:=og;exact ⟨g0,gs,h⟩
   have ex:gAt (zi bs rs i).gone kk 0=x:=by unfold gAt;rw [ae (l:=(zi bs rs i).gone),hg];rfl
   have mo:gAt (zi bs rs i).gone kk 0<=gAt (zi bs rs j).gone kk 0:=by
    have:=vP bs rs i kk 0 (j - i);have lt:=rd.lt;rw [show i + (j - i)=j by lia] at this;exact this
   have up:=Jn bs rs kk 0 j;have x0:0<=gAt (zi bs rs i).gone kk 0:=by
    have hkk:=(aa.mp hg).1;have er:=ac (l:=rs) (i:=kk) (by rw [<- w0.go.1];exact hkk);rw [ex];exact (w0.go.2 kk _ _ er hg).2 x (bX ..)
   have jl:=rd.le;change _=some ((kk:Int),gAt (zi bs rs i).gone kk 0 + (l:Int) * (gAt (zi bs rs j).gone kk 0 - gAt (zi bs rs i).gone kk 0) + m) at lc;rw [ex] at mo x0 lc;walk_at "a";refine n6 hto at0 ?_;walk_at "a";rw [show ((l + 1:Nat):Int) - 1=(l:Int) by lia];refine iE7 z a.p dx _ _ _ _ (iA5 rfl hz (zaJ (by decide +kernel) (by decide +kernel) (by decide +kernel) (by decide +kernel)) ((Xh T).mono) ⟨z,y0,to,n0,_,_,oss,kk,m,l,x,xs,rfl,lo1,hto,hg,by rw [w0.go.1,w1.go.1],by lia,by lia,λ t' H' s' ht'=>k _ _ (s1.trans s') ?_⟩);rw [ceq];show Rep H' _ _ (qa (atC _ _ _))
   rw [lc];exact Reps.mkT (vs:=[.int kk,.int (x + l * (gAt (zi bs rs j).gone kk 0 - x) + m)]) (.cons .int (.cons .int .nil)) ⟨_,ht'⟩ ht'
  | kept b' p' =>
   rw [eo] at rv lc;obtain ⟨to,rfl,hto⟩:=zc6 (m:=(p':Int)) rv;obtain ⟨n1,n2⟩:=zd0 hC hk ok0 bk eo;have okn:=hk q b' p' okq eo;walk_at "a";refine n6 hto at0 ?_;walk_at "a";refine zN (λ z=>absurd z (by decide +kernel)) λ _=>n6 hto (show atI _ 1=some (.int b') from rfl) (n6 hto (show atI _ 2=some (.int p') from rfl) λ p1 hp1=>?_);have s2:=zf (o:=.tup [.int b',.int p']) hp1;have h2:upd H1 p1 (.tup [.int b',.int p']) p1=some (.tup (iv [(b':Int),(p':Int)])):=mW;have ht2:upd H1 p1 (.tup [.int b',.int p']) t=some (.tup (iv [(b:Int),(p:Int)])):=s2 _ _ (s1 _ _ ht);refine .inr (.inl (iE4 p1 t _ _ (iA6 rfl rfl (.inr ⟨SqT.of h2,SqT.of ht2⟩) rfl rfl ?_)));rw [show ((l + 1:Nat):Int) - 1=(l:Int) by lia,Zs];by_cases e3:(b',p')=(b,p)
   ·obtain ⟨d0,bk2⟩:=n2 e3;rw [bp (by cases e3;rfl)];refine ⟨by lia,⟨l % (N - l),⟨?_,iE3 p1 (b,p) (some (.ref to)) (iA5 ?_ (s1.trans s2) ?_ bk2 ok0)⟩⟩⟩
    ·exact Nat.lt_succ_of_le (Nat.mod_le _ _)
    ·rw [show (l:Int) % ((N:Int) - l)=((l % (N - l):Nat):Int) by rw [du,Int.natCast_sub (by lia)]]
    ·cases e3;exact mW
   ·rw [aW (λ z=>e3 (by simp at z;exact Prod.ext (by show b'=b;lia) (by show p'=p;lia)))];exact ⟨l,⟨by lia,iE3 p1 (b',p') _ (iA5 rfl (s1.trans s2) mW (n1 e3) okn)⟩⟩
 ·have l0:l=0:=by lia
  subst l0;obtain ⟨c1,g1,g2⟩:=okq;refine oE4 lo1.ex λ dx lo' lg gs m7=>oA3 m7 λ hz _ _=>?_;clear m7;obtain ⟨bq,us,hb,hu,ru⟩:=lo1.so.hc.at (i:=q.1) (xs:=c1.map qa) (by rw [zI,am,g1];rfl);have lu:us.length=c1.length:=by rw [ru.len,ai]
  obtain ⟨v,hv⟩:∃ v,us[q.2]?=some v:=⟨_,ac (by lia)⟩;obtain ⟨d,hd,rv⟩:=ru.at hv;rw [am,ao] at hd;obtain ⟨wr,hwr,rfl⟩:=hd;walk_at "a";refine ra hz T.gq T.gx xm (ra lo1.so.hy T.ad T.gf rfl (n6 htc at0 (zu (SqL.of lo1.so.hc.out) (zE (by rw [am,hb];rfl)) (n6 htc (show atI _ 1=some (.int q.2) from rfl) (zu (SqL.of hu) (zE hv) (k _ H1 s1 ?_))))));have e0:C 0 q=wr:=by
   show atC (zi bs rs (i + 0 * (j - i))).cells q.1 q.2=wr
   rw [Nat.zero_mul,Nat.add_zero];unfold atC;rw [ae,ae,g1,aK,hwr]
   rfl
  rw [ceq,e0];exact rv
def WY (a:Ad):Sp:=λ vs H Q _=>∃ (z y0:Addr) (n0:SN) (oss:List (List Org)) (bs:A3) (rs:Av) (lim i j N:Nat),vs=[.ref z,.int N]/\LapO a H z y0 n0 (zi bs rs i) (zi bs rs j) oss/\zR bs rs/\(∀ b∈bs,zB b.1 b.2)/\(∀ r∈rs,r.ok)/\RoundAt bs rs lim i j/\lim<=1000/\∀ l H',Same H H'->Rep H' (Off []) (.ref l) (.lst ((zI (zi bs rs (i + N * (j - i))).cells).map D.lst))->Q (.ref l) H'
def Z3 (T:Txt K mg a):MCal P w K mg base a.p "cells_after" 3 ["self","rounds"] [] (WY a):=T.io.cal T.gq λ F=>by
 refine F.okx Zw ?_ ?_
 ·walk_at "i"
 walk_at "j";refine oE8 h λ z y0 n0 oss bs rs lim i m7=>oE2 m7 λ j N m8=>oA8 m8 λ mR lo mP bo ro rd l1000 k=>?_;clear m7 m8 h;subst mR;have w0:=zH mP bo ro i;have wN:=zH mP bo ro (i + N * (j - i));have lc:n0.acs.length=bs.length:=by rw [lo.so.hc.len,zI,ai,w0.co.1]
 have b24:=mP.1.1.2;walk_at "T";refine ⟨_,(zg (zp 2 Zw.nd (zL zb))  (zg (ql qC rfl (qB (za (zj (zj (pq 0) rfl) rfl) zb)) (xA (n:=2) rfl (z8 (vQ (i:=3) Zw.nd rfl (Or.inr rfl)) (z8 (qg 4 Zw.nd) jE)))  (zc (zw (qy aq ax aw zK (pq 2) (za (jG (vars:=["place"]) (caps:=[1,0,3]) (N:=["place","rounds","self","belt"]) (ON:=["self","rounds","cells","belt","old"]) (osc:=ze qS) rfl rfl (by first|decide +kernel|kernel_rfl) rfl rfl (jD (za (z9 zX zW (za (pq 4) zb)) zb)) (λ _ _ _ _=>(qg 0 (show (["place","rounds","self","belt"]:Aa).Nodup from by decide +kernel))) (λ _ _ _ _=>qe) (λ _ _ _ _=>(zfX hr (pq 2) (za (qO (za (pq 3) (za (pq 0) zb))) (za (pq 1) zb))))) zb)))))  (zc (zl (pq 2))))),?_⟩;walk_at "a";intro C hC;have sC:=zf (o:=.lst []) hC;have hC1:upd H C (.lst []) C=some (.lst []):=mW;generalize upd H C (.lst [])=H1 at sC hC1 ⊢;refine oE4 lo.ex λ dx lo' lg gs m7=>oA3 m7 λ hz _ _=>?_;clear m7;walk_at "d";walk_at "a";refine ra (sC _ _ hz) T.gq T.gx xm (ra ((lo.so.same sC).hy) T.ad T.gf rfl (iE2 n0.lc _ (iA3 rfl (sC _ _ lo.so.hc.out) ?_)));refine QX (K:=K) (a:=n0.lc) (xs:=n0.acs.map V.ref) (λ b σ H'=>∃ (v3 v4:As) (us:Ar),σ=[some (.ref z),some (.int N),some (.ref C),v3,v4]/\Same H H'/\H' C=some (.lst us)/\Reps H' (Off [C]) us ((zI ((zi bs rs (i + N * (j - i))).cells.take b)).map D.lst)) (iE3 _ _ ([]) (iA4 rfl sC hC1 (by rw [bZ];exact .nil))) (λ b σ H' _ h=>by obtain ⟨_,_,_,_,s,_⟩:=h;exact SqL.of (s _ _ lo.so.hc.out)) ?_ ?_
 ·intro b x t σ H2 hb ht m9;refine oE3 m9 λ v3 v4 us m7=>oA4 m7 λ m8 s2 hC2 ru=>?_;clear m7 m9;subst m8;rw [am,ao] at hb;obtain ⟨cb,hcb,rfl⟩:=hb;have hbl:b < bs.length:=by rw [<- lc];exact (aa.mp hcb).1
  have eb:=ac hbl;obtain ⟨c,ec⟩:∃ c,(zi bs rs i).cells[b]?=some c:=⟨_,ac (by rw [w0.co.1];exact hbl)⟩;obtain ⟨cN,eN⟩:∃ c,(zi bs rs (i + N * (j - i))).cells[b]?=some c:=⟨_,ac (by rw [wN.co.1];exact hbl)⟩;have l1:=(w0.co.2 b _ c eb ec).1;have l2:=(wN.co.2 b _ cN eb eN).1;have bk:=(bo _ (ah eb)).2.1;obtain ⟨vs,hvs,rvs⟩:=lo.so.hc.g b cb _ hcb (show (zI (zi bs rs i).cells)[b]?=some (c.map qa) by rw [zI,am,ec];rfl);have lv:vs.length=c.length:=by rw [rvs.len,ai]
  have lus:us.length<=b:=by rw [ru.len,ai,ai,aS];exact eP _ _
  have st:=zf (o:=.tup [.int b,.ref cb]) ht;have s3:=s2.trans st;have hC3:=st _ _ hC2;have ru3:=ru.same st;refine un2 mW ?_;generalize upd H2 t (.tup [.int b,.ref cb])=H3 at s3 hC3 ru3 ⊢;walk_at "a";walk_at "e";walk_at "a";refine iA4 (.inl ⟨rfl,_,SqL.of hC3⟩) iY gA ⟨_,⟨.inl ⟨_,SqL.of (s3 _ _ hvs),rfl⟩,?_⟩⟩;rw [lv];refine ⟨by lia,by lia,λ _ _ _ _ Z hZ=>?_⟩;have nZC:Z≠C:=(mY hC3 hZ).symm;refine xS (n:=((c.length:Nat):Int).toNat) (λ q σ H'=>∃ (v0:As) (ws:Ar),σ=[v0,some (.int N),some (.ref z),some (.int b)]/\Same H3 H'/\H' Z=some (.lst ws)/\Reps H' (Off [C,Z]) ws ((cN.take q).map qa)) (iE2 _ ([]) (iA4 rfl (zf hZ) mW (by rw [bZ];exact .nil))) ?_ ?_
  ·intro q σ H4 hq m9;refine oE2 m9 λ v0 ws m7=>oA4 m7 λ m8 s4 hZ4 rw4=>?_;clear m7 m9;subst m8;rw [aB] at hq;have s34:=s3.trans s4;have lo4:=lo.same s34;obtain ⟨wr,hwr⟩:∃ wr,cN[q]?=some wr:=⟨_,ac (by rw [l2,<- l1];exact hq)⟩;have lw:ws.length<=q:=by rw [rw4.len,ai,aS];exact eP _ _
   walk_at "a";simp only [cZ];refine iE7 z a.p dx _ _ _ _ (iA5 rfl (s34 _ _ hz) (zaJ (by decide +kernel) (by decide +kernel) (by decide +kernel) (by decide +kernel)) ((QG T).mono) (λ t2 ht2=>?_));have s5:=zf (o:=.tup [.int b,.int q]) ht2;refine iE8 z y0 t2 n0 oss bs rs lim (iE6 i j N b q c (iA9 rfl (lo4.same s5) mP bo ro rd l1000 mW (iA3 ec hq (λ v H6 s6 rv=>?_))));have atN:atC (zi bs rs (i + N * (j - i))).cells b q=wr:=by
    unfold atC;rw [ae,ae,eN,aK,hwr]
    rfl
   rw [atN] at rv;have s46:=s5.trans s6;have hZ6:=s46 _ _ hZ4;have hC6:=s46 _ _ (s4 _ _ hC3);have fm:Fr [C,Z] H6 (upd H6 Z (.lst (ws ++ [v]))):=qA (by simp);refine ⟨_,iA3 hZ6 (zk (by lia)) (iE2 _ (ws ++ [v]) (iA4 rfl (λ b o hb=>by rw [mX (mY hb hZ)];exact s46 _ _ (s4 b o hb)) mW ?_))⟩;rw [aN,hwr,bg];refine ((rw4.same s46).fr fm).append (.one (Rep.fr (rv.keep λ b o hb ho=>⟨λ e=>?_,ho⟩) fm));obtain ⟨xs,hx⟩:=hb;simp only [az,bV,cB] at e;rcases e with rfl|rfl
   ·rw [hC6] at hx;cases hx
   ·rw [hZ6] at hx;cases hx
  intro σ H4 m9;refine oE2 m9 λ v0 ws m7=>oA4 m7 λ m8 s4 hZ4 rw4=>?_;clear m7 m9;subst m8;rw [aB,show c.length=cN.length from l1.trans l2.symm,aR] at rw4;have fm:Fr [C] H4 (upd H4 C (.lst (us ++ [.ref Z]))):=qA (by simp);have lo':∀ b∈[C],b∈[C,Z]\/H4 b=none:=λ b hb=>.inl (by simp [ay.mp hb]);refine iE3 C _ _ (iA5 rfl rfl (s4 _ _ hC3) (zk (by lia)) ?_);refine iE3 _ _ (us ++ [.ref Z]) (iA4 rfl (λ b o hb=>by rw [mX (mY hb hC)];exact s4 _ _ (s3 b o hb)) mW ?_);rw [aN,eN,fZ,show (zI ((zi bs rs (i + N * (j - i))).cells.take b ++ [cN])).map D.lst=(zI ((zi bs rs (i + N * (j - i))).cells.take b)).map D.lst ++ [.lst (cN.map qa)] by simp [zI]];exact ((ru3.same s4).append (.one ((rw4.more lo').mk' (by simp [Off,nZC]) hZ4))).fr fm
 ·intro σ H2 m9;refine oE3 m9 λ v3 v4 us m7=>oA4 m7 λ m8 s2 hC2 ru=>?_;clear m7 m9;subst m8;rw [ai,lc,<- wN.co.1,aR] at ru;walk_at "a";exact k C H2 s2 (ru.all.mk' (λ z=>nomatch z) hC2)
def V4 (a:Ad):Sp:=λ vs H Q _=>∃ (z y0:Addr) (n0:SN) (oss:List (List Org)) (bs:A3) (rs:Av) (lim i j N:Nat),vs=[.ref z,.int N]/\LapO a H z y0 n0 (zi bs rs i) (zi bs rs j) oss/\zR bs rs/\(∀ b∈bs,zB b.1 b.2)/\(∀ r∈rs,r.ok)/\RoundAt bs rs lim i j/\lim<=1000/\∀ l H',Same H H'->Rep H' (Off []) (.ref l) (.lst ((qk (zi bs rs (i + N * (j - i))).gone).map D.lst))->Q (.ref l) H'
def QH (T:Txt K mg a):MCal P w K mg base a.p "gone_after" 1 ["self","rounds"] [] (V4 a):=T.iz.cal T.gq λ F=>by
 refine F.okx ZN ?_ ?_
 ·walk_at "i"
 walk_at "j";refine oE8 h λ z y0 n0 oss bs rs lim i m7=>oE2 m7 λ j N m8=>oA8 m8 λ mR lo mP bo ro rd l1000 k=>?_;clear m7 m8 h;subst mR;have w0:=zH mP bo ro i;have w1:=zH mP bo ro j;have wN:=zH mP bo ro (i + N * (j - i));refine oE4 lo.ex λ dx lo' lg gs m7=>oA3 m7 λ hz _ ng=>?_;clear m7;have la:n0.ags.length=rs.length:=by rw [lo.so.hg.len,qk,ai,w0.go.1]
 have lb:gs.length=rs.length:=by rw [ng.len,qk,ai,xf,fS,w0.go.1,w1.go.1,ee]
 have r24:=mP.1.2.2;walk_at "T";refine ⟨_,(zg (zp 2 ZN.nd (zL zb))  (zg (ql qC rfl (zbF (za (zj (zj (pq 0) rfl) rfl) (za (zj (pq 0) rfl) zb))) (xA (n:=2) rfl (z8 (vQ (i:=3) ZN.nd rfl (Or.inr rfl)) (z8 (vQ (i:=4) ZN.nd rfl (Or.inr rfl)) jE)))  (zc (zw (qy aq ax aw zK (pq 2) (za (jG (vars:=["place"]) (caps:=[3,1,4]) (N:=["place","old","rounds","more"]) (ON:=["self","rounds","gone","old","more"]) (osc:=ze jm) rfl rfl (by first|decide +kernel|kernel_rfl) rfl rfl (jD (za (z9 zX zW (za (pq 3) zb)) zb)) (λ _ _ _ _=>(qg 0 (show (["place","old","rounds","more"]:Aa).Nodup from by decide +kernel))) (λ _ _ _ _=>qe) (λ _ _ _ _=>(zt zJ (zo (pq 1) (pq 0)) (zt jM (pq 2) (zo (pq 3) (pq 0)))))) zb)))))  (zc (zl (pq 2))))),?_⟩;walk_at "a";intro C hC;have sC:=zf (o:=.lst []) hC;have hC1:upd H C (.lst []) C=some (.lst []):=mW;generalize upd H C (.lst [])=H1 at sC hC1 ⊢;walk_at "d";walk_at "a";refine ra (sC _ _ hz) T.gq T.gx xm (ra ((lo.so.same sC).hy) T.ad T.gg rfl (ra (sC _ _ hz) T.gq T.hJ Ws (iE6 true true n0.lg lg _ _ (iA4 rfl (SqL.of (sC _ _ lo.so.hg.out)) (SqL.of (sC _ _ ng.out)) ?_))));refine zfa (K:=K) (xs:=n0.ags.map V.ref) (ys:=gs.map V.ref) (λ q σ H'=>∃ (v3 v4:As) (us:Ar),σ=[some (.ref z),some (.int N),some (.ref C),v3,v4]/\Same H H'/\H' C=some (.lst us)/\Reps H' (Off [C]) us ((qk ((zi bs rs (i + N * (j - i))).gone.take q)).map D.lst)) (iE3 _ _ ([]) (iA4 rfl sC hC1 (by rw [bZ];exact .nil))) (λ q σ H' _ h=>by obtain ⟨_,_,_,_,s,_⟩:=h;exact ⟨SqL.of (s _ _ lo.so.hg.out),SqL.of (s _ _ ng.out)⟩) ?_ ?_
 ·intro q x x' t σ H2 hq hq' ht m9;refine oE3 m9 λ v3 v4 us m7=>oA4 m7 λ m8 s2 hC2 ru=>?_;clear m7 m9;subst m8;rw [am,ao] at hq hq';obtain ⟨b0,hb0,rfl⟩:=hq;obtain ⟨b1,hb1,rfl⟩:=hq';have hql:q < rs.length:=by rw [<- la];exact (aa.mp hb0).1
  have er:=ac hql;obtain ⟨g0,e0⟩:∃ g,(zi bs rs i).gone[q]?=some g:=⟨_,ac (by rw [w0.go.1];exact hql)⟩;obtain ⟨g1,e1⟩:∃ g,(zi bs rs j).gone[q]?=some g:=⟨_,ac (by rw [w1.go.1];exact hql)⟩;obtain ⟨gN,eN⟩:∃ g,(zi bs rs (i + N * (j - i))).gone[q]?=some g:=⟨_,ac (by rw [wN.go.1];exact hql)⟩;have l0:=(w0.go.2 q _ g0 er e0).1;have l1:=(w1.go.2 q _ g1 er e1).1;have lN:=(wN.go.2 q _ gN er eN).1;have cp:=xG (ro _ (ah er));have eg:(xf (zi bs rs i).gone (zi bs rs j).gone)[q]?=some (wY g0 g1):=by unfold xf;rw [fE,e0,e1]
  obtain ⟨c0,q0,h0⟩:=xE lo.so.hg e0;obtain ⟨c1,q1,h1⟩:=xE ng eg;rw [hb0] at q0;cases q0;rw [hb1] at q1;cases q1;have lus:us.length<=q:=by rw [ru.len,ai,ai,aS];exact eP _ _
  have st:=zf (o:=.tup [.ref b0,.ref b1]) ht;have s3:=s2.trans st;have hC3:=st _ _ hC2;have ru3:=ru.same st;refine un2 mW ?_;generalize upd H2 t (.tup [.ref b0,.ref b1])=H3 at s3 hC3 ru3 ⊢;walk_at "a";walk_at "e";walk_at "a";refine iA4 (.inl ⟨rfl,_,SqL.of hC3⟩) iY gA ⟨_,⟨.inl ⟨_,SqL.of (s3 _ _ h0),rfl⟩,?_⟩⟩;rw [zy];refine ⟨by lia,by lia,λ _ _ _ _ Z hZ=>?_⟩;have nZC:Z≠C:=(mY hC3 hZ).symm;refine xS (n:=((g0.length:Nat):Int).toNat) (λ p σ H'=>∃ (v0:As),σ=[v0,some (.ref b0),some (.int N),some (.ref b1)]/\Same H3 H'/\H' Z=some (.lst (iv (gN.take p)))) ⟨_,iA3 rfl (zf hZ) mW⟩ ?_ ?_
  ·intro p σ H4 hp m9;refine oE1 m9 λ v0 m7=>oA3 m7 λ m8 s4 hZ4=>?_;clear m7 m9;subst m8;rw [aB] at hp;have s34:=s3.trans s4;have lp:=(Vz mP bo ro rd N).2 q p;have m0:=vP bs rs i q p (j - i);have up:=Jn bs rs q p j;have lt:=rd.lt;have le:=rd.le;rw [Nat.add_sub_of_le (bI lt)] at m0;have m0:gAt (zi bs rs i).gone q p<=gAt (zi bs rs j).gone q p:=m0;have x0:g0[p]?=some (gAt (zi bs rs i).gone q p):=by
    unfold gAt;rw [ae (l:=(zi bs rs i).gone),e0,aK];exact qo hp
   have x1:(wY g0 g1)[p]?=some (gAt (zi bs rs j).gone q p - gAt (zi bs rs i).gone q p):=by
    unfold wY gAt;rw [am,fT hp,ae (l:=(zi bs rs i).gone),ae (l:=(zi bs rs j).gone),e0,e1]
    rfl
   have xN:gN[p]?=some (gAt (zi bs rs (i + N * (j - i))).gone q p):=by
    unfold gAt;rw [ae (l:=(zi bs rs (i + N * (j - i))).gone),eN,aK];exact qo (by lia)
   have p0:0<=gAt (zi bs rs i).gone q p:=(w0.go.2 q _ g0 er e0).2 _ (ah x0);walk_at "a";simp only [cZ];refine zu (SqL.of (s34 _ _ h0)) (zE (jN x0)) (zu (SqL.of (s34 _ _ h1)) (zE (jN x1)) ?_);walk_at "a";refine ⟨mul_okR (by lia) (by lia),?_⟩;walk_at "a";refine ⟨_,iA3 hZ4 (zk (by rw [zy,aS];lia)) ⟨_,iA3 rfl (λ b o hb=>by rw [mX (mY hb hZ)];exact s4 b o hb) ?_⟩⟩;rw [mW,qI,aN,xN,lp]
   rfl
  intro σ H4 m9;refine oE1 m9 λ v0 m7=>oA3 m7 λ m8 s4 hZ4=>?_;clear m7 m9;subst m8;rw [show ((g0.length:Nat):Int).toNat=gN.length by lia,aR] at hZ4;have fm:Fr [C] H4 (upd H4 C (.lst (us ++ [.ref Z]))):=qA (by simp);refine iE3 C _ _ (iA5 rfl rfl (s4 _ _ hC3) (zk (by lia)) ?_);refine iE3 _ _ (us ++ [.ref Z]) (iA4 rfl (λ b o hb=>by rw [mX (mY hb hC)];exact s4 _ _ (s3 b o hb)) mW ?_);rw [aN,eN,fZ,show (qk ((zi bs rs (i + N * (j - i))).gone.take q ++ [gN])).map D.lst=(qk ((zi bs rs (i + N * (j - i))).gone.take q)).map D.lst ++ [.ints gN] by simp [qk]];exact ((ru3.same s4).append (.one (qj (by simp [Off,nZC]) hZ4))).fr fm
 ·intro σ H2 m9;refine oE3 m9 λ v3 v4 us m7=>oA4 m7 λ m8 s2 hC2 ru=>?_;clear m7 m9;subst m8;rw [ai,ai,la,lb,ee,<- wN.go.1,aR] at ru;walk_at "a";exact k C H2 s2 (ru.all.mk' (λ z=>nomatch z) hC2)
def WW (a:Ad):Sp:=λ vs H Q _=>∃ (z y0:Addr) (n0:SN) (oss:List (List Org)) (bs:A3) (rs:Av) (lim i j N:Nat),vs=[.ref z,.int N]/\LapO a H z y0 n0 (zi bs rs i) (zi bs rs j) oss/\zR bs rs/\(∀ b∈bs,zB b.1 b.2)/\(∀ r∈rs,r.ok)/\RoundAt bs rs lim i j/\lim<=1000/\∀ v H',Same H H'->Q1 a H H' v (zi bs rs (i + N * (j - i)))->Q v H'
def Z2 (T:Txt K mg a):MCal P w K mg base a.p "state_after" 4 ["self","rounds"] [] (WW a):=T.ip.cal T.gq λ F=>by
 refine F.okx Zv ?_ ?_
 ·walk_at "i"
 walk_at "j";refine oE8 h λ z y0 n0 oss bs rs lim i m7=>oE2 m7 λ j N m8=>oA8 m8 λ mR lo mP bo ro rd l1000 k=>?_;clear m7 m8 h;subst mR;refine oE4 lo.ex λ dx lo' lg gs m7=>oA3 m7 λ hz _ _=>?_;clear m7;have lt:=rd.lt;have le:=rd.le;have wN:=zH mP bo ro (i + N * (j - i));have b24:=mP.1.1.2;have r24:=mP.1.2.2;walk_at "T";refine ⟨_,(zg (zp 2 Zv.nd (zt zJ (zj (zj (pq 0) rfl) rfl) (zt jM (pq 1) (zj (pq 0) rfl))))  (zc (zl (qr (x:="State") ⟨rfl,rfl,rfl⟩ hr (za (pq 2) (za (QD ⟨rfl,rfl,rfl⟩ hr (pq 0) (za (pq 1) zb)) (za (zj (zj (pq 0) rfl) rfl) (za (QD ⟨rfl,rfl,rfl⟩ hr (pq 0) (za (pq 1) zb)) zb)))))))),?_⟩;walk_at "a";refine ra hz T.gq T.gx xm (ra lo.so.hy T.ad T.dl rfl (ra hz T.gq T.gO QI ?_));walk_at "a";rw [qt,qt];refine ⟨mul_okR (by lia) (by lia),?_⟩;walk_at "a";have et:(i:Int) + (N:Int) * ((j:Int) - i)=(zi bs rs (i + N * (j - i))).turn:=by
  rw [qt,Int.natCast_add,Int.natCast_mul,Int.natCast_sub (by lia)]
 rw [et];refine iE4 a.b _ _ _ ⟨(VB T).mono,iE7 z a.p dx _ _ _ _ (iA5 rfl hz (zaJ (by decide +kernel) (by decide +kernel) (by decide +kernel) (by decide +kernel)) ((Z3 T).mono) ⟨z,y0,n0,oss,bs,rs,lim,i,j,N,rfl,lo,mP,bo,ro,rd,l1000,λ lc H1 s1 rc=>?_⟩)⟩;have lo1:=lo.same s1;refine ra (s1 _ _ hz) T.gq T.gx xm (ra lo1.so.hy T.ad T.gm rfl (iE7 z a.p dx _ _ _ _ (iA5 rfl (s1 _ _ hz) (zaJ (by decide +kernel) (by decide +kernel) (by decide +kernel) (by decide +kernel)) ((QH T).mono) ⟨z,y0,n0,oss,bs,rs,lim,i,j,N,rfl,lo1,mP,bo,ro,rd,l1000,λ lg2 H2 s2 rg=>?_⟩)));have lo2:=lo1.same s2;have hs:=lo2.so.hs;rw [(Vz mP bo ro rd N).1.si] at hs;refine Xe T (st:=zi bs rs (i + N * (j - i))) (rc.same s2) (qj (p:=Off []) (λ z=>nomatch z) hs) rg (by rw [wN.co.1];lia) (by rw [wN.go.1];lia) λ y H3 s3 sn=>?_;refine oE2 sn λ y' n m7=>oA5 m7 λ e so ny nd nn=>?_;clear m7 sn;have s12:=s1.trans s2;exact k _ H3 (s12.trans s3) (iE2 y' n (iA5 e so (zA s12 ny) (zA s12 nd) (λ b hb=>zA s12 (nn b hb))))
def zck (a:Ad):Sp:=λ vs H Q E=>∃ (vw:V) (n lim:Nat) (bs:A3) (rs:Av),vs=[vw,.int n,.int lim]/\Rep H (Off []) vw (qz a bs rs)/\zR bs rs/\(∀ b∈bs,zB b.1 b.2)/\(∀ r∈rs,r.ok)/\lim<=1000 /\
 (∀ i j v H',RoundAt bs rs lim i j->Same H H'->Q1 a H H' v (zi bs rs n)->Q v H')/\(vY bs rs lim->∀ H',Same H H'->E (.ref a.g) none H')
def zeH (T:Txt K mg a) (F:FunD K "leapt" "leapt" wB f fd):FnOk P w K mg base (CXr P w) 9 f fd ["work","turns","limit"] (zck a):=by
 refine F.okx zer ?_ ?_
 ·walk_at "i"
 walk_at "j";refine oE5 h λ vw n lim bs rs m7=>oA8 m7 λ m8 hv mP bo ro l1000 kQ kE=>?_;clear m7 h;subst m8;walk_at "T";refine ⟨_,(zg (zp 3 zer.nd (zx ⟨rfl,rfl,rfl⟩ hr (za (pq 0) (za (pq 2) zb))))  (zg (zp 4 zer.nd (qr (x:="Lap") ⟨rfl,rfl,rfl⟩ hr (za (zo (pq 3) zd) (za (zo (pq 3) zd) zb))))  (zg (zp 5 zer.nd (zj (zo (pq 3) zd) rfl))  (zg (zD (zm QS (pq 1) (pq 5) (zr _))  (zc (zl (zx ⟨rfl,rfl,rfl⟩ hr (za (pq 0) (za (pq 1) zb)))))  zn)  (zg (zp 6 zer.nd (QD ⟨rfl,rfl,rfl⟩ hr (pq 4) (za (zt Vx (zt xC (pq 1) (pq 5)) (zj (pq 4) rfl)) zb)))  (zg (ql qC rfl (jD (za (zt qq (zt xC (pq 1) (pq 5)) (zj (pq 4) rfl)) zb)) (qg 7 zer.nd)  (zc (zw (zx ⟨rfl,rfl,rfl⟩ hr (za (pq 0) (za (pq 6) zb))))))  (zc (zl (pq 6))))))))),?_⟩;walk_at "a";refine uc (Qb T).mono (iE4 vw lim bs rs (iA8 rfl hv mP bo ro l1000 (λ i j t y0 y1 n0 n1 H1 rd s1 ht so0 so1=>?_) kE));have w0:=zH mP bo ro i;have w1:=zH mP bo ro j;have b24:=mP.1.1.2;have r24:=mP.1.2.2;walk_at "a";refine iE4 a.p _ _ _ ⟨(zid T).mono,n6 ht at0 (n6 ht (show atI _ 1=some (.ref y1) from rfl) ?_)⟩;intro z dz hz hdz hne;have sN:Same H1 (upd (upd H1 dz (.own z)) z (.ins a.p dz [])):=(zf hdz).trans (zf (by rw [mX (aX hne)];exact hz));obtain ⟨gl,gr⟩:=zdL ro w0 w1;have c6:∀ {s:PSt},stWf bs rs s->∀ c∈s.cells,c.length<=6/\∀ wr∈c,xX rs wr:=λ w c hc=>by
  obtain ⟨q,hq⟩:=br hc;have eb:=ac (l:=bs) (i:=q) (by rw [<- w.co.1];exact (aa.mp hq).1);obtain ⟨l,wk⟩:=w.co.2 q _ c eb hq;have:=(bo _ (ah eb)).2.1;exact ⟨by lia,wk⟩
 refine iE5 z dz y0 y1 n0 (iE4 n1 _ _ H1 (iA9 rfl mW sN hz so0 so1 (by rw [w0.co.1];exact b24) (λ c hc=>(c6 w0 c hc).1) (iA6 (by rw [w1.co.1];exact b24) (λ c hc=>⟨(c6 w1 c hc).1,λ wr hw x ex=>?_⟩) gl (by rw [w0.go.1];exact r24) gr (λ lo lg gs oss H2 s2 hz2 ro2 ok2 ng2=>⟨rfl,?_⟩))))
 ·refine oE2 ((c6 w1 c hc).2 wr hw x.1 x.2 (by rw [ex])) λ q r m7=>oA3 m7 λ e1 hr' _=>?_;clear m7;obtain ⟨g,eg⟩:∃ g,(zi bs rs i).gone[q]?=some g:=⟨_,ac (by rw [w0.go.1];exact (aa.mp hr').1)⟩;have:=(w0.go.2 q r g hr' eg).1;have:=xG (ro r (ah hr'));cases g with
  | nil=>simp at *;lia
  | cons g0 gs=>exact ⟨q,g0,gs,e1,eg⟩
 have lo2:LapO a H2 z y0 n0 (zi bs rs i) (zi bs rs j) oss:=⟨⟨dz,lo,lg,gs,hz2,ro2.keep λ b o _ ho=>⟨trivial,ho⟩,ng2⟩,so0.same s2,ok2⟩;have s02:=s1.trans s2;have lt:=rd.lt;have le:=rd.le;have kQ:∀ v H3 H',Same H H3->Same H3 H'->Q1 a H3 H' v (zi bs rs n)->Q v H':=λ v H3 H' sA sB sn=>by
  refine oE2 sn λ y' n' m7=>oA5 m7 λ e so ny nd nn=>?_;clear m7 sn;exact kQ i j v H' rd (sA.trans sB) (iE2 y' n' (iA5 e so (zA sA ny) (zA sA nd) (λ b hb=>zA sA (nn b hb))))
 refine n6 (s2 _ _ ht) at0 (ra lo2.so.hy T.ad T.dl rfl ?_);rw [qt];walk_at "a";refine zN (λ hn=>?_) (λ hn=>?_)
 ·exact uc (za1 T).mono (iE4 vw n bs rs (iA7 rfl (hv.same s02) mP bo ro (by lia) (λ v' H' s' sn=>kQ v' H2 H' s02 s' sn)))
 walk_at "a";have tl:(zi bs rs j).turn - (zi bs rs i).turn=((j - i:Nat):Int):=by rw [qt,qt];lia
 have d0:(0:Int) < ((j - i:Nat):Int):=by lia
 refine iE7 z a.p dz _ _ _ _ (iA5 rfl hz2 (zaJ (by decide +kernel) (by decide +kernel) (by decide +kernel) (by decide +kernel)) ((Z2 T).mono) (iE5 z a.p dz _ _ (iA6 rfl hz2 T.gq T.gO QI ?_)));rw [tl];walk_at "a";refine ⟨fd_small d0 (by lia),?_⟩;have ed:(n:Int) - i=((n - i:Nat):Int):=by lia
 rw [fdiv_pos d0,ed,<- Int.natCast_ediv];refine iE8 z y0 n0 oss bs rs lim i (iE2 j ((n - i) / (j - i)) (iA8 rfl lo2 mP bo ro rd l1000 (λ v H3 s3 sn=>?_)));refine oE2 sn λ y ny m7=>oA5 m7 λ m8 so3 fy fd' fn=>?_;clear m7 sn;subst m8;have s03:=s02.trans s3;have na:∀ b∈y :: ny.all,H2 b=none:=λ b hb=>by
  rcases az.mp hb with rfl|hb
  ·exact fy
  ·exact fn b hb
 have na0:∀ b∈y :: ny.all,H b=none:=λ b hb=>zA s02 (na b hb);have hw3:Rep H3 (Off (y :: ny.all)) vw (qz a bs rs):=jb (hv.more (ns:=y :: ny.all) λ b hb=>.inr (na0 b hb)) s03;have hz3:=s3 _ _ hz2;walk_at "d";walk_at "a";refine ra hz3 T.gq T.gO QI ?_;rw [tl];walk_at "a";rw [ed,<- du];have rl:(n - i) % (j - i) < j - i:=c8 _ (by lia);refine ⟨by lia,by lia,?_⟩;refine xS (n:=(((n - i) % (j - i):Nat):Int).toNat) (λ q σ H'=>∃ (v7:As),σ=[some vw,some (.int n),some (.int lim),some (.ref t),some (.ref z),some (.int i),some (.ref y),v7]/\Fr (y :: ny.all) H3 H'/\StO a H' y ny (zi bs rs (i + (n - i) / (j - i) * (j - i) + q))) ⟨_,iA3 rfl Fr.refl so3⟩ ?_ ?_
 ·intro q σ H4 hq m9;refine oE1 m9 λ v7 m7=>oA3 m7 λ m8 f4 so4=>?_;clear m7 m9;subst m8;walk_at "a";refine uc (vH T).mono (iE6 vw y ny _ bs rs (iA8 rfl (hw3.fr f4) so4 (zH mP bo ro _) mP bo ro (λ l us H5 f5 so5 _ _ _ _=>?_)));exact ⟨_,iA3 rfl (f4.trans f5) so5⟩
 ·intro σ H4 m9;refine oE1 m9 λ v7 m7=>oA3 m7 λ m8 f4 so4=>?_;clear m7 m9;subst m8;have en:i + (n - i) / (j - i) * (j - i) + (n - i) % (j - i)=n:=by
   have:=Nat.div_add_mod (n - i) (j - i);rw [Nat.mul_comm] at this
   lia
  rw [aB,en] at so4;walk_at "a";exact kQ _ H2 H4 s02 (λ b o hb=>f4 b o (λ z=>by rw [na b z] at hb;cases hb) (s3 b o hb)) (iE2 y ny (iA5 rfl so4 fy fd' fn))
def zcW (T:Txt K mg a):Cal P w K mg base "leapt" 9 ["work","turns","limit"] [] (zck a):=T.mx.cal (zeH T)
inductive spFold (K:A0) (vs:Ar) (H:Hp) (Q:VK) (E:XK):Prop
 | i (l:Addr) (ns:A8) (b:Int):vs=[.ref l,.int b]->SqL K H l (iv ns)->0 < b->(∀ n,0<=n->Q (.int n) H)->spFold K vs H Q E
def zfn (T:Txt K mg a):Cal P w K mg base "_law_fold" 1 ["_law_script","_law_bound"] [] (spFold K):=T.ml.cal λ F=>by
 refine F.okx zdi ?_ ?_
 ·walk_at "i"
 walk_at "j";rcases h with ⟨l,ns,b,rfl,hl,b0,k⟩;walk_at "T";refine ⟨_,(zg (zp 2 zdi.nd zd)  (zg (ql qC rfl (qm (pq 0)) (qg 3 zdi.nd)  (zc (zp 2 zdi.nd (zt qq (zt zJ (zt jM (pq 2) zd) (pq 3)) (pq 1)))))  (zc (zl (pq 2))))),?_⟩;walk_at "a";walk_at "d";refine ⟨l,rfl,.inl ⟨⟨_,hl⟩,?_⟩⟩;refine qM (K:=K) (a:=l) (xs:=iv ns) (λ i σ H'=>∃ (m:Int) (v:As),σ=[some (.ref l),some (.int b),some (.int m),v]/\H'=H/\0<=m) (iE2 0 none (iA3 rfl rfl (by decide))) (λ i σ H' _ ⟨_,_,_,e,_⟩=>e ▸ hl) ?_ ?_
 ·intro i x σ H1 hi m9;refine oE2 m9 λ m v m7=>oA3 m7 λ m8 mR m0=>?_;clear m7 m9;subst m8 mR;obtain ⟨c,hc,rfl⟩:=Zh hi;walk_at "a";refine ⟨mul_okR (by decide) (by decide),?_⟩;walk_at "a";exact iE2 _ _ ⟨rfl,aJ _ (by lia)⟩
 ·intro σ H1 m9;refine oE2 m9 λ m v m7=>oA3 m7 λ m8 mR m0=>?_;clear m7 m9;subst m8 mR;walk_at "a";exact k _ m0
def zhb {s:PSt} {b p:Nat} {x:Int × Int} (e:atC s.cells b p=some x):∃ c,s.cells[b]?=some c/\c[p]?=some (some x):=by
 unfold atC at e;rw [ae,ae] at e;cases e1:s.cells[b]? with
 | none=>rw [e1] at e;simp at e
 | some c =>
  rw [e1] at e;cases e2:c[p]? with
  | none=>rw [aK,e2] at e;cases e
  | some y=>rw [aK,e2] at e;cases e;exact ⟨c,rfl,e2⟩
def zgJ {s:PSt} {b p:Nat} {x:Int × Int} {c:Ax} (g1:s.cells[b]?=some c) (g2:c[p]?=some (some x)):atC s.cells b p=some x:=by
 unfold atC;rw [ae,ae,g1,aK,g2]
 rfl
def zax {s:PSt} {b p:Nat} {x:Int × Int} {o:Org} (uq:Uq s.cells) (e:atC s.cells b p=some x) (h:Zm s (some x) o):o=.kept b p:=by
 cases o with
 | no=>exact h.elim
 | kept b' p' =>
  obtain ⟨c,g1,g2⟩:=h;obtain ⟨rfl,rfl⟩:=uq _ _ _ _ x e (zgJ g1 g2)
  rfl
 | new k m =>
  obtain ⟨c,q3,q4⟩:=zhb e;exact absurd (flat_mem.mpr ⟨c,ah q3,ah q4⟩) h.2.1
def zcr {s:PSt} {k d:Nat} {o:Org} (gv:GvL s.cells s.gone) (h:Zm s (some ((k:Int),gAt s.gone k 0 + d)) o):o=.new k d:=by
 cases o with
 | no=>exact h.elim
 | kept b' p' =>
  obtain ⟨c,g1,g2⟩:=h;have:=gv _ _ _ (zgJ g1 g2);simp only [aB] at this
  lia
 | new k' m =>
  obtain ⟨g1,_,g3,_⟩:=h;have ek:k=k':=by simp only at g1;lia
  subst ek;rw [jV] at g3;simp only at g3;rw [show m=(d:Int) by lia]
def zeG {rs:Av} {s t:PSt} {w w':zC} {o o':Org} (us:Uq s.cells) (ut:Uq t.cells) (gs:GvL s.cells s.gone) (gt:GvL t.cells t.gone) (r:OR (zfK rs s t) w w') (h:Zm s w o) (h':Zm t w' o'):o=o':=by
 cases w with
 | none =>
  cases w' with
  | some _=>exact r.elim
  | none =>
   cases o with
   | no =>
    cases o' with
    | no=>rfl
    | kept=>exact h'.elim
    | new=>exact h'.elim
   | kept=>exact h.elim
   | new=>exact h.elim
 | some x =>
  cases w' with
  | none=>exact r.elim
  | some y =>
   rcases r with ⟨b,p,q1,q2⟩|⟨k,r,d,_,_,rfl,rfl⟩
   ·rw [zax us q1 h,zax ut q2 h']
   ·rw [zcr gs h,zcr gt h']
def zdu {rs:Av} {s t s1 t1:PSt} {oss oss':List (List Org)} (us:Uq s.cells) (ut:Uq t.cells) (gs:GvL s.cells s.gone) (gt:GvL t.cells t.gone) (sm:Sim bs rs (zfK rs s t) s1 t1) (h:QO s s1 oss) (h':QO t t1 oss'):oss=oss':=by
 obtain ⟨l1,f1⟩:=h;obtain ⟨l2,f2⟩:=h';have lc:s1.cells.length=t1.cells.length:=sm.ce.1;refine eT λ b=>?_;by_cases hb:b < oss.length
 ·have e1:=ac hb;have e2:=ac (l:=oss') (i:=b) (by lia);have c1:=ac (l:=s1.cells) (i:=b) (by lia);have c2:=ac (l:=t1.cells) (i:=b) (by lia);obtain ⟨m1,g1⟩:=f1 b _ _ e1 c1;obtain ⟨m2,g2⟩:=f2 b _ _ e2 c2;have rr:=sm.ce.2 b;rw [ae,ae,c1,c2] at rr;have lr:s1.cells[b].length=t1.cells[b].length:=rr.1;rw [e1,e2];refine bt some (eT λ p=>?_);by_cases hp:p < oss[b].length
  ·have x1:=ac hp;have x2:=ac (l:=oss'[b]) (i:=p) (by lia);have y1:=ac (l:=s1.cells[b]) (i:=p) (by lia);have y2:=ac (l:=t1.cells[b]) (i:=p) (by lia);have r:=rr.2 p;simp only [aK] at r;rw [ae,ae,y1,y2] at r;rw [x1,x2,zeG us ut gs gt r (g1 p _ _ x1 y1) (g2 p _ _ x2 y2)]
  ·rw [aZ (by lia),aZ (by lia)]
 ·rw [aZ (by lia),aZ (by lia)]
inductive spKindsL (a:Ad) (vs:Ar) (H:Hp) (Q:VK) (E:XK):Prop
 | i (vw:V) (cb:Addr) (us:Ar) (bs:A3) (rs:Av) (c:Ax) (p q:A7):vs=[vw,.ref cb]->Rep H p vw (qz a bs rs)->H cb=some (.lst us)->Reps H q us (c.map qa)->(∀ wr∈c,xX rs wr)->(∀ r∈rs,r.ok)->c.length<=6->(∀ l H',Same H H'->H l=none->H' l=some (.lst ((zq rs c).map oiV))->Q (.ref l) H')->spKindsL a vs H Q E
theorem WL (T:Txt K mg a):Cal P w K mg base "_law_kinds" 1 ["_law_work_here","_law_cells"] [] (spKindsL a):=T.lZ.cal λ F=>by
 refine F.okx zbw ?_ ?_
 ·walk_at "i"
 walk_at "j";rcases h with ⟨vw,cb,us,bs,rs,c,p,q,rfl,hw,hcb,rus,wk,ro,c6,k⟩;have lu:us.length=c.length:=by rw [rus.len,ai]
 refine oE7 (qV hw) λ yw dx fs l1 l2 bvs mK m7=>oA9 m7 λ m8 hy e1 e2 h1 h2 hB hK no=>?_;clear m7;subst m8;walk_at "T";refine ⟨_,(zh (zp 2 zbw.nd (zL zb))  (qd (ql qC rfl (qm (pq 1)) (qg 3 zbw.nd)  (zc (zD (zm je (pq 3) zG (zr _))  (zc (zw (qy aq ax aw zK (pq 2) (za zG zb))))  (zh (zp 4 zbw.nd (zj (zo (zj (pq 0) rfl) (zo (pq 3) zd)) rfl))  (zc (zw (qy aq ax aw zK (pq 2) (za (zo (pq 4) (zt qq (zo (pq 3) zd) (z9 zX zW (za (pq 4) zb)))) zb))))))))  (zc (zl (pq 2))))),?_⟩;walk_at "a";intro R hR;have sR:=zf (o:=.lst []) hR;have hR1:upd H R (.lst []) R=some (.lst ((zq rs (c.take 0)).map oiV)):=mW;generalize upd H R (.lst [])=H1 at sR hR1 ⊢;walk_at "a";refine cut (λ σ' H'=>∃ (v3 v4:As),σ'=[some (.ref yw),some (.ref cb),some (.ref R),v3,v4]/\Same H H'/\H' R=some (.lst ((zq rs c).map oiV))) ?_ ?_
 ·walk_at "d";walk_at "a";refine ⟨cb,rfl,.inl ⟨⟨_,SqL.of (sR _ _ hcb)⟩,?_⟩⟩;refine qM (K:=K) (a:=cb) (xs:=us) (λ j σ H'=>∃ (v3 v4:As),σ=[some (.ref yw),some (.ref cb),some (.ref R),v3,v4]/\Same H H'/\H' R=some (.lst ((zq rs (c.take j)).map oiV))) (iE2 _ _ (iA3 rfl sR hR1)) (λ i σ H' _ h=>by obtain ⟨_,_,_,s,_⟩:=h;exact SqL.of (s _ _ hcb)) ?_ ?_
  ·intro j v σ H2 hj m9;refine oE2 m9 λ v3 v4 m7=>oA3 m7 λ m8 s2 ha=>?_;clear m7 m9;subst m8;obtain ⟨d,hd,rv⟩:=rus.at hj;rw [am,ao] at hd;obtain ⟨wr,hwr,rfl⟩:=hd;have hjl:=(aa.mp hwr).1;have e:(zq rs (c.take (j + 1))).map oiV=(zq rs (c.take j)).map oiV ++ [oiV (wr.map (kdW rs))]:=by
    rw [aN,hwr];simp [zq]
   have lk:((zq rs (c.take j)).map oiV).length<=6:=by simp [zq];lia
   have sn:∀ (x:V),Same H (upd H2 R (.lst ((zq rs (c.take j)).map oiV ++ [x]))):=λ x b o hb=>by rw [mX (mY hb hR)];exact s2 b o hb
   cases wr with
   | none =>
    have rv:Rep H q v .non:=rv;cases rv;walk_at "a";exact ⟨.inl ⟨rfl,_,SqL.of ha⟩,iE3 R _ _ (iA5 rfl rfl ha (zk (by lia)) (iE2 _ _ (iA3 rfl (sn _) (by rw [mW,e];rfl))))⟩
   | some x =>
    obtain ⟨tx,rfl,htx⟩:=vy (b:=x) rv;refine oE2 (wk _ (ah hwr) x.1 x.2 rfl) λ jj r m7=>oA4 m7 λ ej hr' hs _=>?_;clear m7;obtain ⟨kv,hkv,hKn⟩:=Jp hK hr';refine oE6 hKn.inv λ y1 dx1 m1 m2 m3 fs1 m7=>oA9 m7 λ m8 _ _ _ _ g0 _ _ mR=>oA5 mR λ _ _ _ g3 _=>?_;clear m7 mR;subst m8;obtain ⟨g3a,g3b⟩:=g3 hs;have kp:0 < r.kinds.length:=by
     have ok:=ro r (ah hr');unfold Row.ok at ok;rw [hs] at ok;have:=ok.2.2.2.2.1
     lia
    have htx2:=s2 _ _ htx;rw [ej] at htx2;walk_at "a";refine ra (s2 _ _ hy) T.gj T.gi e2 (n6 htx2 at0 (zu (SqL.of (s2 _ _ h2)) (zE hkv) ?_));refine iE5 y1 (wo a r.wd) dx1 fs1 _ (iA6 rfl (s2 _ _ g0) (CT T _) (by rw [hs];exact T.gu) g3a ?_);walk_at "a";refine ⟨.inl ⟨rfl,_,SqL.of ha⟩,n6 htx2 rfl ?_⟩;walk_at "a";refine ⟨_,.inl ⟨_,SqL.of (s2 _ _ g3b),rfl⟩,?_⟩;rw [zy];walk_at "a";refine ⟨by lia,zu (SqL.of (s2 _ _ g3b)) (Wz x.2 kp) ?_⟩;refine iE3 R _ _ (iA5 rfl rfl ha (zk (by lia)) (iE2 _ _ (iA3 rfl (sn _) ?_)));rw [mW,e];show _=some (HO.lst (_ ++ [V.int (kdW rs x)]))
    unfold kdW;rw [ej,aB,hr']
    rfl
  ·intro σ H2 m9;refine oE2 m9 λ v3 v4 m7=>oA3 m7 λ m8 s2 ha=>?_;clear m7 m9;subst m8;rw [lu,aR] at ha;exact iE2 _ _ (iA3 rfl s2 ha)
 intro σ' H2 m9;refine oE2 m9 λ v3 v4 m7=>oA3 m7 λ m8 s2 ha=>?_;clear m7 m9;subst m8;walk_at "a";exact k R H2 s2 hR ha
def zix (R:Int) (g g' g'':A8):Prop:=g'.length=g.length/\g''.length=g.length/\g.length<=4/\∀ p:Nat,0<=g'.getD p 0 - g.getD p 0/\g'.getD p 0 - g.getD p 0<=2000/\g''.getD p 0=g.getD p 0 + R * (g'.getD p 0 - g.getD p 0)
inductive spCnts (a:Ad) (vs:Ar) (H:Hp) (Q:VK) (E:XK):Prop
 | i (yf yn yx:Addr) (nf nn nx:SN) (sf sn sx:PSt) (R:Int):vs=[.ref yf,.ref yn,.ref yx,.int R]->StO a H yf nf sf->StO a H yn nn sn->StO a H yx nx sx->sn.gone.length<=24->sf.gone.length=sn.gone.length->sx.gone.length=sn.gone.length->(∀ (k:Nat) g g' g'',sn.gone[k]?=some g->sx.gone[k]?=some g'->sf.gone[k]?=some g''->zix R g g' g'')->(∀ H',Same H H'->Q (.bl true) H')->spCnts a vs H Q E
def XE (T:Txt K mg a):Cal P w K mg base "_law_counts" 1 ["_law_far","_law_near","_law_next_one","_law_rounds"] [] (spCnts a):=T.lJ.cal λ F=>by
 refine F.okx zak ?_ ?_
 ·walk_at "i"
 walk_at "j";rcases h with ⟨yf,yn,yx,nf,nn,nx,sf,sn,sx,R,rfl,of,on,ox,l24,ef,ex,cr,k⟩;walk_at "T";refine ⟨_,(zg (ql qC rfl (jD (za (z9 zX zW (za (zj (pq 1) rfl) zb)) zb)) (qg 4 zak.nd)  (zg (JX (i:=5) zak.nd rfl (Or.inl rfl) (vars:=["_law_a","_law_b"]) (caps:=[3]) (N:=["_law_a","_law_b","_law_rounds"]) (ON:=["_law_far","_law_near","_law_next_one","_law_rounds","_law_k","_law_due"]) (osc:=ze wK) rfl rfl (by first|decide +kernel|kernel_rfl) rfl rfl (zbF (za (zo (zj (pq 1) rfl) (pq 4)) (za (zo (zj (pq 2) rfl) (pq 4)) zb))) (λ _ _ _ _=>(xA (n:=2) rfl (z8 (qg 0 (show (["_law_a","_law_b","_law_rounds"]:Aa).Nodup from by decide +kernel)) (z8 (qg 1 (show (["_law_a","_law_b","_law_rounds"]:Aa).Nodup from by decide +kernel)) jE)))) (λ _ _ _ _=>qe) (λ _ _ _ _=>(zt zJ (pq 0) (zt jM (pq 2) (zt xC (pq 1) (pq 0))))))  (zc (zD (zm (Zd hr.units1) (zo (zj (pq 0) rfl) (pq 4)) (pq 5) (zr _))  (zc (zl Wl))  zn))))  (zc (zl Wl))),?_⟩;walk_at "d";walk_at "a";have ln:nn.ags.length=sn.gone.length:=by rw [on.hg.len,qk,ai]
 refine ra on.hy T.ad T.gg rfl ⟨_,.inl ⟨_,SqL.of on.hg.out,rfl⟩,?_⟩;rw [ai,ln];refine ⟨by lia,by lia,?_⟩;refine xS (n:=((sn.gone.length:Nat):Int).toNat) (λ i σ H'=>∃ v4 v5:Option V,σ=[some (.ref yf),some (.ref yn),some (.ref yx),some (.int R),v4,v5]/\Same H H') (iE2 _ _ ⟨rfl,Same.refl _⟩) ?_ (λ σ H' h=>by obtain ⟨_,_,rfl,s⟩:=h;exact k _ s);intro i σ H1 hi m9;refine oE2 m9 λ v4 v5 m7=>oA2 m7 λ m8 s1=>?_;clear m7 m9;subst m8;rw [aB] at hi;obtain ⟨g,eg⟩:∃ g,sn.gone[i]?=some g:=⟨_,ac hi⟩;obtain ⟨g',eg'⟩:∃ g,sx.gone[i]?=some g:=⟨_,ac (by rw [ex];exact hi)⟩;obtain ⟨g2,eg2⟩:∃ g,sf.gone[i]?=some g:=⟨_,ac (by rw [ef];exact hi)⟩;refine oA4 (cr i g g' g2 eg eg' eg2) λ c1 c2 c4 cv=>?_;obtain ⟨bn,qn,hn⟩:=xE on.hg eg;obtain ⟨bx,qx,hx⟩:=xE ox.hg eg';obtain ⟨bf,qf,hf⟩:=xE of.hg eg2;have on1:=on.same s1;have ox1:=ox.same s1;have of1:=of.same s1;simp only [cZ];walk_at "e";walk_at "a";refine ra on1.hy T.ad T.gg rfl (zu (SqL.of on1.hg.out) (zE (Qh qn)) ?_);refine ra ox1.hy T.ad T.gg rfl (zu (SqL.of ox1.hg.out) (zE (Qh qx)) ?_);refine iE6 true true bn bx _ _ (iA4 rfl (SqL.of (s1 _ _ hn)) (SqL.of (s1 _ _ hx)) (λ _ _ _ _ mQ hacc=>?_));refine zfa (K:=K) (xs:=iv g) (ys:=iv g') (λ j σ H'=>∃ v0 v1:Option V,σ=[v0,v1,some (.int R)]/\Same H1 H'/\H' mQ=some (.lst (iv (g2.take j)))) (iE2 _ _ (iA3 rfl (zf hacc) (by rw [mW];rfl))) (λ j σ H' _ h=>by obtain ⟨_,_,_,s,_⟩:=h;exact ⟨SqL.of (s _ _ (s1 _ _ hn)),SqL.of (s _ _ (s1 _ _ hx))⟩) ?_ ?_
 ·intro j x y t σ H2 hj hj' ht m9;refine oE2 m9 λ v0 v1 m7=>oA3 m7 λ m8 s2 ha=>?_;clear m7 m9;subst m8;obtain ⟨u,hu,rfl⟩:=Zh hj;obtain ⟨u',hu',rfl⟩:=Zh hj';have hjl:=(aa.mp hu).1;obtain ⟨d0,d1,dv⟩:=cv j;have x2:g2[j]?=some (g2.getD j 0):=qo (by lia);rw [dv] at x2;rw [ae,ae,hu,hu',aK,aK] at d0 d1 x2;have s3:=s2.trans (zf (o:=.tup [.int u,.int u']) ht);have ha3:=zf (o:=.tup [.int u,.int u']) ht _ _ ha;refine un2 mW ?_;generalize upd H2 t (.tup [.int u,.int u'])=H3 at s3 ha3 ⊢;clear s2 ha ht;walk_at "a";refine ⟨mul_okR (by lia) (by lia),?_⟩;refine ⟨_,iA3 ha3 (zk (by rw [zy,aS];lia)) (iE2 _ _ (iA3 rfl (λ b o hb=>by rw [mX (mY hb hacc)];exact s3 b o hb) ?_))⟩;rw [mW,qI,aN,x2]
  rfl
 ·intro σ H2 m9;refine oE2 m9 λ v0 v1 m7=>oA3 m7 λ m8 s2 ha=>?_;clear m7 m9;subst m8;rw [zy,zy,c1,ee,<- c2,aR] at ha;have of2:=of1.same s2;refine ra of2.hy T.ad T.gg rfl (zu (SqL.of of2.hg.out) (zE (Qh qf)) ?_);rw [rd_nTR];refine zeu (SqL.of (s2 _ _ (s1 _ _ hf))) (SqL.of ha) (vW _) (Zr (vW _)) ?_;exact iE2 _ _ ⟨rfl,s1.trans s2⟩
def Jw {n:Nat} {x:V} (h:xF x=true) (e:eqV x x=true):DE K H n x x true:=e ▸ .flat h h
def KsL (H:Hp) (rs:Av) (cs:Aw) (G:Addr) (as:Ae):Prop:=H G=some (.lst (as.map V.ref))/\as.length=cs.length/\∀ (j:Nat) b c,as[j]?=some b->cs[j]?=some c->b≠G/\H b=some (.lst ((zq rs c).map oiV))
def KsL.push {H H':Hp} {rs:Av} {cs:Aw} {as:Ae} {c:Ax} (h:KsL H rs cs G as) (s:Same H H') (nb:H b=none) (hb:H' b=some (.lst ((zq rs c).map oiV))):KsL (upd H' G (.lst (as.map V.ref ++ [.ref b]))) rs (cs ++ [c]) G (as ++ [b]):=by
 obtain ⟨h1,h2,h3⟩:=h;have nG:b≠G:=λ z=>by rw [z,h1] at nb;cases nb
 refine ⟨by rw [mW];simp,by simp [h2],λ j b' c' e1 e2=>?_⟩;by_cases hj:j < as.length
 ·rw [aO hj] at e1;rw [aO (by lia)] at e2;obtain ⟨g1,g2⟩:=h3 j b' c' e1 e2;exact ⟨g1,by rw [mX g1];exact s _ _ g2⟩
 ·have hl:=(aa.mp e1).1;rw [aQ,cm] at hl;rw [aI (by lia),show j - as.length=0 by lia] at e1;rw [aI (by lia),show j - cs.length=0 by lia] at e2;cases e1;cases e2;exact ⟨nG,by rw [mX nG];exact hb⟩
def KsL.same {H H':Hp} {rs:Av} {cs:Aw} {as:Ae} (h:KsL H rs cs G as) (s:Same H H'):KsL H' rs cs G as:=⟨s _ _ h.1,h.2.1,λ j b c e1 e2=>⟨(h.2.2 j b c e1 e2).1,s _ _ (h.2.2 j b c e1 e2).2⟩⟩
def zhD {b b':Addr} {os:List Ab} (h1:SqL K H b (os.map oiV)) (h2:SqL K H b' (os.map oiV)):DE K H 1 (.ref b) (.ref b') true:=by
 by_cases e:b=b'
 ·rw [e];exact .same
 have:=DE.lists (K:=K) (n:=0) (e:=λ _=>true) e h1 h2 rfl λ j x y hx hy=>by
  rw [hx] at hy;cases hy;rw [am,ao] at hx;obtain ⟨o,_,rfl⟩:=hx;have z:DE K H 0 (oiV o) (oiV o) (eqV (oiV o) (oiV o)):=.flat (ZW o) (ZW o);rw [zeI,bp rfl] at z;exact z
 rw [bM.mpr (λ _ _=>rfl)] at this;exact this
def zeZ {rs:Av} {cs cs':Aw} (h:cs.map (zq rs)=cs'.map (zq rs)) {G G':Addr} {as as':Ae} (h1:KsL H rs cs G as) (h2:KsL H rs cs' G' as') (k:Q (.bl false) H):X0 K (.ref G) (.ref G') H Q:=by
 have hl:=bt List.length h;rw [ai,ai] at hl;refine zgZ (n:=1) (by decide) (SqL.of h1.1) (SqL.of h2.1) (by rw [ai,ai,h1.2.1,h2.2.1,hl]) (λ j x y e1 e2=>?_) k;rw [am,ao] at e1 e2;obtain ⟨b,hb,rfl⟩:=e1;obtain ⟨b',hb',rfl⟩:=e2;have hj:=(aa.mp hb).1;have c1:=ac (l:=cs) (i:=j) (by rw [<- h1.2.1];exact hj);have c2:=ac (l:=cs') (i:=j) (by rw [<- hl,<- h1.2.1];exact hj);have e:=bt (λ l=>l[j]?) h;simp only [am,c1,c2,b5,cD] at e;have g1:=(h1.2.2 j b _ hb c1).2;have g2:=(h2.2.2 j b' _ hb' c2).2;rw [<- e] at g2;exact zhD (SqL.of g1) (SqL.of g2)
def zcS {rs:Av} (mP:zR bs rs) (bo:∀ b∈bs,zB b.1 b.2) (ro:∀ r∈rs,r.ok) {lim i j L m:Nat} (rd:RoundAt bs rs lim i j) (ej:j - i=L) (mL:m < L) (l1000:lim<=1000) (R:Nat) (k:Nat) (g g' g'':A8) (e1:(zi bs rs (i + m)).gone[k]?=some g) (e2:(zi bs rs (i + m + L)).gone[k]?=some g') (e3:(zi bs rs (i + m + R * L)).gone[k]?=some g''):zix R g g' g'':=by
 have w1:=zH mP bo ro (i + m);have w2:=zH mP bo ro (i + m + L);have w3:=zH mP bo ro (i + m + R * L);obtain ⟨r,er⟩:∃ r,rs[k]?=some r:=⟨_,ac (by rw [<- w1.go.1];exact (aa.mp e1).1)⟩;obtain ⟨l1,q1⟩:=w1.go.2 k _ g er e1;have l2:=(w2.go.2 k _ g' er e2).1;have l3:=(w3.go.2 k _ g'' er e3).1;have rl:=xz (ro _ (ah er));have c4:(qF r).length<=4:=by rw [qF,bd];lia
 refine ⟨l2.trans l1.symm,l3.trans l1.symm,by rw [l1];exact c4,λ p=>?_⟩;have p0:0<=g.getD p 0:=by
  by_cases h:p < g.length
  ·exact q1 _ (ah (qo h))
  ·rw [ae,aZ (by lia)];exact bL 0
 have gd:∀ {n:Nat} {h:A8},(zi bs rs n).gone[k]?=some h->h.getD p 0=gAt (zi bs rs n).gone k p:=λ {n h} e=>by unfold gAt;rw [ae (l:=(zi bs rs n).gone),e];rfl
 rw [gd e1] at p0;rw [gd e1,gd e2,gd e3];have lt:=rd.lt;have le:=rd.le;have a1:=(ZV (Vz mP bo ro rd R).1 mP bo ro m).2 k p;have a2:=(Vz mP bo ro rd R).2 k p;have b1:=(ZV (Vz mP bo ro rd 1).1 mP bo ro m).2 k p;have b2:=(Vz mP bo ro rd 1).2 k p;have m0:=vP bs rs (i + m) k p L;have up:=Jn bs rs k p (i + m + L);change gAt _ k p<=gAt _ k p at m0;rw [ej,show i + R * L + m=i + m + R * L by lia] at a1;rw [ej] at a2;rw [ej,Nat.one_mul,show i + L + m=i + m + L by lia] at b1;rw [ej,Nat.one_mul,show i + L=j by lia] at b2;rw [show i + L=j by lia] at b1;generalize gAt (zi bs rs (i + m)).gone k p=x1 at *;generalize gAt (zi bs rs (i + m + L)).gone k p=x2 at *;generalize gAt (zi bs rs (i + m + R * L)).gone k p=x3 at *;generalize gAt (zi bs rs (i + R * L)).gone k p=x4 at *;generalize gAt (zi bs rs i).gone k p=x5 at *;generalize gAt (zi bs rs j).gone k p=x6 at *;have e:x2 - x1=x6 - x5:=by lia
 refine ⟨by lia,by lia,?_⟩;rw [e];generalize (R:Int) * (x6 - x5)=z at *
 lia
def zaw {rs:Av} (mP:zR bs rs) (bo:∀ b∈bs,zB b.1 b.2) (ro:∀ r∈rs,r.ok) (p q:Nat):(zi bs rs p).cells.length<=24/\(∀ c∈(zi bs rs p).cells,c.length<=6)/\(zi bs rs q).cells.length<=24/\(∀ c∈(zi bs rs q).cells,c.length<=6/\∀ wr∈c,zcT (zi bs rs p) wr):=by
 have w0:=zH mP bo ro p;have w1:=zH mP bo ro q;have b24:=mP.1.1.2;have c6:∀ {st:PSt},stWf bs rs st->∀ c∈st.cells,c.length<=6/\∀ wr∈c,xX rs wr:=λ {st} w c hc=>by
  obtain ⟨k,hk⟩:=br hc;have eb:=ac (l:=bs) (i:=k) (by rw [<- w.co.1];exact (aa.mp hk).1);obtain ⟨h1,h2⟩:=w.co.2 k _ c eb hk;have:=(bo _ (ah eb)).2.1;exact ⟨by lia,h2⟩
 refine ⟨by rw [w0.co.1];exact b24,λ c hc=>(c6 w0 c hc).1,by rw [w1.co.1];exact b24,λ c hc=>⟨(c6 w1 c hc).1,λ wr hw x ex=>?_⟩⟩;obtain ⟨q,r,e1,hr',_⟩:=(c6 w1 c hc).2 wr hw x.1 x.2 (by rw [ex]);obtain ⟨g,eg⟩:∃ g,(zi bs rs p).gone[q]?=some g:=⟨_,ac (by rw [w0.go.1];exact (aa.mp hr').1)⟩;have h1:=(w0.go.2 q r g hr' eg).1;have h2:=xG (ro r (ah hr'));cases g with
 | nil=>rw [<- h1] at h2;exact absurd h2.1 (Nat.not_succ_le_zero 0)
 | cons g0 gs=>exact ⟨q,g0,gs,e1,eg⟩
def zcO {t1 t2:Addr} {x:Str} (h1:H t1=some (.tup [.str x,.int k,.int m])) (h2:H t2=some (.tup [.str x,.int k,.int m])):DE K H 1 (.ref t1) (.ref t2) true:=by
 by_cases e:t1=t2
 ·rw [e];exact .same
 ·refine DE.tuples (n:=0) (e:=λ _=>true) e (SqT.of h1) (SqT.of h2) λ j u v hu hv=>?_;rw [hu] at hv;cases hv;have:u∈[V.str x,.int k,.int m]:=ah hu;simp only [az,bV,cB] at this;rcases this with rfl|rfl|rfl
  ·exact Jw rfl (by simp [eqV])
  ·exact Jw rfl (by simp [eqV])
  ·exact Jw rfl (by simp [eqV])
def zhC {p q:A7} {o:Org} {u v:V} (h1:Rep H p u (Vs o)) (h2:Rep H q v (Vs o)):DE K H 1 u v true:=by
 cases o with
 | no =>
  have h1:Rep H p u .non:=h1;have h2:Rep H q v .non:=h2;cases h1;cases h2;exact Jw rfl rfl
 | kept b p' =>
  obtain ⟨t1,rfl,g1⟩:=zc6 (k:=b) (m:=p') h1;obtain ⟨t2,rfl,g2⟩:=zc6 (k:=b) (m:=p') h2;exact zcO g1 g2
 | new k m =>
  obtain ⟨t1,rfl,g1⟩:=zc6 (k:=k) (m:=m) h1;obtain ⟨t2,rfl,g2⟩:=zc6 (k:=k) (m:=m) h2;exact zcO g1 g2
def zfZ {p q:A7} {oss:List (List Org)} {l l':Addr} (h1:Rep H p (.ref l) (Wo oss)) (h2:Rep H q (.ref l') (Wo oss)) (k:Q (.bl true) H):Vo K (.ref l) (.ref l') H Q:=by
 obtain ⟨l1,us,e1,_,g1,r1⟩:=Rep.lst' h1;obtain ⟨l2,vs,e2,_,g2,r2⟩:=Rep.lst' h2;cases e1;cases e2;refine .inr (.inr ⟨l,l',us,vs,2,λ _=>true,rfl,rfl,by decide,λ j x y hx hy=>?_,.inl ⟨SqL.of g1,SqL.of g2,by rw [r1.len,r2.len],by rw [bM.mpr (λ _ _=>rfl)];exact k⟩⟩);obtain ⟨d,hd,rx⟩:=r1.at hx;obtain ⟨d',hd',ry⟩:=r2.at hy;rw [hd] at hd';cases hd';rw [am,ao] at hd;obtain ⟨os,_,rfl⟩:=hd;obtain ⟨a1,ws,rfl,_,f1,s1⟩:=Rep.lst' rx;obtain ⟨a2,zs,rfl,_,f2,s2⟩:=Rep.lst' ry;by_cases e:a1=a2
 ·rw [e];exact .same
 have:=DE.lists (K:=K) (n:=1) (e:=λ _=>true) e (SqL.of f1) (SqL.of f2) (by rw [s1.len,s2.len]) λ i x y hx hy=>by
  obtain ⟨d,hd,rx⟩:=s1.at hx;obtain ⟨d',hd',ry⟩:=s2.at hy;rw [hd] at hd';cases hd';rw [am,ao] at hd;obtain ⟨o,_,rfl⟩:=hd;exact zhC rx ry
 rw [bM.mpr (λ _ _=>rfl)] at this;exact this
def V2 (K:A0):Sp:=λ vs H Q _=>∃ (l:Addr) (ns:A8),vs=[.ref l]/\SqL K H l (ns.map V.int)/\ns.length<=63/\∀ H',Q (.bl true) H'
def zhe (T:Txt K mg a) (F:Fun K "law" "law" ZO f fd):FnOk P w K mg base (CXr P w) 11 f fd ["_law_script"] (V2 K):=by
 refine F.okx zgW ?_ ?_
 ·walk_at "i"
 walk_at "j";refine oE2 h λ l ns m7=>oA4 m7 λ m8 hl hn k=>?_;clear m7 h;subst m8;walk_at "T";refine ⟨_,(zh (JW (i:=1) zgW.nd rfl (Or.inr rfl) (zx ⟨rfl,rfl,rfl⟩ hr (za (pq 0) zb)))  (zh (zp 2 zgW.nd (zx ⟨rfl,rfl,rfl⟩ hr (za (pq 0) (za (pq 1) zb))))  (zh (zp 3 zgW.nd (zx ⟨rfl,rfl,rfl⟩ hr (za (pq 1) (za (pq 2) zb))))  (zh (zD (zm je (pq 3) zG (zr _))  (zc (zl Wl))  zn)  (zh (zp 4 zgW.nd (zx ⟨rfl,rfl,rfl⟩ hr (za (pq 0) (za (zt xC zbG zd) zb))))  (zh (zp 5 zgW.nd (zx ⟨rfl,rfl,rfl⟩ hr (za (pq 1) (za (zt zJ (zo (pq 3) zd) (zt qq (pq 4) (zo (pq 3) zd))) zb))))  (zh (zp 6 zgW.nd (zt Vx (pq 4) (zo (pq 3) zd)))  (zh (zp 7 zgW.nd (pq 5))  (qd (ql qC rfl (jD (za (zo (pq 3) zd) zb)) (qg 8 zgW.nd)  (zc (zp 7 zgW.nd (zx ⟨rfl,rfl,rfl⟩ hr (za (pq 1) (za (pq 7) zb))))))  (zh (zp 9 zgW.nd (zx ⟨rfl,rfl,rfl⟩ hr (za (pq 1) (za (zt zJ (zj (pq 5) rfl) (zt jM (pq 6) (zo (pq 3) zd))) (za (pq 2) zb)))))  (zh (zp 10 zgW.nd (zx ⟨rfl,rfl,rfl⟩ hr (za (pq 1) (za (zt zJ (zj (pq 5) rfl) (zt jM (zt zJ (pq 6) zd) (zo (pq 3) zd))) (za (pq 2) zb)))))  (zh (zD (PW.pt (pw_or (jC (jc (z9 XF jp (za (pq 9) (za wl zb))) (λ _=>rfl))) (pw_or (zm (Zd hr.units1) (zj (pq 9) rfl) (zt zJ (zj (pq 5) rfl) (zt jM (pq 6) (zo (pq 3) zd))) (zr _)) (pw_or1 (zm (Zd hr.units1) (zj (pq 9) rfl) (zj (pq 5) rfl) (zr _))))))  (zc (zl Wl))  zn)  (zh (zD (zm (Zd hr.units1) (jG (vars:=["_law_cells"]) (caps:=[1]) (N:=["_law_cells","_law_work_here"]) (ON:=["_law_script","_law_work_here","_law_limit_here","_law_found","_law_turns","_law_near","_law_rounds","_law_next_one","_law_turn","_law_far","_law_later"]) (osc:=ze ZO) rfl rfl (by first|decide +kernel|kernel_rfl) rfl rfl (qm (zj (pq 9) rfl)) (λ _ _ _ _=>(qg 0 (show (["_law_cells","_law_work_here"]:Aa).Nodup from by decide +kernel))) (λ _ _ _ _=>qe) (λ _ _ _ _=>(vv hr (za (pq 1) (za (pq 0) zb))))) (jG (vars:=["_law_cells"]) (caps:=[1]) (N:=["_law_cells","_law_work_here"]) (ON:=["_law_script","_law_work_here","_law_limit_here","_law_found","_law_turns","_law_near","_law_rounds","_law_next_one","_law_turn","_law_far","_law_later"]) (osc:=ze ZO) rfl rfl (by first|decide +kernel|kernel_rfl) rfl rfl (qm (zj (pq 5) rfl)) (λ _ _ _ _=>(qg 0 (show (["_law_cells","_law_work_here"]:Aa).Nodup from by decide +kernel))) (λ _ _ _ _=>qe) (λ _ _ _ _=>(vv hr (za (pq 1) (za (pq 0) zb))))) (zr _))  (zc (zl Wl))  zn)  (zh (zD (PW.pt (pw_or (jC (jc (zx ⟨rfl,rfl,rfl⟩ hr (za (pq 9) (za (pq 5) (za (pq 7) (za (pq 6) zb))))) (λ _=>rfl))) (pw_or1 (jC (jc (zx ⟨rfl,rfl,rfl⟩ hr (za (pq 10) (za (pq 5) (za (pq 7) (za (zt zJ (pq 6) zd) zb))))) (λ _=>rfl))))))  (zc (zl Wl))  zn)  (zc (zl (Vp (zgE hr.units1) (zx ⟨rfl,rfl,rfl⟩ hr (za (pq 9) (za (pq 10) zb))) (zx ⟨rfl,rfl,rfl⟩ hr (za (pq 5) (za (pq 7) zb))) (zr _)))))))))))))))))),?_⟩;walk_at "a";refine uc (zfm T).mono (spWorkOf.i l ns rfl hl (λ vw H1 bs rs s1 hw mP bo ro=>?_));have hl1:=JB s1 hl;clear s1 hl hn;walk_at "a";refine uc (zdW T).mono (spLimit.i l ns vw bs rs _ rfl hl1 hw (λ lim l1000=>?_));walk_at "a";refine uc (zdV T).mono (iE4 vw lim bs rs (iA7 rfl hw mP bo ro l1000 (λ v H2 s2 r2=>?_)));have hw2:=hw.same s2;have hl2:=JB s2 hl1;clear hw s2 hl1;rcases r2 with ⟨nr,rfl⟩|⟨i,j,tf,rd,rfl,htf⟩
 ·walk_at "a";exact k _
 have lt:=rd.lt;have le:=rd.le;obtain ⟨L,eL⟩:∃ L:Nat,(j:Int) - i=L:=⟨j - i,by lia⟩;have ej:j - i=L:=by lia
 have L1:0 < L:=by lia
 have L2':L<=1000:=by lia
 rw [eL] at htf;have t0:atI [V.int i,.int L] 0=some (.int i):=rfl;have t1:atI [V.int i,.int L] 1=some (.int L):=rfl;walk_at "a";refine uc (zfn T).mono (spFold.i l ns _ rfl hl2 (by decide) (λ n1 p1=>?_));obtain ⟨n,rfl⟩:∃ n:Nat,n1=n:=⟨n1.toNat,by lia⟩;clear p1 hl2;walk_at "a";refine uc (za1 T).mono (n6 htf t0 (n6 htf t1 ?_));walk_at "a";obtain ⟨m,em,mL⟩:∃ m:Nat,(n:Int) % L=m/\m < L:=⟨n % L,by rw [du],c8 _ L1⟩;obtain ⟨R,eR⟩:∃ R:Nat,(n:Int).fdiv L=R:=⟨n / L,by rw [db _ (by lia)];rfl⟩;rw [em];refine ⟨by lia,iE4 vw (i + m) bs rs (iA7 (by simp) hw2 mP bo ro (by lia) (λ v3 H3 s3 sn=>?_))⟩;refine oE2 sn λ y1 n1 m7=>oA3 m7 λ m8 so1 _=>?_;clear m7 sn;subst m8;have hw3:=hw2.same s3;have ht3:=s3 _ _ htf;clear hw2 htf s3 em;walk_at "a";refine n6 ht3 t1 ⟨fd_small (by lia) (by lia),?_⟩;rw [eR];clear eR;walk_at "a";let mS:St->Hp->Prop:=λ σ' H'=>∃ (y2:Addr) (n2:SN) (v8:As),σ'=[some (.ref l),some vw,some (.int lim),some (.ref tf),some (.int n),some (.ref y1),some (.int R),some (.ref y2),v8,none,none]/\Same H3 H'/\StO a H' y2 n2 (zi bs rs (i + m + L));refine cut mS ?_ ?_
 ·walk_at "d";walk_at "a";refine n6 ht3 t1 ⟨by lia,by lia,?_⟩;refine xS (n:=(L:Int).toNat) (λ q σ H'=>∃ (y2:Addr) (n2:SN) (v8:As),σ=[some (.ref l),some vw,some (.int lim),some (.ref tf),some (.int n),some (.ref y1),some (.int R),some (.ref y2),v8,none,none]/\Same H3 H'/\StO a H' y2 n2 (zi bs rs (i + m + q))) (iE3 y1 n1 _ (iA3 rfl (Same.refl _) so1)) ?_ (λ σ H' h=>by rw [aB] at h;exact h);intro q σ H4 hq m9;refine oE3 m9 λ y2 n2 v8 m7=>oA3 m7 λ m8 s4 so2=>?_;clear m7 m9;subst m8;walk_at "a";refine uc (Xz T).mono (spOneTurn.i vw (.ref y2) _ bs rs _ rfl (hw3.same s4) so2.rep (zH mP bo ro (i + m + q)) mP bo ro (λ v5 H5 s5 sn5=>?_));refine oE2 sn5 λ y5 n5 m7=>oA3 m7 λ m8 so5 _=>?_;clear m7 sn5;subst m8;exact iE3 y5 n5 _ (iA3 rfl (s4.trans s5) so5)
 intro σ' H4 m9;refine oE3 m9 λ y2 n2 v8 m7=>oA3 m7 λ m8 s4 so2=>?_;clear m7 m9;subst m8;have hw4:=hw3.same s4;have ht4:=s4 _ _ ht3;have so1:=so1.same s4;clear hw3 ht3 s4;walk_at "a";refine uc (zcW T).mono (ra so1.hy T.ad T.dl rfl (n6 ht4 t1 ⟨mul_okR (by lia) (by lia),?_⟩));rw [qt,rd_addI,show ((i + m:Nat):Int) + (R:Int) * L=((i + m + R * L:Nat):Int) by simp];refine iE5 vw (i + m + R * L) lim bs rs (iA8 rfl hw4 mP bo ro l1000 (λ i2 j2 v2 H5 rd2 s5 sn=>?_) (λ nr=>absurd nr rd.no));refine oE2 sn λ y3 n3 m7=>oA3 m7 λ m8 so3 _=>?_;clear m7 sn;subst m8;have hw5:=hw4.same s5;have ht5:=s5 _ _ ht4;have so1:=so1.same s5;have so2:=so2.same s5;clear hw4 ht4 s5 rd2;walk_at "a";refine uc (zcW T).mono (ra so1.hy T.ad T.dl rfl (n6 ht5 t1 ⟨mul_okR (by lia) (by lia),?_⟩));rw [qt,rd_addI,show ((i + m:Nat):Int) + ((R:Int) + 1) * L=((i + m + (R + 1) * L:Nat):Int) by simp];refine iE5 vw (i + m + (R + 1) * L) lim bs rs (iA8 rfl hw5 mP bo ro l1000 (λ i2 j2 v2 H6 rd2 s6 sn=>?_) (λ nr=>absurd nr rd.no));refine oE2 sn λ y4 n4 m7=>oA3 m7 λ m8 so4 _=>?_;clear m7 sn;subst m8;have hw6:=hw5.same s6;have ht6:=s6 _ _ ht5;have so1:=so1.same s6;have so2:=so2.same s6;have so3:=so3.same s6;clear hw5 ht5 s6 rd2;have al:=(ZV (Vz mP bo ro rd R).1 mP bo ro m).1;rw [ej,show i + R * L + m=i + m + R * L by lia] at al;walk_at "a";refine iE2 (.ref a.b) _ (iA3 T.lO rfl (iE4 _ _ _ _ (iA4 rfl (T.mz.ty T.ad so3.hy) (.inl ⟨_,rfl,T.ke⟩) ?_)));walk_at "a";refine ra so3.hy T.ad T.dl rfl (ra so1.hy T.ad T.dl rfl (n6 ht6 t1 ⟨mul_okR (by lia) (by lia),?_⟩));rw [qt,qt,rd_addI,show ((i + m:Nat):Int) + (R:Int) * L=((i + m + R * L:Nat):Int) by simp,rd_nTI,ap (λ z=>z rfl)];walk_at "a";refine ra so3.hy T.ad T.gm rfl (ra so1.hy T.ad T.gm rfl ?_);have hs3:=so3.hs;rw [<- al.si] at hs3;rw [rd_nTR];refine zeu (SqL.of hs3) (SqL.of so1.hs) (vW _) (Zr (vW _)) ?_;clear hs3;walk_at "a";walk_at "e";walk_at "a";have wf3:=zH mP bo ro (i + m + R * L);have wf1:=zH mP bo ro (i + m);have b24:=mP.1.1.2;refine ra so3.hy T.ad T.gf rfl ⟨n3.lc,rfl,.inl ⟨⟨_,SqL.of so3.hc.out⟩,λ _ _ _ _ A1 hA1=>?_⟩⟩;refine qM (K:=K) (a:=n3.lc) (xs:=n3.acs.map V.ref) (λ i_ σ H'=>∃ (v0:As) (as:Ae),σ=[v0,some vw]/\Same H6 H'/\KsL H' rs ((zi bs rs (i + m + R * L)).cells.take i_) A1 as) (iE2 _ ([]) (iA5 rfl (zf hA1) mW rfl (λ j b c e=>nomatch e))) (λ i_ σ H' _ h=>by obtain ⟨_,_,_,s,_⟩:=h;exact SqL.of (s _ _ so3.hc.out)) ?_ ?_
 ·intro q x σ H7 hq m9;refine oE2 m9 λ v0 as m7=>oA3 m7 λ m8 s7 ks=>?_;clear m7 m9;subst m8;rw [am,ao] at hq;obtain ⟨b,hb,rfl⟩:=hq;have hql:q < (zi bs rs (i + m + R * L)).cells.length:=by have:=(aa.mp hb).1;rw [so3.hc.len,zI,ai] at this;exact this
  have ec:=ac hql;obtain ⟨us,hu,ru⟩:=so3.hc.g q b _ hb (show (zI (zi bs rs (i + m + R * L)).cells)[q]?=some ((zi bs rs (i + m + R * L)).cells[q].map qa) by rw [zI,am,ec];rfl);have eb:=ac (l:=bs) (i:=q) (by rw [<- wf3.co.1];exact hql);obtain ⟨lc,wk⟩:=wf3.co.2 q _ _ eb ec;have bk:=(bo _ (ah eb)).2.1;walk_at "a";refine uc (WL T).mono (spKindsL.i vw b us bs rs _ _ _ rfl (hw6.same s7) (s7 _ _ hu) (ru.keep λ b o _ hb=>⟨trivial,s7 b o hb⟩:Reps H7 (λ _=>True) us _) wk ro (by lia) (λ b2 H8 s8 nb hb2=>?_));have la:as.length<=24:=by rw [ks.2.1,aS,wf3.co.1];exact ba (Nat.min_le_right _ _) b24
  exact ⟨_,iA3 (s8 _ _ ks.1) (zk (by rw [ai];lia)) (iE2 _ (as ++ [b2]) (iA3 rfl (λ b o hb=>by rw [mX (mY hb hA1)];exact s8 _ _ (s7 b o hb)) (by rw [aN,ec];exact ks.push s8 nb hb2)))⟩
 intro σ H7 m9;refine oE2 m9 λ v0 as m7=>oA3 m7 λ m8 s7 ks=>?_;clear m7 m9;subst m8;rw [ai,so3.hc.len,zI,ai,aR] at ks;have hw7:=hw6.same s7;have ht7:=s7 _ _ ht6;have so1:=so1.same s7;have so2:=so2.same s7;have so3:=so3.same s7;have so4:=so4.same s7;clear hw6 ht6 s7 hA1;refine ra so1.hy T.ad T.gf rfl ⟨n1.lc,rfl,.inl ⟨⟨_,SqL.of so1.hc.out⟩,λ _ _ _ _ A2 hA2=>?_⟩⟩;refine qM (K:=K) (a:=n1.lc) (xs:=n1.acs.map V.ref) (λ i_ σ H'=>∃ (v0:As) (as:Ae),σ=[v0,some vw]/\Same H7 H'/\KsL H' rs ((zi bs rs (i + m)).cells.take i_) A2 as) (iE2 _ ([]) (iA5 rfl (zf hA2) mW rfl (λ j b c e=>nomatch e))) (λ i_ σ H' _ h=>by obtain ⟨_,_,_,s,_⟩:=h;exact SqL.of (s _ _ so1.hc.out)) ?_ ?_
 ·intro q x σ H7 hq m9;refine oE2 m9 λ v0 as m7=>oA3 m7 λ m8 s7 ks=>?_;clear m7 m9;subst m8;rw [am,ao] at hq;obtain ⟨b,hb,rfl⟩:=hq;have hql:q < (zi bs rs (i + m)).cells.length:=by have:=(aa.mp hb).1;rw [so1.hc.len,zI,ai] at this;exact this
  have ec:=ac hql;obtain ⟨us,hu,ru⟩:=so1.hc.g q b _ hb (show (zI (zi bs rs (i + m)).cells)[q]?=some ((zi bs rs (i + m)).cells[q].map qa) by rw [zI,am,ec];rfl);have eb:=ac (l:=bs) (i:=q) (by rw [<- wf1.co.1];exact hql);obtain ⟨lc,wk⟩:=wf1.co.2 q _ _ eb ec;have bk:=(bo _ (ah eb)).2.1;walk_at "a";refine uc (WL T).mono (spKindsL.i vw b us bs rs _ _ _ rfl (hw7.same s7) (s7 _ _ hu) (ru.keep λ b o _ hb=>⟨trivial,s7 b o hb⟩:Reps H7 (λ _=>True) us _) wk ro (by lia) (λ b2 H8 s8 nb hb2=>?_));have la:as.length<=24:=by rw [ks.2.1,aS,wf1.co.1];exact ba (Nat.min_le_right _ _) b24
  exact ⟨_,iA3 (s8 _ _ ks.1) (zk (by rw [ai];lia)) (iE2 _ (as ++ [b2]) (iA3 rfl (λ b o hb=>by rw [mX (mY hb hA2)];exact s8 _ _ (s7 b o hb)) (by rw [aN,ec];exact ks.push s8 nb hb2)))⟩
 intro σ H8 m9;refine oE2 m9 λ v0 as2 m7=>oA3 m7 λ m8 s8 ks2=>?_;clear m7 m9;subst m8;rw [ai,so1.hc.len,zI,ai,aR] at ks2;have hw8:=hw7.same s8;have so1:=so1.same s8;have so2:=so2.same s8;have so3:=so3.same s8;have so4:=so4.same s8;refine zeZ ?_ (ks.same s8) ks2 ?_
 ·exact al.ce.symm
 clear hw7 ht7 s8 hA2 ks ks2;walk_at "a";have r24:=mP.1.2.2;have wf2:=zH mP bo ro (i + m + L);have wf4:=zH mP bo ro (i + m + (R + 1) * L);refine uc (XE T).mono (spCnts.i y3 y1 y2 n3 n1 n2 _ _ _ R rfl so3 so1 so2 (by rw [wf1.go.1];exact r24) (by rw [wf3.go.1,wf1.go.1]) (by rw [wf2.go.1,wf1.go.1]) (zcS mP bo ro rd ej mL l1000 R) (λ H9 s9=>?_));have so1:=so1.same s9;have so2:=so2.same s9;have so3:=so3.same s9;have so4:=so4.same s9;clear s9;walk_at "a";refine uc (XE T).mono (spCnts.i y4 y1 y2 n4 n1 n2 _ _ _ ((R:Int) + 1) rfl so4 so1 so2 (by rw [wf1.go.1];exact r24) (by rw [wf4.go.1,wf1.go.1]) (by rw [wf2.go.1,wf1.go.1]) (λ k g g' g'' h1 h2 h3=>zcS mP bo ro rd ej mL l1000 (R + 1) k g g' g'' h1 h2 h3) (λ H10 s10=>?_));have so1:=so1.same s10;have so2:=so2.same s10;have so3:=so3.same s10;have so4:=so4.same s10;clear s10;walk_at "a";refine oA4 (zaw mP bo ro (i + m + R * L) (i + m + (R + 1) * L)) λ o1 o2 o3 o4=>?_;refine oA4 (zaw mP bo ro (i + m) (i + m + L)) λ o5 o6 o7 o8=>?_;refine uc (wV T).mono (spOrigins.i y3 y4 n3 n4 _ _ rfl so3 so4 o1 o2 o3 o4 (λ l3 H11 oss s11 ro3 ok3=>?_));refine uc (wV T).mono (spOrigins.i y1 y2 n1 n2 _ _ rfl (so1.same s11) (so2.same s11) o5 o6 o7 o8 (λ l4 H12 oss' s12 ro4 ok4=>?_));have sm:=J0 mP bo ro (zep al) L;rw [show i + m + R * L + L=i + m + (R + 1) * L by rw [d9];lia] at sm;obtain ⟨u1,v1⟩:=Jm mP bo ro (i + m);obtain ⟨u2,v2⟩:=Jm mP bo ro (i + m + R * L);cases zdu u1 u2 v1 v2 sm ok4 ok3;exact zfZ (jb ro3 s12) ro4 (k _)
theorem top_ok (T:Txt K mg a) (F:Fun K "law" "law" ZO f fd):FnOk P w K mg base (CXr P w) 11 f fd ["_law_script"] (V2 K):=zhe T F
end
local macro_rules | `(tactic| walk_at "b")=>`(tactic| first|((repeat intro _);rfl))
def zfs:Nat->(List Value->Prop)->Prop
 | 0,P=>P []
 | n + 1,P=>∀ x,zfs n λ l=>P (x :: l)
def xV {n:Nat}:∀ {P:List Value->Prop},zfs n P->∀ us:List Value,us.length=n->P us:=by
 induction n with
 | zero =>
  intro P h us e;cases us with
  | nil=>exact h
  | cons=>cases e
 | succ n ih =>
  intro P h us e;cases us with
  | nil=>cases e
  | cons x r=>exact ih (h x) r (Nat.succ.inj e)
abbrev NNy (K:A0) (x:Str):Prop:=nsIn K mainGlobals x=some none
abbrev NRy (K:A0) (x:Str) (f:Addr):Prop:=nsIn K mainGlobals x=some (some (.ref f))
abbrev FHy (K:A0) (x:Str) (st:Stmt):Prop:=∃ (f:Addr) (oc:Ao) (od an:Ac) (osl:Ag) (kV doc pm cdv ct:Ao),nsIn K mainGlobals x=some (some (.ref f))/\K.lookup f=some ⟨oc,od,.func (fnOf x x (z6 st) (zV st) (ze st) .none kV doc pm an cdv ct),osl⟩/\codeIn K cdv x=true/\keepIn K (.ref f)=true
def fhy {x:Str} {st:Stmt} {f:Addr} {oc:Ao} {od an:Ac} {osl:Ag} {kV doc pm cdv ct:Ao} (a:nsIn K mainGlobals x=some (some (.ref f))) (l:K.lookup f=some ⟨oc,od,.func (fnOf x x (z6 st) (zV st) (ze st) .none kV doc pm an cdv ct),osl⟩) (c:codeIn K cdv x=true) (k:keepIn K (.ref f)=true):FHy K x st:=⟨_,_,_,_,_,_,_,_,_,_,a,l,c,k⟩
def qw {mg:A6} {h:Heap} {x:Str} {st:Stmt} (X:K.In h) (G:h.Ns mainGlobals mg) (y:FHy K x st) (hb:∀ (kV doc pm:Ao) (an:Ac) (cdv ct:Ao),zfs ps.length λ us=>bindArgs (fnOf x x (z6 st) (zV st) (ze st) .none kV doc pm an cdv ct) ⟨us,[]⟩=pure (ps.zip us):=by walk_at "b"):FA K mg x st ps:=by
 obtain ⟨_,_,_,_,_,_,_,_,_,_,a,l,c,k⟩:=y;exact zim X G a l c k λ _ _ _ _ _ _=>xV (hb _ _ _ _ _ _)
abbrev CHy (K:A0) (C:Addr):Prop:=plainGet K C Str.empty=true/\hasDictIn K C=true/\plainOver K C=true/\findIn K (.ref C) "__setattr__"=some (some (.builtin "object.__setattr__"))/\makesIn K C=true/\keepIn K (.ref C)=true/\findIn K (.ref C) "__class__"=some (some (.builtin "object.__class__"))/\mroIn K C (.type "object")=some true
def CHy.c (h:CHy K C):Cls K C:=⟨h.1,h.2.1,h.2.2.1,h.2.2.2.1⟩
def CHy.w (h:CHy K C) (g:specialIn K (.builtin "object.__class__") "__get__"=some (some (.builtin "getset_descriptor.__get__"))) (t:takesIn K (.builtin "object.__class__")=some true):WI K C:=⟨h.2.2.2.2.2.2.1,h.2.2.2.2.2.2.2,g,t⟩
abbrev MHy (K:A0) (C:Addr) (m q:Str) (st:Stmt):Prop:=∃ (f:Addr) (oc:Ao) (od an:Ac) (osl:Ag) (kV doc pm cdv ct:Ao),findIn K (.ref C) m=some (some (.ref f))/\isFn K (.ref f)=true/\K.lookup f=some ⟨oc,od,.func (fnOf m q (z6 st) (zV st) (ze st) .none kV doc pm an cdv ct),osl⟩/\codeIn K cdv q=true/\keepIn K (.ref f)=true
def mhy {m q:Str} {st:Stmt} {f:Addr} {oc:Ao} {od an:Ac} {osl:Ag} {kV doc pm cdv ct:Ao} (a:findIn K (.ref C) m=some (some (.ref f))) (i:isFn K (.ref f)=true) (l:K.lookup f=some ⟨oc,od,.func (fnOf m q (z6 st) (zV st) (ze st) .none kV doc pm an cdv ct),osl⟩) (c:codeIn K cdv q=true) (k:keepIn K (.ref f)=true):MHy K C m q st:=⟨_,_,_,_,_,_,_,_,_,_,a,i,l,c,k⟩
def x9 {m q:Str} {st:Stmt} (y:MHy K C m q st) (hb:∀ (kV doc pm:Ao) (an:Ac) (cdv ct:Ao),zfs ps.length λ us=>bindArgs (fnOf m q (z6 st) (zV st) (ze st) .none kV doc pm an cdv ct) ⟨us,[]⟩=pure (ps.zip us):=by walk_at "b"):FM K C m q st ps:=by
 obtain ⟨_,_,_,_,_,_,_,_,_,_,a,i,l,c,k⟩:=y;exact zii a i l c k λ _ _ _ _ _ _=>xV (hb _ _ _ _ _ _)
def X7 {q:Str} {st:Stmt} (z:CHy K C) (y:MHy K C "__init__" q st) (hb:∀ (kV doc pm:Ao) (an:Ac) (cdv ct:Ao),zfs ps.length λ us=>bindArgs (fnOf "__init__" q (z6 st) (zV st) (ze st) .none kV doc pm an cdv ct) ⟨us,[]⟩=pure (ps.zip us):=by walk_at "b"):FK K C q st ps:=by
 obtain ⟨_,_,_,_,_,_,_,_,_,_,a,i,l,c,k⟩:=y;exact zij z.2.2.2.2.1 z.2.2.2.2.2.1 a i l c k λ _ _ _ _ _ _=>xV (hb _ _ _ _ _ _)
theorem all_mk {l:PySem.W.OpenLaw} {w:World} {h:Heap} {mg:A6} {fa fL f24 ya f29 yb yc yd ye yg yh yi yj yk ym yo yp yq yr yt yu yv yy:Addr} (X:K.In h) (G:h.Ns mainGlobals mg) (hfa:mg "law"=some (.ref fa))
  {yz yA yB yC odL anL yD yE:Ac} {yF yG slL yH:Ag} {yI yJ yK yL yM yN yO yP yQ yR yS yT ocL kVL dcL pmL cdL ctL yU yV yW yX yY yZ:Ao}
  {y8 y9:Ao} {yaa yba:Ac} {yca yda:Nat} {yea yfa:Ag} {yga yha:Tok}
  {yia yja yka yla yma yna yoa:Tok}
  (h1:FHy K "kind_of" Qu)
  (h2:FHy K "no_counts" vn)
  (h3:FHy K "empty_state" jo)
  (h4:FHy K "copied_state" xr)
  (h5:FHy K "check_pace" wG)
  (h6:FHy K "check_kind" wH)
  (h7:FHy K "check_ways" wE)
  (h8:FHy K "first_place" xZ)
  (h9:FHy K "place_for_ware" jK)
  (h10:FHy K "heads_of" xq)
  (h11:FHy K "taken_ware" wy)
  (h12:FHy K "belt_at" Qv)
  (h13:FHy K "counted_place" jY)
  (h14:FHy K "act" zal)
  (h15:FHy K "act_all" Qw)
  (h16:FHy K "move_belt" vo)
  (h17:FHy K "pass_turn" xI)
  (h18:FHy K "one_turn" Zx)
  (h19:FHy K "played" JQ)
  (h20:FHy K "kinds_in" wC)
  (h21:FHy K "kind_place" wD)
  (h22:FHy K "shape_of" xp)
  (h23:FHy K "round_ends" wz)
  (a24:nsIn K mainGlobals "round_of"=some (some (.ref f24))) (l24:K.lookup f24=some ⟨yI,yz,.func (fnOf "round_of" "round_of" (z6 js) (zV js) (ze js) (.ref ya) yJ yK yL yA yM yN),yF⟩) (c24:codeIn K yM "round_of"=true) (k24:keepIn K (.ref f24)=true)
  (ypa:K.lookup ya=some ⟨y8,yaa,.seq #[.int 200 yga] yca,yea⟩)
  (h25:FHy K "growth_of" xJ)
  (h26:FHy K "cells_by_ware" jZ)
  (h27:FHy K "origin_of" vm)
  (h28:FHy K "origins_of" xh)
  (a29:nsIn K mainGlobals "leapt"=some (some (.ref f29))) (l29:K.lookup f29=some ⟨yO,yB,.func (fnOf "leapt" "leapt" (z6 wB) (zV wB) (ze wB) (.ref yb) yP yQ yR yC yS yT),yG⟩) (c29:codeIn K yS "leapt"=true) (k29:keepIn K (.ref f29)=true)
  (yqa:K.lookup yb=some ⟨y9,yba,.seq #[.int 200 yha] yda,yfa⟩)
  (h30:FHy K "common" ZP)
  (h31:FHy K "lasting" Qt)
  (h32:FHy K "check_size" wF)
  (h33:FHy K "check_each_once" jy)
  (h34:FHy K "_law_at" zbz)
  (h35:FHy K "_law_spread" Zy)
  (h36:FHy K "_law_belt" JU)
  (h37:FHy K "_law_source" wJ)
  (h38:FHy K "_law_drain" QA)
  (h39:FHy K "_law_kind" JR)
  (h40:FHy K "_law_joined" ZA)
  (h41:FHy K "_law_parted" Zz)
  (h42:FHy K "_law_grow" JS)
  (h43:FHy K "_law_close" QB)
  (h44:FHy K "_law_work" ZQ)
  (h45:FHy K "_law_limit" Qy)
  (h46:FHy K "_law_round" Qx)
  (h47:FHy K "_law_fold" JT)
  (h48:FHy K "_law_kinds" Qz)
  (h49:FHy K "_law_counts" wK)
  (aL:nsIn K mainGlobals "law"=some (some (.ref fL))) (lL:K.lookup fL=some ⟨ocL,odL,.func (fnOf "law" "law" (z6 ZO) (zV ZO) (ze ZO) .none kVL dcL pmL anL cdL ctL),slL⟩) (cL:codeIn K cdL "law"=true) (kL:keepIn K (.ref fL)=true)
  (yra:NNy K "list")
  (ysa:NNy K "len")
  (yta:NNy K "max")
  (yua:NNy K "range")
  (yva:NNy K "isinstance")
  (ywa:NNy K "enumerate")
  (yxa:NNy K "tuple")
  (yya:NNy K "zip")
  (yza:NNy K "sorted")
  (yAa:NNy K "reversed")
  (yBa:NRy K "State" yc)
  (yCa:NRy K "WorkError" yd)
  (yDa:NRy K "BadBelt" ye)
  (yEa:NRy K "BadKnot" yg)
  (yFa:NRy K "BadWork" yh)
  (yGa:NRy K "TooLong" yi)
  (yHa:NRy K "Belt" yj)
  (yIa:NRy K "Knot" yk)
  (yJa:NRy K "Source" ym)
  (yKa:NRy K "Drain" yo)
  (yLa:NRy K "Parter" yp)
  (yMa:NRy K "FirstParter" yq)
  (yNa:NRy K "Sieve" yr)
  (yOa:NRy K "Joiner" yt)
  (yPa:NRy K "Lap" yu)
  (yQa:NRy K "Work" yv)
  (yRa:CHy K yc)
  (ySa:NoAttr K yc "turn")
  (yTa:NoAttr K yc "cells")
  (yUa:NoAttr K yc "sides")
  (yVa:NoAttr K yc "gone")
  (yWa:MHy K yc "__init__" "State.__init__" jk)
  (yXa:CHy K yj)
  (yYa:NoAttr K yj "room")
  (yZa:NoAttr K yj "pace")
  (y0a:MHy K yj "__init__" "Belt.__init__" xL)
  (y1a:findIn K (.ref yk) "__init__"=some (some (.ref yy))) (y2a:isFn K (.ref yy)=true) (y3a:K.lookup yy=some ⟨yU,yD,.func (fnOf "__init__" "Knot.__init__" (z6 qY) (zV qY) (ze qY) .none yV yW yX yE yY yZ),yH⟩) (y4a:codeIn K yY "Knot.__init__"=true) (y5a:keepIn K (.ref yy)=true)
  (y6a:specialIn K (.ref yk) "__getattribute__"=some (some (.builtin "type.__getattribute__")))
  (y7a:readsIn K yk (.type "type")=true)
  (y8a:findCls K (.ref yk) (.type "type") "__init__"=some (.val (.ref yy)))
  (y9a:CHy K ym)
  (yab:NoAttr K ym "pace")
  (ybb:NoAttr K ym "kinds")
  (ycb:NoAttr K ym "ins")
  (ydb:NoAttr K ym "outs")
  (yeb:MHy K ym "__init__" "Source.__init__" jR)
  (yfb:MHy K ym "choice" "Source.choice" j6)
  (ygb:MHy K ym "copied" "Source.copied" j5)
  (yhb:CHy K yo)
  (yib:NoAttr K yo "pace")
  (yjb:NoAttr K yo "ins")
  (ykb:NoAttr K yo "outs")
  (ylb:MHy K yo "__init__" "Drain.__init__" xj)
  (ymb:MHy K yo "choice" "Drain.choice" xy)
  (ynb:MHy K yo "copied" "Drain.copied" xw)
  (yob:CHy K yp)
  (ypb:NoAttr K yp "ins")
  (yqb:NoAttr K yp "outs")
  (yrb:MHy K yp "__init__" "Parter.__init__" jS)
  (ysb:MHy K yp "choice" "Parter.choice" j8)
  (ytb:MHy K yp "copied" "Parter.copied" j7)
  (yub:CHy K yq)
  (yvb:NoAttr K yq "ins")
  (ywb:NoAttr K yq "outs")
  (yxb:MHy K yq "__init__" "FirstParter.__init__" qN)
  (yyb:MHy K yq "choice" "FirstParter.choice" ja)
  (yzb:MHy K yq "copied" "FirstParter.copied" qZ)
  (yAb:CHy K yr)
  (yBb:NoAttr K yr "kind")
  (yCb:NoAttr K yr "ins")
  (yDb:NoAttr K yr "outs")
  (yEb:MHy K yr "__init__" "Sieve.__init__" xi)
  (yFb:MHy K yr "choice" "Sieve.choice" xu)
  (yGb:MHy K yr "place_for" "Sieve.place_for" jA)
  (yHb:MHy K yr "copied" "Sieve.copied" xt)
  (yIb:CHy K yt)
  (yJb:NoAttr K yt "ins")
  (yKb:NoAttr K yt "outs")
  (yLb:MHy K yt "__init__" "Joiner.__init__" jT)
  (yMb:MHy K yt "choice" "Joiner.choice" jq)
  (yNb:MHy K yt "copied" "Joiner.copied" j9)
  (yOb:CHy K yu)
  (yPb:NoAttr K yu "before")
  (yQb:NoAttr K yu "length")
  (yRb:NoAttr K yu "origins")
  (ySb:NoAttr K yu "growth")
  (yTb:MHy K yu "__init__" "Lap.__init__" wI)
  (yUb:MHy K yu "new_ware" "Lap.new_ware" xv)
  (yVb:MHy K yu "ware_after" "Lap.ware_after" jL)
  (yWb:MHy K yu "cells_after" "Lap.cells_after" qS)
  (yXb:MHy K yu "gone_after" "Lap.gone_after" jm)
  (yYb:MHy K yu "state_after" "Lap.state_after" jB)
  (yZb:CHy K yv)
  (y0b:NoAttr K yv "belts")
  (y1b:NoAttr K yv "knots")
  (y2b:MHy K yv "__init__" "Work.__init__" jw)
  (y3b:MHy K yv "drains" "Work.drains" jQ)
  (y4b:MHy K yv "sources" "Work.sources" jz)
  (y5b:MHy K yv "beat" "Work.beat" xK)
  (wgn:specialIn K (.builtin "object.__class__") "__get__"=some (some (.builtin "getset_descriptor.__get__"))) (wtk:takesIn K (.builtin "object.__class__")=some true)
  (y6b:nsIn K mainGlobals "MOST_ROOM"=some (some (.int 6 yia)))
  (y7b:nsIn K mainGlobals "MOST_PACE"=some (some (.int 4 yja)))
  (y8b:nsIn K mainGlobals "MOST_KINDS"=some (some (.int 6 yka)))
  (y9b:nsIn K mainGlobals "FEWEST_WAYS"=some (some (.int 2 yla)))
  (yac:nsIn K mainGlobals "MOST_WAYS"=some (some (.int 4 yma)))
  (ybc:nsIn K mainGlobals "MOST_BELTS"=some (some (.int 24 yna)))
  (ycc:nsIn K mainGlobals "MOST_KNOTS"=some (some (.int 24 yoa)))
  (ydc:excIn K ye bmV "ValueError.__new__"=true)
  (yec:excIn K yg bmV "ValueError.__new__"=true)
  (yfc:excIn K yi bmV "ValueError.__new__"=true)
  (ygc:excIn K yh bmV "ValueError.__new__"=true)
  (yhc:subIn K (.ref yi) (.type "BaseException")=some true)
  (yic:hasDictIn K yi=true)
  (yjc:typeIn K (.ref yi)=some (.type "type"))
  (ykc:subIn K (.ref yi) (.ref yi)=some true)
  (ylc:KOy K ym yt false)
  (ymc:KOy K yo yt false)
  (ync:KOy K yp yt false)
  (yoc:KOy K yq yt false)
  (ypc:KOy K yr yt false)
  (yqc:KOy K yt yt true)
  (yrc:KOy K ym yo false)
  (ysc:KOy K yo yo true)
  (ytc:KOy K yp yo false)
  (yuc:KOy K yq yo false)
  (yvc:KOy K yr yo false)
  (ywc:KOy K yt yo false)
  (yxc:KOy K ym ym true)
  (yyc:KOy K yo ym false)
  (yzc:KOy K yp ym false)
  (yAc:KOy K yq ym false)
  (yBc:KOy K yr ym false)
  (yCc:KOy K yt ym false)
  (yDc:KOy K yc yc true)
  : ∃ fd:FuncData,(∀ (s:Ap) (v:Ao),BindsTo s fd ⟨[v],[]⟩ [("_law_script",v)])/\∀ base:Heap,K.In base->base.Ns mainGlobals mg->FnOk l.prog w K mg base (CXr l.prog w) 11 fa fd ["_law_script"] (V2 K):=by
 have e:=hfa.symm.trans (cu X G aL);cases e;have T:Txt K mg ⟨yc,yd,ye,yg,yh,yi,yj,yk,ym,yo,yp,yq,yr,yt,yu,yv⟩:={
  lQ:=qw X G h1
  kU:=qw X G h2
  kj:=qw X G h3
  iX:=qw X G h4
  kA:=qw X G h5
  kB:=qw X G h6
  kC:=qw X G h7
  km:=qw X G h8
  ir:=qw X G h9
  lB:=qw X G h10
  kD:=qw X G h11
  lS:=qw X G h12
  iG:=qw X G h13
  mH:=qw X G h14
  lT:=qw X G h15
  kX:=qw X G h16
  kY:=qw X G h17
  lC:=qw X G h18
  md:=qw X G h19
  lD:=qw X G h20
  kF:=qw X G h21
  lE:=qw X G h22
  kG:=qw X G h23
  kg:=zgG (st:=js) (ps:=["work","limit"]) X G a24 l24 c24 k24 ypa (.cons ⟨_,rfl⟩ (.nil)) (λ s us hK hl=>by refine xV (n:=2) (P:=λ z=>BindsTo s _ ⟨z,[]⟩ (List.zip ["work","limit"] z)) ?_ us hl;intro _ _;exact binds_K hK rfl ypa rfl rfl rfl) (λ s us hK hl=>by refine xV (n:=1) (P:=λ z=>BindsTo s _ ⟨z,[]⟩ (List.zip ["work","limit"] (z ++ _))) ?_ us (by simp at hl;lia);intro _;exact binds_K hK rfl ypa rfl rfl rfl)
  kZ:=qw X G h25
  iH:=qw X G h26
  k8:=qw X G h27
  kH:=qw X G h28
  mx:=zgG (st:=wB) (ps:=["work","turns","limit"]) X G a29 l29 c29 k29 yqa (.cons ⟨_,rfl⟩ (.nil)) (λ s us hK hl=>by refine xV (n:=3) (P:=λ z=>BindsTo s _ ⟨z,[]⟩ (List.zip ["work","turns","limit"] z)) ?_ us hl;intro _ _ _;exact binds_K hK rfl yqa rfl rfl rfl) (λ s us hK hl=>by refine xV (n:=2) (P:=λ z=>BindsTo s _ ⟨z,[]⟩ (List.zip ["work","turns","limit"] (z ++ _))) ?_ us (by simp at hl;lia);intro _ _;exact binds_K hK rfl yqa rfl rfl rfl)
  me:=qw X G h30
  lU:=qw X G h31
  kI:=qw X G h32
  ij:=qw X G h33
  mE:=qw X G h34
  lF:=qw X G h35
  mf:=qw X G h36
  lG:=qw X G h37
  lV:=qw X G h38
  mh:=qw X G h39
  lH:=qw X G h40
  lI:=qw X G h41
  mi:=qw X G h42
  lW:=qw X G h43
  mj:=qw X G h44
  lX:=qw X G h45
  lY:=qw X G h46
  ml:=qw X G h47
  lZ:=qw X G h48
  lJ:=qw X G h49
  mq:=cx X G yra
  gA:=cx X G ysa
  ma:=cx X G yta
  iY:=cx X G yua
  iu:=cx X G yva
  iV:=cx X G ywa
  lM:=cx X G yxa
  mD:=cx X G yya
  lz:=cx X G yza
  kh:=cx X G yAa
  lO:=cu X G yBa
  l5:=cu X G yDa
  gU:=cu X G yEa
  kJ:=cu X G yFa
  kK:=cu X G yGa
  mF:=cu X G yHa
  ki:=cu X G yJa
  lP:=cu X G yKa
  mr:=cu X G yLa
  ko:=cu X G yMa
  my:=cu X G yNa
  lA:=cu X G yOa
  mJ:=cu X G yPa
  mG:=cu X G yQa
  ad:=yRa.c
  dl:=ySa
  gf:=yTa
  gm:=yUa
  gg:=yVa
  mz:=yRa.w wgn wtk
  kM:=X7 yRa yWa
  ic:=yXa.c
  hX:=yYa
  gQ:=yZa
  k9:=X7 yXa y0a
  gw:=zik (st:=qY) (ps:=["self","ins","outs"]) (cu X G yIa) y6a y7a y8a y3a y4a y5a (λ _ _ _ _ _ _=>xV (by walk_at "b"))
  gy:=y9a.c
  gG:=yab
  gu:=ybb
  iw:=ycb
  gR:=ydb
  mt:=y9a.w wgn wtk
  kq:=X7 y9a yeb
  iI:=x9 yfb
  iJ:=x9 ygb
  gI:=yhb.c
  gE:=yib
  ia:=yjb
  ix:=ykb
  mB:=yhb.w wgn wtk
  kN:=X7 yhb ylb
  iZ:=x9 ymb
  i5:=x9 ynb
  gJ:=yob.c
  gZ:=ypb
  gH:=yqb
  mv:=yob.w wgn wtk
  kr:=X7 yob yrb
  iK:=x9 ysb
  iL:=x9 ytb
  gz:=yub.c
  gD:=yvb
  gC:=ywb
  ku:=yub.w wgn wtk
  ie:=X7 yub yxb
  g6:=x9 yyb
  g7:=x9 yzb
  gF:=yAb.c
  g8:=yBb
  ib:=yCb
  g9:=yDb
  mC:=yAb.w wgn wtk
  kO:=X7 yAb yEb
  i6:=x9 yFb
  ik:=x9 yGb
  i7:=x9 yHb
  gL:=yIb.c
  gM:=yJb
  gS:=yKb
  mw:=yIb.w wgn wtk
  kx:=X7 yIb yLb
  iM:=x9 yMb
  iN:=x9 yNb
  gq:=yOb.c
  gx:=yPb
  gO:=yQb
  ig:=yRb
  hJ:=ySb
  lK:=X7 yOb yTb
  i8:=x9 yUb
  iy:=x9 yVb
  io:=x9 yWb
  iz:=x9 yXb
  ip:=x9 yYb
  gj:=yZb.c
  gk:=y0b
  gi:=y1b
  lh:=X7 yZb y2b
  ky:=x9 y3b
  i9:=x9 y4b
  lj:=x9 y5b
  ll:=⟨_,cu X G y6b⟩
  iW:=⟨_,cu X G y7b⟩
  kP:=⟨_,cu X G y8b⟩
  kz:=⟨_,cu X G y9b⟩
  ly:=⟨_,cu X G yac⟩
  kR:=⟨_,cu X G ybc⟩
  kS:=⟨_,cu X G ycc⟩
  l7:=⟨ydc⟩
  gW:=⟨yec⟩
  l8:=⟨yfc⟩
  kT:=⟨ygc⟩
  l9:=yhc
  gP:=zdC yic yjc ykc
  iA:=ylc
  iO:=ymc
  iB:=ync
  gX:=yoc
  iP:=ypc
  iC:=yqc
  iQ:=yrc
  ka:=ysc
  iR:=ytc
  hW:=yuc
  kb:=yvc
  iS:=ywc
  iD:=yxc
  iT:=yyc
  iE:=yzc
  gY:=yAc
  iU:=yBc
  iF:=yCc
  ke:=yDc
 }
 exact ⟨_,λ s v=>.of_eq rfl,λ base _ _=>top_ok T (wS (st:=ZO) lL cL kL)⟩
def walk {l:PySem.W.OpenLaw} {q:Ah} {loose:Aa} {XP:(Str->Option Value)->Heap->Prop} {YP:World->Heap->Prop} {d:DefRec} {K:Params->PySem.W.Frag} (hn:l.most=some 63) (hdf:d.params.defaults=[])
  (hY:∀ (w:World) (h:Heap),YP w h->(K w.params).In h)
  (F:∀ (w:World) (mg:A6) (fa:Addr) (h:Heap),(K w.params).In h->h.Ns mainGlobals mg->mg d.name=some (.ref fa) ->
   ∃ fd:FuncData,(∀ (s:Ap) (u:Ao),BindsTo s fd ⟨[u],[]⟩ [("_law_script",u)])/\∀ base:Heap,(K w.params).In base->base.Ns mainGlobals mg->FnOk l.prog w (K w.params) mg base (CXr l.prog w) 11 fa fd ["_law_script"] (V2 (K w.params))) :
  PySem.W.WalkO q loose XP YP l.row.toRowW d [] (λ f vs=>PySem.call f vs) :=
 L2.walk_of (n:=63) (k:=11) (x:="_law_script") (CX:=λ w=>CXr l.prog w) (sp:=λ w=>V2 (K w.params)) hn (by decide) hdf ⟨rfl,by decide,by decide⟩ hY F (λ _ _ a ns hl _ hS=>⟨a,ns,rfl,hS,hl,λ _=>rfl⟩) λ _ _ _ _ _ z=>zdP z
end K31
set_option Elab.async false
structure PySem.W.Fast:Prop where(tw7568817283279277307 tw12437283623034471594 tw9158712819241633322 tw1753696371406513985 tw18241633486125181809 tw11672719123545333779 tw11517492807852436394 tw18123023824540930588 tw17787612018714791245 tw3967001434963683004 tw4560415989931016011 tw10934139493934106539 tw10491187102568383227 tw13765826824050658098 tw8179181877424416472 tw4643130353870963677 tw7279974749025273877 tw7888270338120253530 tw7017051494401478322 tw1886746202095383832 tw16189155538264069596 tw13130827311554762303 tw12673798780145676054 tw11859661062382233671 tw12110439525950532125 tw11132848383141515161 tw1639446724445078071 tw13624713703176229769 tw2069647383213390243 tw11171811082143949934 tw10970766397131993770 tw14084192259317768011 tw14988987505304139170 tw12511941847691647725 tw11196506619002226934 tw15865308157179565974 tw39936329173790394 tw11823582079237881676 tw16039868586401628035 tw682956550695983841 tw18094276678901442253 tw958808073592991254 tw4519915465191047245 tw8032366670534426200 tw6921704268064509615 tw2800061411742024803 tw16335634206779832113 tw3497786922624957620 tw8351659797300211 tw6136849192582056187 tw5217528100070856446 tw3116482893174753150 tw2724716173044167955 tw13114710580070353038 tw10422912044877852295 tw10161101291059447497 tw17609077269833064909 tw3246148339894816536 tw11960414109637162962 tw10030708559781530598 tw17997878004012878101 tw5275080717491774277 tw172676648293039909 tw9986601291906020126 tw1491409644879601868 tw16688284177633644247 tw8327669050803614586 tw8171176468544171074 tw15788728437468006659 tw4320192360189972998 tw1116919894674619720 tw13586014874613402406 tw10930508113191522513 tw10874761623354240669 tw5039736323471682747 tw5231827322353710969 tw11741082428019090099 tw14904844706723326404 tw17640417777356121788 tw14984770473788674458 tw12523824209241874486 tw9404074028796279598 tw9123610873487324772 tw1433091264606729890 tw13521607260203637085 tw17345748166773647117 tw14303766066788543499 tw11926036805078357537 tw15758632129358233107 tw12795875797641545386 tw16658885661191454111 tw10175839463786637540 tw13720035563555830985 tw6357560658578422198 tw2389600689986035906 tw9966644528223535410 tw1778723784052634833 tw16920689323718518751 tw14808182058933786591 tw11761129189194692566 tw4261742751447264952 tw3726801350076151628 tw8188688653173778530 tw13522128674881766382 tw15679794815132318024 tw17993322367946073949 tw69573407462922637 tw2475078262632172170 tw13667456093042546515 tw9587189007222923275 tw8974232249268149898 tw6276322892900628226 tw10048323183153284323 tw5924288346103279041 tw9910999567848022207 tw16666635391535919323 tw14670011546371692720 tw14892514674417632090 tw6576415547434880029 tw13334340282655238220 tw4203387472062236844 tw10441408677009521273 tw17297252306752899469 tw3032487690692720495 tw5450644012601522529 tw998832713297177031 tw15885295558393624425 tw9702992875210895771 tw5992356186962135254 tw7624988425765429312 tw13084442158888735190 tw2774417332680921541 tw8211868557009122050 tw2788455848565133026 tw5775608117214779440 tw10491353817289077669 tw7034693822198564261 tw16391008553290378760 tw3315315858706183741 tw4806809827946655158 tw7168812190543268456 tw2680759605412842197 tw15610593674365968511 tw14181477405273733843 tw16688348893319396227 tw9293966136744335007 tw14048171083124534523 tw11710603490137715557 tw4473592404481852722 tw1486069756429270490 tw2522360859451976565 tw12950619978101580342 tw17499780141612729149 tw5330765759792637340 tw10142174652334330798 tw12203609137124112715 tw2009379712580010660 tw14596533436471832372 tw9196887601211221573 tw1707949409663638859 tw11378756992689431612 tw10692968416199940891 tw9716775541119661351 tw4015169899343985286 tw16356374286512219478 tw1604917768161152755 tw11196887459127377869 tw11493415838623319515 tw9991913569981567193 tw16336091960818294413 tw17048252718030215182 tw11617907764175321586 tw9302424952276361321 tw13816926649268926716 tw208600538762493107 tw11548711919048514731 tw6050810402806724389 tw9535820755512779638 tw1197900866299708044 tw7941883882598698157 tw8321791346217540276 tw2248584471724017852 tw2365128932824823000 tw1530508548836100455 tw17426647970711368876 tw7886383301042094563 tw2337304115357923533 tw6344463727296820165 tw11373842358763045841 tw3855403235480059323 tw4070253404518789043 tw18153351662585294110 tw4989202091414921262 tw9062011164261940270 tw4312765278589748640 tw7307381904616637713 tw2576268310214785528 tw8647755175498137488 tw6495380276342959864 tw4709455939826306336 tw6850212887593538717 tw13328058236532626647 tw13157177034422290796 tw6306002902669706527 tw11805016563739853068 tw16800164115145275769 tw6478718360805902039 tw3466544601199617167 tw10953919507573825111 tw8210651195622586155 tw12025123209047710914 tw12248598580837083365 tw6193204698470470495 tw1027709172536650468 tw3065229400597823604 tw7048756593027985358 tw9977715065814473740 tw491031194953267572 tw8136602449360126783 tw14347245903510622245 tw198402522992593683 tw12526383095431614232 tw9590589549616446426 tw7854050495634767686 tw15257545828733487441 tw9577045991757620765 tw16305799495619354572 tw600878305150921986 tw1429039122587243003 tw16675674263878322649 tw14485894706176997528 tw16858723804922305386 tw3311968569066890104 tw3266431421950650391 tw3034014832172029477 tw1842395901454153736 tw13349290640942493897 tw10277640584198209668 tw931376330389533405 tw17996580972136106616 tw4456364511089612679 tw14225493237886182999 tw9616588525614415020 tw10623582932243028589 tw14779102692412414609 tw180404871095815579 tw14127425522934082305 tw9584393397343889013 tw11062939371851890687 tw14465296497858824103 tw3179605078524377249 tw6103304939108496074 tw1481223866035762402 tw512235035985140664 tw11686531775298019645 tw9478247531757648353 tw9660838771598993562 tw6128837221995761072 tw9074441058024659522 tw18153451085942301469 tw17056725793522729668 tw3353701910935215001 tw14245046897757834863 tw3144063743239909499 tw6569129776183502983 tw7108531388992119544 tw4824823851451545475 tw15537039354959270366 tw11554691120549116305 tw15146808063765108786 tw12850568743891512940 tw7317947232869007240 tw5768168898615900293 tw13823468297623102421 tw5894787233690195537 tw11102264925681233279 tw11520782109815526125 tw11518848085083960507 tw1660773323432967821 tw12912906842986865816 tw11514563988703390249 tw7423245734719944445 tw18252429579969314178 tw14016784305789627673 tw12768087013806567606 tw11273796836186576882 tw2740498269102821912 tw2189629433088318497 tw17592762033545127665 tw7518937842300935170 tw4549030158555315334 tw9024906466090134804 tw16268480766093407535 tw10378140893576662590 tw8962989147798958299 tw17376170983931403917 tw3469725810177551395 tw12717041532403161563 tw12884936325641449837 tw11870394260836741345 tw916301539120794069 tw2163260180053368198 tw16816851138381352489 tw3164400009388498630 tw17762000844861286636 tw10075569700573586387 tw8750198003775260214 tw11160523207558683598 tw16819379580067135476 tw14007804560048975369 tw8246913987389417918 tw18338086440266090943 tw14070264885034075969 tw4037941788826728908 tw11759135077352635009 tw14620166744519768315 tw12756478962764364754 tw12800770028471589749 tw10103533841889547105 tw2666173513189272050 tw17272632928138663639 tw14777582376605612386 tw10231582814815097675 tw8245784255235519771 tw6073660297203344820 tw486794775723279002 tw5206374972241216548 tw12199276368642247963 tw6871787329011455285 tw10721923867202028983 tw17223206550319277463 tw7194045654767005889 tw1669072869627318521 tw1200707760762079372 tw11340383413989786006 tw2036638622873559165 tw16441377517171673610 tw9512477423336665493 tw586777832738359827 tw3187006136654487377 tw15375366978582867921 tw9858178791903447427 tw17734458394798757563 tw952354356417421883 tw10500550022075743276 tw16260453118826303085 tw8008767178584980718 tw3244177129722682776 tw7558070348123641457 tw7004092227026888620 tw10339531682830829569 tw6581078158928416649 tw1116304699422107887 tw9477993866207876508 tw4240203770874658266 tw11570222194440121624 tw7015153282523169290 tw14335995194198048594 tw3370743088992403220 tw14864560294392106489 tw10177499067397393209 tw15183167860887094789 tw3387726427978701107 tw11764519604843528122 tw14436704207654003660 tw8484621514523608054 tw221820196893943328 tw4949411741182513519 tw7416192469528019856 tw16062435043477539025 tw18276907514001968077 tw15272454314431384366 tw10234759283413573233 tw5899452556977035998 tw8839243593349289330 tw6122746620957382059 tw6617062526909395575 tw4815414693072632328 tw16746389505035950773 tw1166210918376704969 tw15532524427884072602 tw7139924748975907890 tw7943517420606427474 tw4736084263520220301 tw9274361309246629977 tw9799684059828331731 tw15581691023255840218 tw8282075979952778844 tw2434869036287292812 tw1106768781424997668 tw16026480398797291771 tw8320836914240286276 tw4645935208843019776 tw790837259439241342 tw1073742249159241695 tw3364684622499643426 tw15099473088115269544 tw632317972360929818 tw12169823227113001043 tw17967044299238563140 tw8915786042739256282 tw13255176656399989647 tw2257167282518704034 tw5494677895169775389 tw5611176570877988854 tw225052435319733600 tw4785313292629932075 tw16156979163090012447 tw5450686806199295393 tw4567053673314707894 tw4788642202335656835 tw12949682242071236072 tw8307091944160765040 tw3604265375786261002 tw3542599827951269300 tw10287886983793130752 tw16131341042807366511 tw2363523949116537117 tw15117166969578242950 tw10299655559376361954 tw15164568761814785477 tw7022779842936106528 tw13367480001742597805 tw2295214123339613268 tw7279126166144569969 tw5778004823294283140 tw14127653828249663699 tw5431100950681695916 tw1652972208986861794 tw6541316017686282785 tw7170409123394489010 tw6027434922889938720 tw12582866533709726448 tw1074592417263339896 tw220873214667315430 tw327886845800343905 tw17635995331884214319 tw8545594326365096280 tw621960128412271809 tw2855275027171167067 tw11437976666716471508 tw7517281227703152062 tw8277284586062784566 tw17139789129675541645 tw11169538657775245134 tw9665252801334233858 tw13617269448690530151 tw1825882527470505102 tw13549509604619502415 tw1293449139946508504 tw1355811035616638415 tw17053560664397356709 tw13178077161066638124 tw688131930088801476 tw9333446214658645824 tw1903579205349842648 tw15581908299349460863 tw18372232701360176139 tw2594026860705351014 tw2521709519573216393 tw10538103735916793931:True)
open PySem PySem.W PyProof.Rows
set_option maxRecDepth 100000 in
set_option maxHeartbeats 0 in
theorem PySem.Challenge.cw_beltshares_k31_whole_rounds_far_away_holds : PySem.Challenge.rw_beltshares_k31_whole_rounds_far_away.Holds := by
 w_on;o_law;k_head;(case hw=>w_witness2)
 k_fill
 refine K31.walk (l:=PySem.Challenge.rw_beltshares_k31_whole_rounds_far_away) rfl rfl (λ w h Y=>PySem.W.kIn_of Y) ?F
 case F =>
  intro w mg fa h KX G hmg;refine' K31.all_mk KX G hmg ?h1 ?h2 ?h3 ?h4 ?h5 ?h6 ?h7 ?h8 ?h9 ?h10 ?h11 ?h12 ?h13 ?h14 ?h15 ?h16 ?h17 ?h18 ?h19 ?h20 ?h21 ?h22 ?h23 ?a24 ?l24 ?c24 ?k24 ?ypa ?h25 ?h26 ?h27 ?h28 ?a29 ?l29 ?c29 ?k29 ?yqa ?h30 ?h31 ?h32 ?h33 ?h34 ?h35 ?h36 ?h37 ?h38 ?h39 ?h40 ?h41 ?h42 ?h43 ?h44 ?h45 ?h46 ?h47 ?h48 ?h49 ?aL ?lL ?cL ?kL ?yra ?ysa ?yta ?yua ?yva ?ywa ?yxa ?yya ?yza ?yAa ?yBa ?yCa ?yDa ?yEa ?yFa ?yGa ?yHa ?yIa ?yJa ?yKa ?yLa ?yMa ?yNa ?yOa ?yPa ?yQa ?yRa ?ySa ?yTa ?yUa ?yVa ?yWa ?yXa ?yYa ?yZa ?y0a ?y1a ?y2a ?y3a ?y4a ?y5a ?y6a ?y7a ?y8a ?y9a ?yab ?ybb ?ycb ?ydb ?yeb ?yfb ?ygb ?yhb ?yib ?yjb ?ykb ?ylb ?ymb ?ynb ?yob ?ypb ?yqb ?yrb ?ysb ?ytb ?yub ?yvb ?ywb ?yxb ?yyb ?yzb ?yAb ?yBb ?yCb ?yDb ?yEb ?yFb ?yGb ?yHb ?yIb ?yJb ?yKb ?yLb ?yMb ?yNb ?yOb ?yPb ?yQb ?yRb ?ySb ?yTb ?yUb ?yVb ?yWb ?yXb ?yYb ?yZb ?y0b ?y1b ?y2b ?y3b ?y4b ?y5b ?wgn ?wtk ?y6b ?y7b ?y8b ?y9b ?yac ?ybc ?ycc ?ydc ?yec ?yfc ?ygc ?yhc ?yic ?yjc ?ykc ?ylc ?ymc ?ync ?yoc ?ypc ?yqc ?yrc ?ysc ?ytc ?yuc ?yvc ?ywc ?yxc ?yyc ?yzc ?yAc ?yBc ?yCc ?yDc
  (case h1|h2|h3|h4|h5|h6|h7|h8|h9|h10|h11|h12|h13|h14|h15|h16|h17|h18|h19|h20|h21|h22|h23=>(refine' K31.fhy ?a ?l ?c ?k;(case a=>k_is);(case l=>k_is);(case c=>k_is);(case k=>k_is)))
  (case a24|l24|c24|k24|ypa=>k_is)
  (case h25|h26|h27|h28=>(refine' K31.fhy ?a ?l ?c ?k;(case a=>k_is);(case l=>k_is);(case c=>k_is);(case k=>k_is)))
  (case a29|l29|c29|k29|yqa=>k_is)
  (case h30|h31|h32|h33|h34|h35|h36|h37|h38|h39|h40|h41|h42|h43|h44|h45|h46|h47|h48|h49=>(refine' K31.fhy ?a ?l ?c ?k;(case a=>k_is);(case l=>k_is);(case c=>k_is);(case k=>k_is)))
  (case aL|lL|cL|kL=>k_is)
  (case yra|ysa|yta|yua|yva|ywa|yxa|yya|yza|yAa|yBa|yCa|yDa|yEa|yFa|yGa|yHa|yIa|yJa|yKa|yLa|yMa|yNa|yOa|yPa|yQa=>(show nsIn _ _ _=_;k_is))
  (case yRa=>(refine ⟨?_,?_,?_,?_,?_,?_,?_,?_⟩ <;> k_is))
  (case ySa|yTa|yUa|yVa=>(show findIn _ _ _=_;k_is))
  (case yWa=>(refine' K31.mhy ?a ?i ?l ?c ?k;(case a=>k_is);(case i=>k_is);(case l=>k_is);(case c=>k_is);(case k=>k_is)))
  (case yXa=>(refine ⟨?_,?_,?_,?_,?_,?_,?_,?_⟩ <;> k_is))
  (case yYa|yZa=>(show findIn _ _ _=_;k_is))
  (case y0a=>(refine' K31.mhy ?a ?i ?l ?c ?k;(case a=>k_is);(case i=>k_is);(case l=>k_is);(case c=>k_is);(case k=>k_is)))
  (case y1a|y2a|y3a|y4a|y5a|y6a|y7a|y8a=>k_is)
  (case y9a=>(refine ⟨?_,?_,?_,?_,?_,?_,?_,?_⟩ <;> k_is))
  (case yab|ybb|ycb|ydb=>(show findIn _ _ _=_;k_is))
  (case yeb|yfb|ygb=>(refine' K31.mhy ?a ?i ?l ?c ?k;(case a=>k_is);(case i=>k_is);(case l=>k_is);(case c=>k_is);(case k=>k_is)))
  (case yhb=>(refine ⟨?_,?_,?_,?_,?_,?_,?_,?_⟩ <;> k_is))
  (case yib|yjb|ykb=>(show findIn _ _ _=_;k_is))
  (case ylb|ymb|ynb=>(refine' K31.mhy ?a ?i ?l ?c ?k;(case a=>k_is);(case i=>k_is);(case l=>k_is);(case c=>k_is);(case k=>k_is)))
  (case yob=>(refine ⟨?_,?_,?_,?_,?_,?_,?_,?_⟩ <;> k_is))
  (case ypb|yqb=>(show findIn _ _ _=_;k_is))
  (case yrb|ysb|ytb=>(refine' K31.mhy ?a ?i ?l ?c ?k;(case a=>k_is);(case i=>k_is);(case l=>k_is);(case c=>k_is);(case k=>k_is)))
  (case yub=>(refine ⟨?_,?_,?_,?_,?_,?_,?_,?_⟩ <;> k_is))
  (case yvb|ywb=>(show findIn _ _ _=_;k_is))
  (case yxb|yyb|yzb=>(refine' K31.mhy ?a ?i ?l ?c ?k;(case a=>k_is);(case i=>k_is);(case l=>k_is);(case c=>k_is);(case k=>k_is)))
  (case yAb=>(refine ⟨?_,?_,?_,?_,?_,?_,?_,?_⟩ <;> k_is))
  (case yBb|yCb|yDb=>(show findIn _ _ _=_;k_is))
  (case yEb|yFb|yGb|yHb=>(refine' K31.mhy ?a ?i ?l ?c ?k;(case a=>k_is);(case i=>k_is);(case l=>k_is);(case c=>k_is);(case k=>k_is)))
  (case yIb=>(refine ⟨?_,?_,?_,?_,?_,?_,?_,?_⟩ <;> k_is))
  (case yJb|yKb=>(show findIn _ _ _=_;k_is))
  (case yLb|yMb|yNb=>(refine' K31.mhy ?a ?i ?l ?c ?k;(case a=>k_is);(case i=>k_is);(case l=>k_is);(case c=>k_is);(case k=>k_is)))
  (case yOb=>(refine ⟨?_,?_,?_,?_,?_,?_,?_,?_⟩ <;> k_is))
  (case yPb|yQb|yRb|ySb=>(show findIn _ _ _=_;k_is))
  (case yTb|yUb|yVb|yWb|yXb|yYb=>(refine' K31.mhy ?a ?i ?l ?c ?k;(case a=>k_is);(case i=>k_is);(case l=>k_is);(case c=>k_is);(case k=>k_is)))
  (case yZb=>(refine ⟨?_,?_,?_,?_,?_,?_,?_,?_⟩ <;> k_is))
  (case y0b|y1b=>(show findIn _ _ _=_;k_is))
  (case y2b|y3b|y4b|y5b=>(refine' K31.mhy ?a ?i ?l ?c ?k;(case a=>k_is);(case i=>k_is);(case l=>k_is);(case c=>k_is);(case k=>k_is)))
  (case wgn|wtk|y6b|y7b|y8b|y9b|yac|ybc|ycc=>k_is)
  (case ydc|yec|yfc|ygc=>k_exc)
  (case yhc|yic|yjc|ykc=>k_is)
  (case ylc|ymc|ync|yoc|ypc|yqc|yrc|ysc|ytc|yuc|yvc|ywc|yxc|yyc|yzc|yAc|yBc|yCc|yDc=>(show kitOne _ _ _=_;kit_is))
