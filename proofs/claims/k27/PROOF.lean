import PyProof.Rows.All
import Wide.All
import OpenK.AllK
import Wide.FinOn
import Lean
import PyProof.EqAt
import PyProof.EqKinds
import PyProof.TupleCall
import PyProof.NeKinds
import PyProof.SumWalkG
import PyProof.Rows.CallKwBuiltin
import PyProof.Rows.FStr
import PyProof.ListRange
import PyProof.ZipIter
import PyProof.CompFree
import KE.KIntText
import PyProof.StrWalks
import PyProof.Rows.StrMul
import PyProof.ConsumeWalk
import Wide.Txt
import PySem.Challenge.RW_beltshares_k27_the_round
open PySem.W (instObj methodObj lookIn plainGet hasDictIn findIn handedIn plainGet_of isFn plainOver takerIn any_some makesIn typeIn emptyDict looks_findIn keepIn specialIn takesIn mroIn cellsFrom_some fnOf codeIn callWith_K methodCall_KW kitOne excIn kitCls subIn nsIn mg_of readsIn findCls mg_none_of)
set_option Elab.async false
set_option linter.all false
set_option maxRecDepth 100000
set_option compiler.extract_closed false
set_option bootstrap.genMatcherCode false
set_option hygiene false
local macro_rules | `(tactic| walk_at "p")=>`(tactic| first|exact Or.inl rfl|exact Or.inr rfl|assumption)
local macro_rules | `(tactic| walk_at "q")=>`(tactic| first|exact L2.nobehind _ (by decide) (by decide)|rfl)
set_option hygiene true
open List (nodup_append nodup_range find?_some any_cons map_take map_nil)
def aa:=@List.getElem?_eq_some_iff
def ae:=@List.getElem?_eq_getElem
def af:=@PySem.wpAny_bind
def ah:=@List.length_map
def ai:=@List.mem_of_getElem?
def aj:=@PySem.Heap.get?_push_of_some
def am:=@PySem.F.plainAttrs_list
def ao:=@PySem.wpAny_pure
def ap:=@Nat.le_refl
def aq:=@if_neg
def ar:=@List.size_toArray
def au:=@List.getElem?_map
def av:=@PySem.Heap.lt_size
def aw:=@PySem.F.type_list_append
def ax:=@PySem.F.slot_list_append
def ay:=@List.mem_singleton
def az:=@List.mem_cons
def aA:=@if_pos
def aB:=@List.mem_cons_of_mem
def aC:=@Option.map_eq_some_iff
def aD:=@Int.emod_lt_of_pos
def aE:=@Bool.false_ne_true
def aF:=@List.mem_append
def aG:=@Nat.lt_of_lt_of_le
def aH:=@Int.emod_nonneg
def aI:=@Nat.ne_of_lt
def aJ:=@PySem.Heap.get?_push_size
def aK:=@Array.length_toList
def aM:=@List.length_append
def aN:=@List.Perm.refl
def aO:=@Bool.false_eq_true
def aP:=@List.mem_map
def aQ:=@PySem.wpAny_mono
def aR:=@List.take_add_one
def aS:=@List.getElem?_append_right
def aT:=@List.getD_eq_getElem?_getD
def aU:=@Option.some.inj
def aV:=@List.take_length
def aW:=@List.length_take
def aX:=@Int.toNat_natCast
def aY:=@List.getElem?_append_left
def aZ:=@Ne.symm
def a4:=@decide_eq_false
def a5:=@List.mem_append_right
def a7:=@List.map_append
def a8:=@beq_eq_false_iff_ne
def a9:=@PySem.Heap.get?_update_other
def ba:=@PyProof.Rows.callWith_type1
def bc:=@Nat.le_trans
def be:=@Array.getElem?_eq_some_iff
def bg:=@List.length_cons
def bh:=@PySem.Heap.get?_update_self
def bj:=@List.mem_append_left
def bn:=@Array.getD_eq_getD_getElem?
def br:=@of_decide_eq_true
def bu:=@List.mem_range
def bw:=@List.mem_cons_self
def bx:=@List.getElem?_set_self
def bz:=@Array.getElem?_eq_getElem
def bA:=@PySem.wpAny_truthy_bool
def bB:=@Array.getElem?_toList
def bD:=@beq_iff_eq
def bE:=@if_false
def bF:=@decide_eq_true
def bH:=@List.append_nil
def bI:=@PySem.wpAny_Call_Name_kw
def bJ:=@decide_eq_true_eq
def bK:=@List.length_eq_zero_iff
def bL:=@PySem.mem_of_lookup
def bM:=@List.getElem?_set_ne
def bN:=@PySem.W.mg_none_of
def bO:=@Int.natAbs_natCast
def bP:=@List.append_assoc
def bQ:=@List.Perm.append_left
def bR:=@List.length_replicate
def bS:=@List.filterMap_cons
def bT:=@PySem.Obj.data_mapFields
def bU:=@Nat.zero_le
def bV:=@Nat.le_of_lt
def bW:=@List.getElem?_of_mem
def bX:=@Bool.and_false
def bY:=@PySem.wpAny_holding
def bZ:=@Nat.le_succ
def b0:=@PySem.W.mg_of
def b5:=@List.map_cons
def b7:=@List.mem_filter
def b8:=@Int.ediv_nonneg
def b9:=@PySem.codeAny_mono
def cc:=@PySem.wpAny_passesOwn
def ce:=@congrArg
def cf:=@List.exists_cons_of_ne_nil
def cg:=@beq_self_eq_true
def ci:=@Option.getD_some
def cj:=@PySem.F.type_list_extend
def ck:=@PySem.F.slot_list_extend
def cm:=@Nat.lt_irrefl
def cn:=@Bool.not_true
def cq:=@List.take_zero
def cr:=@List.perm_append_comm
def cu:=@List.length_singleton
def cw:=@List.nodup_cons
def cx:=@List.mem_replicate
def cy:=@Int.natCast_nonneg
def cz:=@PySem.F.called_set
def cA:=@Option.bind_eq_some_iff
def cB:=@PySem.Paired.length
def cC:=@List.Perm.append_right
def cD:=@PySem.wpAny_execs_nil
def cE:=@List.not_mem_nil
def cF:=@List.lookup_cons
def cG:=@PySem.SeqAt.EqAt.of_refs
def cH:=@Int.natAbs_dvd_natAbs
def cI:=@Nat.mod_lt
def cJ:=@Nat.mod_eq_of_lt
def cK:=@Bool.and_eq_true
def cM:=@List.take_of_length_le
def cN:=@List.replicate_succ
def cO:=@PySem.wpAny_setState_of
def cP:=@PySem.SeqAt.RcAt.tuples
def cQ:=@List.length_set
def cR:=@List.getElem?_eq_none
def cS:=@List.find?_cons
def cT:=@PySem.Obj.isFreed_of_fields
def cU:=@Nat.ne_of_gt
def cV:=@Int.le_of_lt
def cW:=@List.getLastD_eq_getLast?
def cX:=@List.pairwise_cons
def cY:=@Array.forIn_toList
def cZ:=@PySem.wpAny_specialOf
def c7:=@List.getElem?_eq_none_iff
def c8:=@Bool.true_and
def c9:=@List.length_nil
def da:=@or_false
def db:=@Nat.lt_succ_self
def dc:=@List.all_eq_true
def de:=@PySem.Heap.size_push
def dg:=@List.length_drop
def dh:=@PySem.W.callWith_K
def di:=@Nat.pow_succ
def dj:=@Bool.eq_iff_iff
def dq:=@PySem.SeqAt.RcAt.lists_lengths
def dr:=@PySem.F.type_list_pop
def du:=@PySem.F.slot_list_pop
def dA:=@PySem.wpAny_forIn_list
def dB:=@PySem.Around.in1_units
def dC:=@List.map_map
def dD:=@List.flatten_cons
def dE:=@PySem.wpAny_call
def dF:=@List.length_pos_iff
def dG:=@PySem.wpAny_ite_split
def dH:=@PySem.codeAny_builtin
def dI:=@PySem.SeqAt.EqAt.same
def dJ:=@Nat.mul_assoc
def dL:=@Nat.add_assoc
def dM:=@Nat.lt_of_le_of_lt
def dN:=@Nat.eq_zero_or_pos
def dO:=@List.mem_filterMap
def dP:=@List.ne_nil_of_length_pos
def dQ:=@List.length_reverse
def dR:=@List.getElem_mem
def dS:=@PySem.wpAny_seqItems
def dU:=@if_true
def dW:=@Option.isSome_map
def dX:=@Nat.mul_comm
def dY:=@Nat.lt_trichotomy
def dZ:=@Function.comp_def
def d0:=@PySem.Around.under_plainId
def d5:=@Option.getD_none
def d7:=@List.range_succ
def d8:=@PySem.call_meets
def d9:=@Nat.min_eq_left
def ee:=@PySem.W.methodCall_KW
def ef:=@List.length_range
def et:=@PySem.wpAny_pyIter_list
def eu:=@Option.map_map
def eB:=@Int.fdiv_eq_ediv_of_nonneg
def eC:=@List.getElem?_reverse
def eD:=@Classical.byContradiction
def eE:=@PySem.wpAny_isInstance
def eF:=@PySem.wpAny_execs_cons
def eG:=@PySem.SeqAt.RcAt.lists
def eH:=@Bool.and_true
def eI:=@PySem.wpAny_field
def eJ:=@PySem.sizeLine_eq
def eK:=@PySem.seqIndex_of
def eM:=@List.mem_of_mem_take
def eO:=@List.getElem?_replicate
def eP:=@List.map_set
def eQ:=@PyProof.noPylong_small
def eR:=@List.pairwise_lt_range
def eT:=@List.of_mem_zip
def eU:=@List.flatMap_append
def eV:=@List.take_append_drop
def eW:=@List.mem_iff_getElem?
def eX:=@PySem.wpAny_setField
def eY:=@PySem.wpAny_newFunctionEnv_cells
def eZ:=@Nat.add_mod
def e6:=@Int.one_dvd
def fe:=@Decidable.of_not_not
def ff:=@PySem.Calls.Name_function_global
def fg:=@PySem.intBits_le_64
def fh:=@PySem.W.pyHash_slot
def fi:=@PySem.W.looks_subIn
def fj:=@PySem.W.callWith_K0
def fk:=@List.toList_toArray
def fm:=@List.getElem_of_mem
def fo:=@Int.toNat_of_nonneg
def fq:=@PySem.wpAny_standAt
def ft:=@PySem.wpAny_comprehension_free
def fu:=@List.take_succ
def fv:=@PySem.plainId_quiet
def fA:=@PySem.W.cellsFrom_some
def fB:=@PySem.W.any_some
def fC:=@PySem.W.codeRec_of
def fD:=@List.find?_eq_none
def fE:=@Array.append_assoc
abbrev A0:=PySem.W.Frag
abbrev A1:=List (Int × Int)
abbrev A2:=List (PySem.Addr × PySem.Obj)
abbrev A3:=PySem.Value->PySem.Shared->Prop
abbrev A4:=PySem.Str->Option PySem.Value
abbrev A5:=PySem.Addr->Prop
abbrev A6:=List Int
abbrev A7:=List PySem.Value
abbrev A8:=List PySem.Str
abbrev A9:=Option Int
abbrev Aa:=Option PySem.Addr
abbrev Ab:=List PySem.Addr
abbrev Ac:=Array PySem.Value
abbrev Ae:=Array (Option PySem.Value)
abbrev Af:=PySem.Program
abbrev Ag:=Unit->PySem.Shared->Prop
abbrev Ah:=List Bool
abbrev Ai:=List Nat
abbrev Aj:=Option Nat × Option Nat × Nat
abbrev Ak:=PySem.Value->PySem.Value->PySem.Sem PySem.Value
abbrev Al:=PySem.Value
abbrev Am:=PySem.Shared
abbrev An:=PySem.Around
namespace L2
open PySem PySem.Spec PyProof.Rows
variable {A:An} {s:Am} {K:A0} {l8:A2} {w:World} {P:Af} {E Q:A3} {u:Al} {x:Str} {us:A7} {k t' i:Nat} {b C:Addr} {M:Model} {mg:A4} {base:Heap} {pos:Pos} {op:CmpOp} {f:Ak} {tg:Expr} {fd:FuncData}
abbrev Key:=Sum Int Str
noncomputable def zfq:Key->Value->Bool
 | .inl k,v=>Value.isInt k v
 | .inr x,v=>Value.isStrOf x v
noncomputable def zho (w:World):Key->Int
 | .inl k=>hashInt k
 | .inr x=>hashStr w x
theorem ql:∀ {k:Key} {v:Al},zfq k v=true->(∃ i t,k=Sum.inl i/\v=Value.int i t)\/(∃ x t,k=Sum.inr x/\v=Value.str x t)
 | .inl i,v,h=>by
  obtain ⟨t,e⟩:=Value.isInt_shape (k:=i) (v:=v) h;exact .inl ⟨i,t,rfl,e⟩
 | .inr x,v,h=>by
  obtain ⟨t,e⟩:=Value.isStrOf_shape (x:=x) (v:=v) h;exact .inr ⟨x,t,rfl,e⟩
def zgd (a b:Int):decide ((Sum.inl a:Key)=Sum.inl b)=(a == b):=by
 by_cases e:a=b
 ·subst e;simp
 ·have h:¬ (Sum.inl a:Key)=Sum.inl b:=λ q=>e (Sum.inl.inj q);rw [a4 h];exact (a8.mpr e).symm
def zga (a b:Str):decide ((Sum.inr a:Key)=Sum.inr b)=decide (a=b):=by
 by_cases e:a=b
 ·subst e;simp
 ·have h:¬ (Sum.inr a:Key)=Sum.inr b:=λ q=>e (Sum.inr.inj q);rw [a4 h,a4 e]
def zgc (a:Int) (b:Str):decide ((Sum.inl a:Key)=Sum.inr b)=false:=a4 (λ q=>nomatch q)
def zgb (a:Str) (b:Int):decide ((Sum.inr a:Key)=Sum.inl b)=false:=a4 (λ q=>nomatch q)
noncomputable def Ws (prog:Af) (w:World):PySem.KeyKind prog w Key where
 is:=zfq
 hash:=zho w
 inj:=λ v a b ha hb=>by
  rcases ql ha with ⟨i,t,rfl,rfl⟩|⟨x,t,rfl,rfl⟩
  ·rcases ql hb with ⟨j,u,rfl,e⟩|⟨y,u,rfl,e⟩
   ·injection e with e1 _;rw [e1]
   ·exact nomatch e
  ·rcases ql hb with ⟨j,u,rfl,e⟩|⟨y,u,rfl,e⟩
   ·exact nomatch e
   ·injection e with e1 _;rw [e1]
 byValue:=λ k v h=>by
  rcases ql h with ⟨i,t,rfl,rfl⟩|⟨x,t,rfl,rfl⟩ <;> rfl
 pyHash:=λ hv h=>by
  rcases ql hv with ⟨i,t,rfl,rfl⟩|⟨x,t,rfl,rfl⟩
  ·exact wpAny_pyHash_int h
  ·exact wpAny_pyHash_str h
 eqBool:=λ hu hv h=>by
  rcases ql hu with ⟨i,t,rfl,rfl⟩|⟨x,t,rfl,rfl⟩
  ·rcases ql hv with ⟨j,u,rfl,rfl⟩|⟨y,u,rfl,rfl⟩
   ·rw [zgd] at h;exact wpAny_eqBool_int h
   ·rw [zgc] at h;exact SeqAt.EqAt.int_str i t y u _ _ _ _ h
  ·rcases ql hv with ⟨j,u,rfl,rfl⟩|⟨y,u,rfl,rfl⟩
   ·rw [zgb] at h;exact SeqAt.EqAt.str_int x t j u _ _ _ _ h
   ·rw [zga] at h;exact wpAny_eqBool_str h
 «strs»:=λ k x t v h=>by
  rcases ql h with ⟨i,u,rfl,e⟩|⟨y,u,rfl,e⟩
  ·exact nomatch e
  ·injection e with e1 _
   subst e1;cases v <;> rfl
inductive V where
 | non|bl (b:Bool)|int (i:Int)|str (x:Str)|byt (b:Array UInt8)|flt (b:UInt64)|ref (a:Addr)|ty (n:String)
 deriving DecidableEq
abbrev Ar:=List (List Key × V)
abbrev Aq:=List (Str × V)
abbrev Ap:=Option V
abbrev Ao:=List V
def RelV:V->Value->Prop
 | .non,u=>u=Value.none
 | .bl b,u=>u=Value.bool b
 | .int i,u=>∃ t,u=Value.int i t
 | .str x,u=>∃ t,u=Value.str x t
 | .byt b,u=>∃ t,u=Value.bytes b t
 | .flt b,u=>∃ t,u=Value.float b t
 | .ref a,u=>u=Value.ref a
 | .ty n,u=>u=Value.type n
abbrev Vals:List V->List Value->Prop:=Paired RelV
def Vals.length {xs:Ao} (r:Vals xs us):xs.length=us.length:=cB r
theorem Vals.get:∀ {xs:Ao} {us:A7} {i:Nat} {x:V},Vals xs us->xs[i]?=some x->∃ u,us[i]?=some u/\RelV x u
 | _,_,_,_,.nil,e=>by simp at e
 | _,_,0,_,.cons r _,e=>by simp at e;subst e;exact ⟨_,rfl,r⟩
 | _,_,i + 1,x,.cons _ t,e=>by
  obtain ⟨u,h1,h2⟩:=Vals.get (i:=i) (x:=x) t (by simpa using e);exact ⟨u,by simpa using h1,h2⟩
theorem Vals.set {x:V} {u:Al} (r:RelV x u):∀ {xs:Ao} {us:A7} (i:Nat),Vals xs us->Vals (xs.set i x) (us.set i u)
 | _,_,_,.nil=>.nil
 | _,_,0,.cons _ t=>.cons r t
 | _,_,i + 1,.cons q t=>.cons q (Vals.set r i t)
theorem Vals.append:∀ {xs ys:Ao} {us ws:A7},Vals xs us->Vals ys ws->Vals (xs ++ ys) (us ++ ws)
 | _,_,_,_,.nil,s=>s
 | _,_,_,_,.cons r t,s=>.cons r (Vals.append t s)
theorem Vals.take:∀ {xs:Ao} {us:A7} (n:Nat),Vals xs us->Vals (xs.take n) (us.take n)
 | _,_,0,_=>.nil
 | _,_,_ + 1,.nil=>.nil
 | _,_,n + 1,.cons r t=>.cons r (Vals.take n t)
theorem Vals.drop:∀ {xs:Ao} {us:A7} (n:Nat),Vals xs us->Vals (xs.drop n) (us.drop n)
 | _,_,0,r=>r
 | _,_,_ + 1,.nil=>.nil
 | _,_,n + 1,.cons _ t=>Vals.drop n t
def Vals.none_of:∀ {xs:Ao} {us:A7} {i:Nat},Vals xs us->xs[i]?=none->us[i]?=none:=λ {xs us i} r e=>by
 have h1:=r.length;have h2:xs.length<=i:=c7.mp e;exact c7.mpr (by lia)
def RelO:Option V->Option Value->Prop
 | some v,some u=>RelV v u
 | none,none=>True
 | _,_=>False
def KV {κ:Type}:List (κ × V)->List (κ × Value)->Prop:=Paired λ (p:κ × V) (q:κ × Value)=>p.1=q.1/\RelV p.2 q.2
noncomputable def kV:Key->V
 | .inl i=>.int i
 | .inr x=>.str x
inductive HO where
 | lst (xs:Ao)
 | tup (xs:Ao)
 | dK (me:List (Key × V))|dT (me:Ar)
 | set (S:Int->Bool) (n:Nat)
 | ins (C dx:Addr) (fs:Aq)
 | own (x:Addr)
 | xd (fs:Aq)
 | met (f x:Addr)
 | rng (lo hi:Int)
 | frz (o:Obj) (u:HO)
 | tbl (ps:Ac)
 | ext (φ:Heap->Prop)
variable {o:HO}
abbrev Hp:=Addr->Option HO
variable {H:Hp}
noncomputable def upd (H:Hp) (a:Addr) (o:HO):Hp:=λ b=>if b=a then some o else H b
def upd_same {a:Addr}:upd H a o a=some o:=by unfold upd;rw [aA rfl]
def mv:=@upd_same
def upd_ne {a b:Addr} (h:b≠a):upd H a o b=H b:=by unfold upd;rw [aq h]
def mw:=@upd_ne
def vV {a:Addr} {o u:HO}:upd (upd H a o) a u=upd H a u:=by
 funext b;unfold upd;split <;> rfl
def Z5 {a b:Addr} {o u:HO} (h:H a=some o) (h':H b=some u) (d:o≠u):a≠b:=by
 intro e;subst e;rw [h] at h';exact d (aU h')
def ne_of_none {a b:Addr} (h:H a=some o) (h':H b=none):a≠b:=by
 intro e;subst e;rw [h] at h';cases h'
def my:=@ne_of_none
section
variable (P:Af) (w:World)
def ObjOk (H:Hp) (h:Heap) (a:Addr):HO->Prop
 | .lst xs=>xs.length<=sizeLine/\∃ (ma:A7) (n:Nat),Vals xs ma/\h.get? a=some { cls:=.type "list",data:=.seq ma.toArray n }
 | .tup xs=>xs.length<=sizeLine/\∃ ma:List Value,Vals xs ma/\IsTup h a ma.toArray
 | .dK me=>me.length<=sizeLine/\(a == sysModules)=false/\∃ vs,KV me vs/\h.DictOf (Ws P w) a vs
 | .dT me=>me.length<=sizeLine/\(a == sysModules)=false/\∃ xs:List (List Key × Addr × Value),
   Paired (λ (p:List Key × V) (q:List Key × Addr × Value)=>p.1=q.1/\H q.2.1=some (.tup (p.1.map kV))/\RelV p.2 q.2.2) me xs /\
   ∃ o es ep,h.get? a=some o/\o.ExactDict/\o.data=.dict es ep/\es.toList=xs.map (entryOfKey (tupleKind (Ws P w)))/\(xs.map (·.1)).Nodup
 | .set S n=>h.SetOf (intKind P w) a S n
 | .ins C dx fs=>H dx=some (.own a)/\fs.length<=1000/\dx≠a/\h.get? a=some (instObj C dx) /\
   ∃ mA,h.Ns1 dx mA/\(∀ f,RelO (fs.lookup f) (mA f))/\PySem.Within mA (fs.map (·.1))
 | .own _=>∃ o,h.get? a=some o
 | .xd fs=>∃ mA,h.Ns1 a mA/\∀ f,RelO (fs.lookup f) (mA f)
 | .rng lo hi=>∃ t u v,h.get? a=some { cls:=.type "range",data:=.fields #[.int lo t,.int hi u,.int 1 v] }
 | .frz o u=>h.get? a=some o/\ObjOk H h a u
 | .tbl ps=>h.get? a=some { cls:=.none,data:=.fields ps }
 | .met f x=>h.get? a=some (methodObj (.ref f) (.ref x))
 | .ext φ=>φ h/\(∃ o,h.get? a=some o)/\∀ h1 h2:Heap,φ h1->(∀ o,h1.get? a=some o->h2.get? a=some o)->φ h2
def HOk (H:Hp) (h:Heap):Prop:=∀ a o,H a=some o->ObjOk P w H h a o
end
section
variable {P:Af} {w:World} {H H':Hp} {h h':Heap} {a:Addr} {o:HO}
def ObjOk.lt (x:ObjOk P w H h a o):a < h.objs.size:=by
 cases o with
 | lst xs=>obtain ⟨_,_,_,_,e⟩:=x;exact av e
 | tup xs=>obtain ⟨_,_,_,p⟩:=x;exact p.lt
 | dK me=>obtain ⟨_,_,_,_,o,_,_,e,_⟩:=x;exact av e
 | dT me=>obtain ⟨_,_,_,_,o,_,_,e,_⟩:=x;exact av e
 | set S n=>obtain ⟨o,_,_,_,e,_⟩:=x;exact av e
 | ins C dx fs=>obtain ⟨_,_,_,e,_⟩:=x;exact av e
 | own y=>obtain ⟨_,e⟩:=x;exact av e
 | xd fs=>obtain ⟨_,⟨_,_,_,e,_⟩,_⟩:=x;exact av e
 | rng lo hi=>obtain ⟨_,_,_,e⟩:=x;exact av e
 | frz ob u=>obtain ⟨e,_⟩:=x;exact av e
 | tbl ps=>exact av (show h.get? a=some _ from x)
 | met f y=>exact av (show h.get? a=some _ from x)
 | ext φ=>obtain ⟨_,⟨_,e⟩,_⟩:=x;exact av e
theorem Paired.mapP {α β:Type} {F G:α->β->Prop}:∀ {l₁:List α} {l₂:List β},Paired F l₁ l₂->(∀ a b,F a b->G a b)->Paired G l₁ l₂
 | _,_,.nil,_=>.nil
 | _,_,.cons r t,f=>.cons (f _ _ r) (Paired.mapP t f)
theorem ObjOk.stay (x:ObjOk P w H h a o) (k:∀ b u,(b=a\/H b=some (.own a))->h.get? b=some u->h'.get? b=some u)
  (ho:∀ b,H b=some (.own a)->H' b=some (.own a)) (ht:∀ b xs,H b=some (.tup xs)->H' b=some (.tup xs)):ObjOk P w H' h' a o:=by
 induction o with
 | lst xs=>obtain ⟨z,ma,n,r,e⟩:=x;exact ⟨z,ma,n,r,k _ _ (.inl rfl) e⟩
 | tup xs=>obtain ⟨z,ma,r,ob,e,c⟩:=x;exact ⟨z,ma,r,ob,k _ _ (.inl rfl) e,c⟩
 | dK me=>obtain ⟨z,y,vs,r,ob,es,ep,e,c⟩:=x;exact ⟨z,y,vs,r,ob,es,ep,k _ _ (.inl rfl) e,c⟩
 | dT me =>
  obtain ⟨z,y,xs,r,ob,es,ep,e,c⟩:=x;exact ⟨z,y,xs,Paired.mapP r λ p q z=>⟨z.1,ht _ _ z.2.1,z.2.2⟩,ob,es,ep,k _ _ (.inl rfl) e,c⟩
 | set S n=>obtain ⟨ob,es,ep,t,e,c⟩:=x;exact ⟨ob,es,ep,t,k _ _ (.inl rfl) e,c⟩
 | ins C dx fs =>
  obtain ⟨d,z,ne,e,mA,⟨od,es,ep,e2,c⟩,r⟩:=x;exact ⟨ho _ d,z,ne,k _ _ (.inl rfl) e,mA,⟨od,es,ep,k _ _ (.inr d) e2,c⟩,r⟩
 | own y=>obtain ⟨ob,e⟩:=x;exact ⟨ob,k _ _ (.inl rfl) e⟩
 | xd fs=>obtain ⟨mA,⟨od,es,ep,e,c⟩,r⟩:=x;exact ⟨mA,⟨od,es,ep,k _ _ (.inl rfl) e,c⟩,r⟩
 | rng lo hi=>obtain ⟨t,u,v,e⟩:=x;exact ⟨t,u,v,k _ _ (.inl rfl) e⟩
 | frz ob u ih=>obtain ⟨e,q⟩:=x;exact ⟨k _ _ (.inl rfl) e,ih q⟩
 | tbl ps =>
  have e:h.get? a=some { cls:=.none,data:=.fields ps }:=x;show h'.get? a=some { cls:=.none,data:=.fields ps }
  exact k a _ (.inl rfl) e
 | met f y =>
  have e:h.get? a=some (methodObj (.ref f) (.ref y)):=x;show h'.get? a=some (methodObj (.ref f) (.ref y))
  exact k a _ (.inl rfl) e
 | ext φ=>obtain ⟨p,⟨o,e⟩,st⟩:=x;exact ⟨st _ _ p λ o q=>k _ _ (.inl rfl) q,⟨o,k _ _ (.inl rfl) e⟩,st⟩
def HOk.lt (x:HOk P w H h) (e:H a=some o):a < h.objs.size:=(x a o e).lt
def HOk.fresh (x:HOk P w H h) (e:h.objs.size<=a):H a=none:=by
 cases q:H a with
 | none=>rfl
 | some u=>exact absurd (aG (x.lt q) e) (cm _)
def HOk.kept (x:HOk P w H h) (k:∀ b u,h.get? b=some u->h'.get? b=some u):HOk P w H h':=λ a o e =>
 (x a o e).stay (λ b u _ q=>k b u q) (λ _ q=>q) λ _ _ q=>q
def HOk.laid (x:HOk P w H h) (k:∀ b u,h.get? b=some u->h'.get? b=some u) (hp:h.objs.size<=a) (new:ObjOk P w (upd H a o) h' a o):HOk P w (upd H a o) h':=λ b u e=>by
 have hn:=x.fresh hp;by_cases hb:b=a
 ·subst hb;rw [mv] at e;cases e;exact new
 ·rw [mw hb] at e;exact (x b u e).stay (λ c v _ q=>k c v q) (λ c q=>by rw [mw (my q hn)];exact q) λ c xs q=>by rw [mw (my q hn)];exact q
end
def Rd (H:Hp) (a:Addr) (u:HO):Prop:=H a=some u\/∃ o,H a=some (.frz o u)
def Rd.of {a:Addr} {u:HO} (h:H a=some u):Rd H a u:=.inl h
def Rd.ok {h:Heap} {a:Addr} {u:HO} (r:Rd H a u) (x:HOk P w H h):ObjOk P w H h a u:=by
 rcases r with r|⟨o,r⟩
 ·exact x a u r
 ·obtain ⟨_,q⟩:=x a _ r;exact q
def Mut:Option HO->Prop
 | some (.lst _)=>True
 | some (.dK _)=>True
 | some (.dT _)=>True
 | some (.set _ _)=>True
 | some (.ins _ _ _)=>True
 | some (.ext _)=>True
 | _=>False
section
variable {P:Af} {w:World} {H:Hp} {h h':Heap} {x e:Addr} {o':HO}
def HOk.write (ok:HOk P w H h) (mu:Mut (H x)) (he:e=x\/H e=some (.own x)) (k:∀ b u,b≠e->h.get? b=some u->h'.get? b=some u) (heo:∃ u,h'.get? e=some u)
  (new:ObjOk P w (upd H x o') h' x o'):HOk P w (upd H x o') h':=λ b u q=>by
 have nown:∀ c y,H c=some (.own y)->c≠x:=λ c y r z=>by subst z;rw [r] at mu;exact mu
 have ntup:∀ c xs,H c=some (.tup xs)->c≠x:=λ c xs r z=>by subst z;rw [r] at mu;exact mu
 by_cases hb:b=x
 ·subst hb;rw [mv] at q;cases q;exact new
 ·rw [mw hb] at q;by_cases hbe:b=e
  ·have q':H b=some (.own x):=by
    rcases he with z|z
    ·exact absurd (hbe.trans z) hb
    ·rw [hbe];exact z
   rw [q] at q';cases q';obtain ⟨v,hv⟩:=heo;exact ⟨v,by rw [hbe];exact hv⟩
  ·refine (ok b u q).stay (λ c v hc r=>k c v ?_ r) (λ c r=>by rw [mw (nown c b r)];exact r) λ c xs r=>by rw [mw (ntup c xs r)];exact r
   rcases hc with rfl|hc
   ·exact hbe
   ·rintro rfl;rcases he with z|z
    ·exact nown c b hc z
    ·rw [hc] at z;cases z;exact hb rfl
end
structure Un (fs ex:Ab) (H H':Hp) (h h':Heap):Prop where
 keep:∀ b o,h.get? b=some o->H b=none->b ∉ fs->b ∉ ex->h'.get? b=some o
 slot:∀ b o,h.get? b=some o->H b=none->b∈fs->b ∉ ex->∃ sl,h'.get? b=some { o with slots:=sl }
 free:∀ b o,h.get? b=some o->H b=none->b ∉ ex->H' b=none
 there:∀ b o,h.get? b=some o->b ∉ ex->∃ o',h'.get? b=some o'
 tups:∀ b xs,H b=some (.tup xs)->H' b=some (.tup xs)
 frzs:∀ b o u,H b=some (.frz o u)->H' b=some (.frz o u)
 tbls:∀ b ps,H b=some (.tbl ps)->∃ more,H' b=some (.tbl (ps ++ more))
section
variable {fs fs' ex ex':Ab} {H H1 H2:Hp} {h h1 h2 h':Heap} {a x e:Addr} {o:HO}
def Un.any (u:Un fs ex H H1 h h1) {ob:Obj} (q:h.get? b=some ob) (n:H b=none) (hx:b ∉ ex):∃ sl,h1.get? b=some { ob with slots:=sl }:=by
 by_cases hb:b∈fs
 ·exact u.slot b ob q n hb hx
 ·exact ⟨ob.slots,u.keep b ob q n hb hx⟩
def Un.trans (a:Un fs ex H H1 h h1) (b:Un fs ex H1 H2 h1 h2):Un fs ex H H2 h h2 where
 keep:=λ c ob q n hc hx=>b.keep c ob (a.keep c ob q n hc hx) (a.free c ob q n hx) hc hx
 slot:=λ c ob q n hc hx=>by
  obtain ⟨sl,e1⟩:=a.slot c ob q n hc hx;obtain ⟨sl',e2⟩:=b.slot c _ e1 (a.free c ob q n hx) hc hx;exact ⟨sl',e2⟩
 free:=λ c ob q n hx=>by
  obtain ⟨o',e1⟩:=a.there c ob q hx;exact b.free c o' e1 (a.free c ob q n hx) hx
 there:=λ c ob q hx=>by
  obtain ⟨o',e1⟩:=a.there c ob q hx;exact b.there c o' e1 hx
 tups:=λ c xs q=>b.tups c xs (a.tups c xs q)
 frzs:=λ c ob xs q=>b.frzs c ob xs (a.frzs c ob xs q)
 tbls:=λ c ps q=>by
  obtain ⟨m1,e1⟩:=a.tbls c ps q;obtain ⟨m2,e2⟩:=b.tbls c _ e1;exact ⟨m1 ++ m2,by rw [e2,fE]⟩
def Un.kept (k:∀ b u,h.get? b=some u->h'.get? b=some u):Un fs ex H H h h' :=
 ⟨λ b ob q _ _ _=>k b ob q,λ b ob q _ _ _=>⟨ob.slots,k b ob q⟩,λ _ _ _ n _=>n,λ b ob q _=>⟨ob,k b ob q⟩,λ _ _ q=>q,λ _ _ _ q=>q,λ _ ps q=>⟨#[],by rw [q];simp⟩⟩
def Un.refl:Un fs ex H H h h:=Un.kept λ _ _ q=>q
def Un.laid (k:∀ b u,h.get? b=some u->h'.get? b=some u) (hp:h.objs.size<=a) (hn:H a=none):Un fs ex H (upd H a o) h h' where
 keep:=λ b u q _ _ _=>k b u q
 slot:=λ b u q _ _ _=>⟨u.slots,k b u q⟩
 free:=λ b u q n _=>by rw [mw (aI (aG (av q) hp))];exact n
 there:=λ b u q _=>⟨u,k b u q⟩
 tups:=λ b xs q=>by rw [mw (my q hn)];exact q
 frzs:=λ b u xs q=>by rw [mw (my q hn)];exact q
 tbls:=λ b ps q=>⟨#[],by rw [mw (my q hn),q];simp⟩
def Un.write (mu:Mut (H x)) (he:e=x\/H e=some (.own x)) (k:∀ b u,b≠e->h.get? b=some u->h'.get? b=some u) (heo:∃ u,h'.get? e=some u):Un fs ex H (upd H x o) h h':=by
 have hx:∀ b,H b=none->b≠x:=λ b n z=>by subst z;rw [n] at mu;exact mu
 have hb:∀ b,H b=none->b≠e:=λ b n z=>by
  subst z;rcases he with r|r
  ·exact hx b n r
  ·rw [n] at r;cases r
 have hm:∀ b u,H b=some u->¬ Mut (some u)->b≠x:=λ b u q nm z=>by subst z;rw [q] at mu;exact nm mu
 refine ⟨λ b u q n _ _=>k b u (hb b n) q,λ b u q n _ _=>⟨u.slots,k b u (hb b n) q⟩,λ b u q n _=>by rw [mw (hx b n)];exact n,λ b u q _=>?_,
  λ b xs q=>by rw [mw (hm b _ q λ z=>z)];exact q,λ b u xs q=>by rw [mw (hm b _ q λ z=>z)];exact q,λ b ps q=>⟨#[],by rw [mw (hm b _ q λ z=>z),q];simp⟩⟩
 by_cases hbe:b=e
 ·subst hbe;exact heo
 ·exact ⟨u,k b u hbe q⟩
def Un.mono (u:Un fs ex H H1 h h1) (hs:∀ b∈fs,b∈fs') (hx:∀ b∈ex,b∈ex'):Un fs' ex' H H1 h h1 :=
 ⟨λ b ob q n hb he=>u.keep b ob q n (λ z=>hb (hs b z)) λ z=>he (hx b z),λ _ _ q n _ he=>u.any q n λ z=>he (hx _ z),λ b ob q n he=>u.free b ob q n λ z=>he (hx b z),λ b ob q he=>u.there b ob q λ z=>he (hx b z),u.tups,u.frzs,u.tbls⟩
end
noncomputable def trk (h:Heap) (H:Hp):List Addr:=(List.range h.objs.size).filter λ a=>(H a).isSome
noncomputable def Wt (h:Heap) (H:Hp):Heap:=PySem.W.hideAll h (trk h H)
def zcu (h:Heap) (H:Hp):(Wt h H).objs.size=h.objs.size:=PySem.W.hideAll_size _ _
def zdQ {h:Heap} {o:Obj} (e:h.get? b=some o) (n:H b=none):(Wt h H).get? b=some o :=
 PySem.W.hideAll_get _ e λ hm=>by
  have q:(H b).isSome=true:=(b7.mp hm).2;rw [n] at q;simp at q
def zeO {h:Heap} {o:Obj} (e:(Wt h H).get? b=some o):h.get? b=some o/\H b=none:=by
 have e':h.get? b=some o:=PySem.W.of_hideAll (trk h H) e;refine ⟨e',?_⟩;cases q:H b with
 | none=>rfl
 | some x =>
  have hm:b∈trk h H:=b7.mpr ⟨bu.mpr (av e'),by simp [q]⟩;have z:(Wt h H).get? b=none:=PySem.W.hideAll_none (trk h H) hm;rw [z] at e;cases e
noncomputable def zfb (g h:Heap) (L:Addr):List (Addr × Obj):=(List.range h.objs.size).filterMap λ a=>if a=L\/(g.get? a).isSome=true then none else (h.get? a).map λ o=>(a,o)
noncomputable def rest (g h:Heap) (L d:Addr):List (Addr × Obj):=(zfb g h L).filter λ p=>decide (p.1≠d)
structure Mod (K:A0) (mg:A4) (base:Heap):Prop where
 kin:K.In base
 glob:base.Ns mainGlobals mg
 blt:∃ mb,base.Ns builtinsNs mb/\∀ x:Str,x≠"__name__"->mb x=bootBuiltins x
 nolimit:base.NoLimit
structure Cx where
 prog:Program
 w:World
 K:PySem.W.Frag
 mg:Str->Option Value
 base:Heap
 A:Around
 N:List Str
 s₀:Shared
 H₀:Hp
 env:Env
 outer:List Env
 stack:List Env
 ex:List Addr
 fn:Str->Bool
 calm:Bool
 pn:List (Addr × Obj)
 xe:Value->Shared->Prop
variable {X:Cx}
noncomputable def frs (l:List Env):List Addr:=l.filterMap (·.frame)
noncomputable abbrev Cx.fs (X:Cx):List Addr:=frs X.outer
def Vis (sc:Scope) (x:Str):Prop:=sc.names.lookup x=some .local\/sc.names.lookup x=some .cell\/sc.names.lookup x=some .free
def Loc (sc:Scope) (x:Str):Prop:=sc.names.lookup x=some .local\/sc.names.lookup x=some .cell
def zhr (env:Env) (h:Heap) (m:A4) (x:Str) (u:Al):Prop :=
 (env.kindOf x=some .local/\m x=some u)\/((env.kindOf x=some .cell\/env.kindOf x=some .free)/\∃ c,env.cells.lookup x=some c/\h.IsCell c (some u))
structure Cx.Ok (X:Cx):Prop where
 mod:Mod X.K X.mg X.base
 kind:X.env.scope.kind=.function
 glob:X.env.globals=mainGlobals
 blt:X.env.builtins=builtinsNs
 above:X.s₀.heap.objs.size<=X.env.locals
 inj:∀ x y c,X.env.cells.lookup x=some c->X.env.cells.lookup y=some c->x=y
 has:∀ x,(X.env.kindOf x=some .cell\/X.env.kindOf x=some .free)->∃ c,X.env.cells.lookup x=some c
 cab:∀ x c,X.fn x=true->X.env.cells.lookup x=some c->X.s₀.heap.objs.size<=c
 hd:X.calm=true->X.A.handled=none
 frames:X.A.frames=some X.stack
 stk:X.stack=X.outer\/(X.stack=X.env :: X.outer/\X.env.frame=some X.env.locals)
 exf:∀ b∈X.ex,b≠X.env.locals/\∀ x c,X.env.cells.lookup x=some c->c≠b
 bs:∀ b o,X.base.get? b=some o->X.s₀.heap.get? b=some o/\X.H₀ b=none
 bsz:X.base.objs.size<=X.s₀.heap.objs.size
 noex:∀ b o,X.base.get? b=some o->b ∉ X.ex
 exfs:∀ b∈X.ex,b ∉ X.fs
 funs:X.s₀.heap.FunFrames X.base X.outer
 frf:∀ b∈X.fs,X.H₀ b=none
structure Inv (X:Cx) (l8:A2) (σ:List Ap) (H:Hp) (s:Am):Prop where
 ok:X.Ok
 os:s.os=X.s₀.os
 bare:AllBare s.gens
 base:Un X.fs X.ex X.H₀ H X.s₀.heap s.heap
 loc:∃ m,s.heap.Ns X.env.locals m/\∀ (i:Nat) (x:Str) (v:V),X.N[i]?=some x->σ[i]?=some (some v)->Vis X.env.scope x->∃ u,RelV v u/\zhr X.env s.heap m x u
 cell:∀ x c,X.env.cells.lookup x=some c->∃ v,s.heap.IsCell c v
 free:H X.env.locals=none
 freeC:∀ x c,X.env.cells.lookup x=some c->H c=none
 pin:∀ p∈X.pn ++ l8,s.heap.get? p.1=some p.2/\H p.1=none/\p.1≠X.env.locals/\p.1 ∉ X.fs/\∀ v,p.2.data≠.cell v
 hok:HOk X.prog X.w H s.heap
 len:σ.length=X.N.length
section
variable {X:Cx} {l8:A2} {σ:List Ap} {H H':Hp} {s:Am} {h':Heap}
def Cx.Ok.nofr (ok:X.Ok) {o:Obj} (e:X.base.get? b=some o):b ∉ X.fs:=λ hb=>by
 have:=(ok.funs.mem hb).1;rw [e] at this;cases this
def Inv.bs (I:Inv X l8 σ H s):∀ b o,X.base.get? b=some o->s.heap.get? b=some o/\H b=none:=λ b o e =>
 ⟨I.base.keep b o (I.ok.bs b o e).1 (I.ok.bs b o e).2 (I.ok.nofr e) (I.ok.noex b o e),I.base.free b o (I.ok.bs b o e).1 (I.ok.bs b o e).2 (I.ok.noex b o e)⟩
def Inv.bk (I:Inv X l8 σ H s):∀ b o,X.base.get? b=some o->s.heap.get? b=some o:=λ b o e=>(I.bs b o e).1
def Inv.mod (I:Inv X l8 σ H s):Mod X.K X.mg X.base:=I.ok.mod
def Inv.kIn (I:Inv X l8 σ H s):X.K.In s.heap:=I.ok.mod.kin.keeps I.bk
def Inv.nolimit (I:Inv X l8 σ H s):s.heap.NoLimit:=I.ok.mod.nolimit.keeps I.bk
def Inv.fr (I:Inv X l8 σ H s):∃ m,Fr X.base X.env.locals s.heap m :=
 let ⟨m,hn,_⟩:=I.loc
 ⟨m,hn,I.bk,bc I.ok.bsz I.ok.above⟩
def Inv.lt (I:Inv X l8 σ H s):X.env.locals < s.heap.objs.size:=by
 obtain ⟨_,hn,_⟩:=I.loc;exact hn.lt
def Inv.sz (I:Inv X l8 σ H s):X.s₀.heap.objs.size<=s.heap.objs.size:=bc I.ok.above (bV I.lt)
def Inv.nofs (I:Inv X l8 σ H s) {a:Addr} (h:s.heap.objs.size<=a):a ∉ X.fs:=λ hb=>by
 obtain ⟨_,o,ho,_⟩:=I.ok.funs.mem hb;exact absurd (aG (av ho) (bc I.sz h)) (cm _)
def Inv.cne (I:Inv X l8 σ H s):∀ x c,X.env.cells.lookup x=some c->c≠X.env.locals:=λ x c e z=>by
 obtain ⟨v,o,ho,hd⟩:=I.cell x c e;obtain ⟨m,⟨o',es,ep,ho',hd',_⟩,_⟩:=I.loc;rw [z,ho'] at ho;cases ho;rw [hd'] at hd;cases hd
def Inv.funs (I:Inv X l8 σ H s):s.heap.FunFrames X.base X.outer:=by
 have all:∀ (l:List Env),(∀ b∈frs l,b∈X.fs)->X.s₀.heap.FunFrames X.base l->s.heap.FunFrames X.base l:=by
  intro l
  induction l with
  | nil=>intro _ _;trivial
  | cons env r ih =>
   intro hs hl;obtain ⟨hk,⟨L,o,hf,hn,ho,hd⟩,hr⟩:=hl;have hL:L∈X.fs:=hs L (by unfold frs;rw [bS,hf];exact bw);obtain ⟨sl,e⟩:=I.base.slot L o ho (I.ok.frf L hL) hL λ z=>I.ok.exfs L z hL;exact ⟨hk,⟨L,_,hf,hn,e,hd⟩,ih (λ b hb=>hs b (by unfold frs;rw [bS,hf];exact aB _ hb)) hr⟩
 exact all X.outer (λ _ hb=>hb) I.ok.funs
def Inv.stack (I:Inv X l8 σ H s):s.heap.FunFrames X.base X.stack:=by
 rcases I.ok.stk with e|⟨e,hf⟩
 ·rw [e];exact I.funs
 ·rw [e];obtain ⟨m,hn,_⟩:=I.loc;refine .cons (by rw [I.ok.kind];decide) hf hn ?_ I.funs;exact Heap.get?_none_of_le (bc I.ok.bsz I.ok.above)
def Inv.stkSub (I:Inv X l8 σ H s):∀ b∈frs X.stack,b∈X.env.locals :: X.fs:=λ b hb=>by
 rcases I.ok.stk with e|⟨e,hf⟩
 ·rw [e] at hb;exact aB _ hb
 ·rw [e] at hb;unfold frs at hb;rw [bS,hf] at hb;exact hb
def Inv.stkFree (I:Inv X l8 σ H s):∀ b∈frs X.stack,H b=none:=λ b hb=>by
 rcases az.mp (I.stkSub b hb) with e|hb
 ·rw [e];exact I.free
 ·obtain ⟨_,o,ho,_⟩:=I.ok.funs.mem hb;exact I.base.free b o ho (I.ok.frf b hb) λ z=>I.ok.exfs b z hb
def Inv.step {g':Array GenState} {d':Drawn} {ch:Ab} (I:Inv X l8 σ H s)
  (hch:∀ b∈ch,(b∈X.ex\/X.s₀.heap.objs.size<=b)/\b≠X.env.locals/\(∀ x c,X.env.cells.lookup x=some c->c≠b)/\∀ p∈X.pn ++ l8,p.1≠b)
  (keep:∀ b o,b≠X.env.locals->b ∉ X.fs->b ∉ ch->s.heap.get? b=some o->H b=none->h'.get? b=some o)
  (slot:∀ b o,b≠X.env.locals->b∈X.fs->b ∉ ch->s.heap.get? b=some o->H b=none->∃ sl,h'.get? b=some { o with slots:=sl }) (free:∀ b o,b ∉ ch->s.heap.get? b=some o->H b=none->H' b=none)
  (there:∀ b o,b ∉ ch->s.heap.get? b=some o->∃ o',h'.get? b=some o')
  (tups:∀ b xs,H b=some (.tup xs)->H' b=some (.tup xs)) (frzs:∀ b o u,H b=some (.frz o u)->H' b=some (.frz o u)) (tbls:∀ b ps,H b=some (.tbl ps)->∃ more,H' b=some (.tbl (ps ++ more)))
  (ns:∀ m,s.heap.Ns X.env.locals m->h'.Ns X.env.locals m) (hok:HOk X.prog X.w H' h') (hg:AllBare g') :
  Inv X l8 σ H' { s with heap:=h',gens:=g',drawn:=d',toks:=t' }:=by
 have neL:∀ b o,X.s₀.heap.get? b=some o->b≠X.env.locals:=λ b o e=>aI (aG (av e) I.ok.above);have neC:∀ b o,X.s₀.heap.get? b=some o->b ∉ X.ex->b ∉ ch:=λ b o e hx hb=>by
  rcases (hch b hb).1 with z|z
  ·exact hx z
  ·exact absurd (aG (av e) z) (cm _)
 have cellK:∀ x c,X.env.cells.lookup x=some c->∀ v,s.heap.IsCell c v->h'.IsCell c v:=λ x c e v ⟨o,ho,hd⟩=>by
  have nch:c ∉ ch:=λ z=>(hch c z).2.2.1 x c e rfl;by_cases hc:c∈X.fs
  ·obtain ⟨sl,q⟩:=slot c o (I.cne x c e) hc nch ho (I.freeC x c e);exact ⟨_,q,hd⟩
  ·exact ⟨o,keep c o (I.cne x c e) hc nch ho (I.freeC x c e),hd⟩
 refine ⟨I.ok,I.os,hg,⟨λ b o e n hb hx=>?_,λ b o e n hb hx=>?_,λ b o e n hx=>?_,λ b o e hx=>?_,λ b xs e=>tups b xs (I.base.tups b xs e),λ b o xs e=>frzs b o xs (I.base.frzs b o xs e),λ b ps e=>?_⟩,?_,λ x c e=>?_,?_,λ x c e=>?_,λ p hp=>?_,hok,I.len⟩
 ·exact keep b o (neL b o e) hb (neC b o e hx) (I.base.keep b o e n hb hx) (I.base.free b o e n hx)
 ·obtain ⟨sl,e1⟩:=I.base.slot b o e n hb hx;obtain ⟨sl',e2⟩:=slot b _ (neL b o e) hb (neC b o e hx) e1 (I.base.free b o e n hx);exact ⟨sl',e2⟩
 ·obtain ⟨o',e1⟩:=I.base.there b o e hx;exact free b o' (neC b o e hx) e1 (I.base.free b o e n hx)
 ·obtain ⟨o',e1⟩:=I.base.there b o e hx;exact there b o' (neC b o e hx) e1
 ·obtain ⟨m1,e1⟩:=I.base.tbls b ps e;obtain ⟨m2,e2⟩:=tbls b _ e1;exact ⟨m1 ++ m2,by rw [e2,fE]⟩
 ·obtain ⟨m,hn,hl⟩:=I.loc;refine ⟨m,ns m hn,λ i x v e1 e2 e3=>?_⟩;obtain ⟨u,r,l⟩:=hl i x v e1 e2 e3;refine ⟨u,r,?_⟩;rcases l with l|⟨k,c,e,z⟩
  ·exact .inl l
  ·exact .inr ⟨k,c,e,cellK x c e _ z⟩
 ·obtain ⟨v,z⟩:=I.cell x c e;exact ⟨v,cellK x c e v z⟩
 ·obtain ⟨m,⟨o,_,_,ho,_⟩,_⟩:=I.loc;exact free _ o (λ z=>(hch _ z).2.1 rfl) ho I.free
 ·obtain ⟨v,o,ho,hd⟩:=I.cell x c e;exact free c o (λ z=>(hch c z).2.2.1 x c e rfl) ho (I.freeC x c e)
 ·obtain ⟨e,n,ne,nf,d⟩:=I.pin p hp;have nch:p.1 ∉ ch:=λ z=>(hch p.1 z).2.2.2 p hp rfl;exact ⟨keep p.1 p.2 ne nf nch e n,free p.1 p.2 nch e n,ne,nf,d⟩
def Inv.un (I:Inv X l8 σ H s) (u:Un X.fs [] H H' s.heap h') (hok:HOk X.prog X.w H' h'):Inv X l8 σ H' { s with heap:=h',toks:=t' }:=by
 obtain ⟨m,⟨o,es,ep,ho,r⟩,_⟩:=id I.loc;obtain ⟨sl,hL⟩:=u.any ho I.free (by simp);exact I.step (g':=s.gens) (d':=s.drawn) (ch:=[]) (λ _ z=>nomatch z) (λ b o _ hb _ e n=>u.keep b o e n hb (by simp)) (λ b o _ hb _ e n=>u.slot b o e n hb (by simp)) (λ b o _ e n=>u.free b o e n (by simp)) (λ b o _ e=>u.there b o e (by simp)) u.tups u.frzs u.tbls (λ m' hm=>by
  obtain ⟨o',es',ep',ho',r'⟩:=hm;rw [ho] at ho';cases ho';exact ⟨_,es',ep',hL,r'⟩) hok I.bare
def Inv.call {g':Array GenState} {d':Drawn} {ch:Ab} (I:Inv X l8 σ H s) (u:Un (frs X.stack) ch H H' s.heap h') (hok:HOk X.prog X.w H' h') (hg:AllBare g')
  (hch:∀ b∈ch,(b∈X.ex\/X.s₀.heap.objs.size<=b)/\b≠X.env.locals/\(∀ x c,X.env.cells.lookup x=some c->c≠b)/\∀ p∈X.pn ++ l8,p.1≠b) :
  Inv X l8 σ H' { s with heap:=h',gens:=g',drawn:=d',toks:=t' }:=by
 obtain ⟨m,⟨o,es,ep,ho,r⟩,_⟩:=id I.loc;obtain ⟨sl,hL⟩:=u.any ho I.free λ z=>(hch _ z).2.1 rfl;exact I.step (ch:=ch) hch (λ b o hL hb hc e n=>u.keep b o e n (λ z=>(az.mp (I.stkSub b z)).elim hL hb) hc) (λ b o _ _ hc e n=>u.any e n hc) (λ b o hc e n=>u.free b o e n hc) (λ b o hc e=>u.there b o e hc) u.tups u.frzs u.tbls (λ m' hm=>by
  obtain ⟨o',es',ep',ho',r'⟩:=hm;rw [ho] at ho';cases ho';exact ⟨_,es',ep',hL,r'⟩) hok hg
def Inv.turned {it:Addr} (I:Inv X l8 σ H s) (k:∀ b o,b≠it->s.heap.get? b=some o->h'.get? b=some o) (hn:H it=none) (hL:it≠X.env.locals)
  (h1:it∈X.ex\/X.s₀.heap.objs.size<=it) (h2:∀ x c,X.env.cells.lookup x=some c->c≠it) (h3:∀ p∈X.pn ++ l8,p.1≠it):Inv X l8 σ H { s with heap:=h',toks:=t' }:=by
 have nit:∀ b u,H b=some u->b≠it:=λ b u e z=>by rw [z,hn] at e;cases e
 refine I.step (g':=s.gens) (d':=s.drawn) (ch:=[it]) (λ b hb=>?_) (λ b o _ _ hc e _=>k b o (λ z=>hc (by simp [z])) e) (λ b o _ _ hc e _=>⟨o.slots,k b o (λ z=>hc (by simp [z])) e⟩) (λ _ _ _ _ n=>n)
  (λ b o hc e=>⟨o,k b o (λ z=>hc (by simp [z])) e⟩) (λ _ _ e=>e) (λ _ _ _ e=>e) (λ b ps e=>⟨#[],by rw [e];simp⟩) (λ m hm=>?_) (λ b u e=>?_) I.bare
 ·have e:b=it:=by simpa using hb
  subst e;exact ⟨h1,hL,h2,h3⟩
 ·obtain ⟨o,es,ep,ho,r⟩:=hm;exact ⟨o,es,ep,k _ o (aZ hL) ho,r⟩
 ·refine (I.hok b u e).stay (λ c v hc q=>k c v ?_ q) (λ _ q=>q) λ _ _ q=>q;rcases hc with z|z
  ·rw [z];exact nit b u e
  ·exact nit c _ z
def Inv.tok (I:Inv X l8 σ H s) (t:Nat):Inv X l8 σ H { s with toks:=t }:=I.un (h':=s.heap) (t':=t) Un.refl I.hok
def Inv.kept (I:Inv X l8 σ H s) (k:∀ b u,s.heap.get? b=some u->h'.get? b=some u):Inv X l8 σ H { s with heap:=h',toks:=t' }:=I.un (Un.kept k) (I.hok.kept k)
def Inv.laid {a:Addr} (I:Inv X l8 σ H s) (k:∀ b u,s.heap.get? b=some u->h'.get? b=some u) (hp:s.heap.objs.size<=a) (new:ObjOk X.prog X.w (upd H a o) h' a o) :
  Inv X l8 σ (upd H a o) { s with heap:=h',toks:=t' }:=I.un (Un.laid k hp (I.hok.fresh hp)) (I.hok.laid k hp new)
def Inv.write {x e:Addr} (I:Inv X l8 σ H s) (mu:Mut (H x)) (he:e=x\/H e=some (.own x)) (k:∀ b u,b≠e->s.heap.get? b=some u->h'.get? b=some u) (heo:∃ u,h'.get? e=some u)
  (new:ObjOk X.prog X.w (upd H x o) h' x o):Inv X l8 σ (upd H x o) { s with heap:=h',toks:=t' }:=I.un (Un.write mu he k heo) (I.hok.write mu he k heo new)
def Inv.pins_of {pins':A2} (I:Inv X l8 σ H s) (h:∀ p∈pins',s.heap.get? p.1=some p.2/\H p.1=none/\p.1≠X.env.locals/\p.1 ∉ X.fs/\∀ v,p.2.data≠.cell v):Inv X pins' σ H s :=
 ⟨I.ok,I.os,I.bare,I.base,I.loc,I.cell,I.free,I.freeC,λ p hp=>(aF.mp hp).elim (λ z=>I.pin p (bj _ z)) (h p),I.hok,I.len⟩
def Jj {N:A8} (hN:N.Nodup) {i j:Nat} (a:N[i]?=some x) (b:N[j]?=some x):i=j:=by
 obtain ⟨h1,e1⟩:=aa.mp a;obtain ⟨h2,e2⟩:=aa.mp b;exact (List.getElem_inj hN).mp (e1.trans e2.symm)
def Xl {v:V} {Q:Ag} (I:Inv X l8 σ H s) (hN:X.N.Nodup) (hi:X.N[i]?=some x) (hx:Loc X.env.scope x) (r:RelV v u)
  (h:∀ s',Inv X l8 (σ.set i (some v)) H s'->(∃ a,Heap.SameBut a s.heap s'.heap/\(a=X.env.locals\/X.env.cells.lookup x=some a))->Q () s') (hf:X.fn x=true\/X.env.scope.names.lookup x=some .local:=by walk_at "p"):wpAny M A (storeName X.env x u) Q E s:=by
 obtain ⟨m,hn,hl⟩:=id I.loc;have hcls:(X.env.scope.kind == .class || (X.env.scope.kind == .module && X.env.locals != X.env.globals))=false:=by rw [I.ok.kind];rfl
 have hiσ:i < σ.length:=by rw [I.len];exact (aa.mp hi).1
 have cne:=I.cne;have tracked:∀ {a:Addr} {h':Heap},(∃ o,s.heap.get? a=some o/\H a=none)->Heap.SameBut a s.heap h'->HOk X.prog X.w H h':=λ {a h'} ha hs b ob e=>by
  obtain ⟨_,_,hfree⟩:=ha;refine (I.hok b ob e).stay (λ c w' hc q=>(hs.2 c ?_).trans q) (λ _ q=>q) λ _ _ q=>q;rintro rfl;rcases hc with rfl|hc
  ·rw [hfree] at e;cases e
  ·rw [hfree] at hc;cases hc
 rcases hx with hk|hk
 ·refine wpAny_storeName_local hk hn (λ h' hn' hs=>?_) hcls;obtain ⟨oL,_,_,hoL,_⟩:=id hn;refine h _ ⟨I.ok,I.os,I.bare,⟨λ b o e n hb hx=>?_,λ b o e n hb hx=>?_,I.base.free,λ b o e hx=>?_,I.base.tups,I.base.frzs,I.base.tbls⟩,⟨_,hn',λ j y v' e1 e2 e3=>?_⟩,λ y c e=>?_,I.free,I.freeC,λ p hp=>?_,tracked ⟨oL,hoL,I.free⟩ hs,by simpa using I.len⟩ ⟨_,hs,.inl rfl⟩
  ·exact (hs.2 b (aI (aG (av e) I.ok.above))).trans (I.base.keep b o e n hb hx)
  ·obtain ⟨sl,e1⟩:=I.base.slot b o e n hb hx;exact ⟨sl,(hs.2 b (aI (aG (av e) I.ok.above))).trans e1⟩
  ·obtain ⟨o',e1⟩:=I.base.there b o e hx;exact ⟨o',(hs.2 b (aI (aG (av e) I.ok.above))).trans e1⟩
  ·by_cases hj:j=i
   ·subst hj;rw [hi] at e1;cases e1;rw [bx hiσ] at e2;cases e2;exact ⟨u,r,.inl ⟨hk,by simp⟩⟩
   ·rw [bM (aZ hj)] at e2;obtain ⟨u',r',q⟩:=hl j y v' e1 e2 e3;refine ⟨u',r',?_⟩;rcases q with ⟨k,e⟩|⟨k,c,e,z⟩
    ·refine .inl ⟨k,?_⟩;have:y≠x:=λ e=>hj (Jj hN e1 (e ▸ hi));simp [this,e]
    ·exact .inr ⟨k,c,e,z.sameBut hs (cne y c e)⟩
  ·obtain ⟨w',z⟩:=I.cell y c e;exact ⟨w',z.sameBut hs (cne y c e)⟩
  ·obtain ⟨e,n,ne,nf,d⟩:=I.pin p hp;exact ⟨(hs.2 p.1 ne).trans e,n,ne,nf,d⟩
 ·have hfn:X.fn x=true:=by
   rcases hf with z|z
   ·exact z
   ·rw [z] at hk;cases hk
  obtain ⟨c,hc⟩:=I.ok.has x (.inl hk);obtain ⟨w',z⟩:=I.cell x c hc;refine wpAny_storeName_cell I.ok.kind hk hc z (λ h' hc' hs=>?_);obtain ⟨oc,hoc,hocd⟩:=id z;refine h { s with heap:=h' } ⟨I.ok,I.os,I.bare,⟨λ b o e n hb hx=>?_,λ b o e n hb hx=>?_,I.base.free,λ b o e hx=>?_,I.base.tups,I.base.frzs,I.base.tbls⟩,⟨m,hn.sameBut hs (aZ (cne x c hc)),λ j y v' e1 e2 e3=>?_⟩,λ y c' e=>?_,I.free,I.freeC,λ p hp=>?_,tracked ⟨oc,hoc,I.freeC x c hc⟩ hs,by simpa using I.len⟩ ⟨c,hs,.inr hc⟩
  ·exact (hs.2 b (aI (aG (av e) (I.ok.cab x c hfn hc)))).trans (I.base.keep b o e n hb hx)
  ·obtain ⟨sl,e1⟩:=I.base.slot b o e n hb hx;exact ⟨sl,(hs.2 b (aI (aG (av e) (I.ok.cab x c hfn hc)))).trans e1⟩
  ·obtain ⟨o',e1⟩:=I.base.there b o e hx;exact ⟨o',(hs.2 b (aI (aG (av e) (I.ok.cab x c hfn hc)))).trans e1⟩
  ·by_cases hj:j=i
   ·subst hj;rw [hi] at e1;cases e1;rw [bx hiσ] at e2;cases e2;exact ⟨u,r,.inr ⟨.inl hk,c,hc,hc'⟩⟩
   ·rw [bM (aZ hj)] at e2;obtain ⟨u',r',q⟩:=hl j y v' e1 e2 e3;refine ⟨u',r',?_⟩;rcases q with q|⟨k,c',e,z'⟩
    ·exact .inl q
    ·refine .inr ⟨k,c',e,z'.sameBut hs ?_⟩;rintro rfl;exact hj (Jj hN e1 (I.ok.inj _ _ _ e hc ▸ hi))
  ·by_cases hcc:c'=c
   ·subst hcc;exact ⟨_,hc'⟩
   ·obtain ⟨w2,z2⟩:=I.cell y c' e;exact ⟨w2,z2.sameBut hs hcc⟩
  ·obtain ⟨e,n,ne,nf,d⟩:=I.pin p hp;refine ⟨(hs.2 p.1 ?_).trans e,n,ne,nf,d⟩;intro q;rw [q,hoc] at e;have q':oc=p.2:=aU e;exact d w' (by rw [<- q'];exact hocd)
def QK {v:V} {Q:Ag} (I:Inv X l8 σ H s) (hN:X.N.Nodup) (hi:X.N[i]?=some x) (hx:Loc X.env.scope x) (r:RelV v u)
  (h:∀ s',Inv X l8 (σ.set i (some v)) H s'->Q () s') (hf:X.fn x=true\/X.env.scope.names.lookup x=some .local:=by walk_at "p"):wpAny M A (storeName X.env x u) Q E s :=
 Xl I hN hi hx r (λ s' I' _=>h s' I') hf
def Inv.call' {s':Am} {ch:Ab} (I:Inv X l8 σ H s) (ho:s'.os=s.os) (u:Un (frs X.stack) ch H H' s.heap s'.heap) (hok:HOk X.prog X.w H' s'.heap) (hg:AllBare s'.gens)
  (hch:∀ b∈ch,(b∈X.ex\/X.s₀.heap.objs.size<=b)/\b≠X.env.locals/\(∀ x c,X.env.cells.lookup x=some c->c≠b)/\∀ p∈X.pn ++ l8,p.1≠b):Inv X l8 σ H' s':=by
 obtain ⟨h',g',d',t',o'⟩:=s';have e:o'=s.os:=ho;subst e;exact I.call (g':=g') (t':=t') (d':=d') u hok hg hch
end
abbrev XK:=Value->Option Addr->Hp->Prop
abbrev St:=List Ap
variable {σ:St}
abbrev VK:=V->Hp->Prop
abbrev TE:=St->Hp->VK->Prop
abbrev TT:=St->Hp->(Bool->Hp->Prop)->Prop
abbrev TA:=St->Hp->(List V->Hp->Prop)->Prop
structure Ends where
 nx:St->Hp->Prop
 rt:VK
 bk:St->Hp->Prop:=λ _ _=>False
 ct:St->Hp->Prop:=λ _ _=>False
abbrev TS:=Ends->St->Hp->Prop
def EP (X:Cx) (l8:A2) (σ:St) (Q:VK) (u:Al) (s':Am):Prop:=∃ v H',Inv X l8 σ H' s'/\RelV v u/\Q v H'
def TP (X:Cx) (l8:A2) (σ:St) (Q:Bool->Hp->Prop) (b:Bool) (s':Am):Prop:=∃ H',Inv X l8 σ H' s'/\Q b H'
def AP (X:Cx) (l8:A2) (σ:St) (Q:List V->Hp->Prop) (us:A7) (s':Am):Prop:=∃ vs H',Inv X l8 σ H' s'/\Vals vs us/\Q vs H'
def SP (X:Cx) (l8:A2) (D:Ends) (f:Flow) (s':Am):Prop :=
 match f with
 | .next=>∃ σ' H',Inv X l8 σ' H' s'/\D.nx σ' H'
 | .brk=>∃ σ' H',Inv X l8 σ' H' s'/\D.bk σ' H'
 | .cont=>∃ σ' H',Inv X l8 σ' H' s'/\D.ct σ' H'
 | .ret u=>∃ v σ' H',Inv X l8 σ' H' s'/\RelV v u/\D.rt v H'
def PE (X:Cx) (e:Expr) (t:TE):Prop :=
 ∀ (l8:A2) (s:Am) (σ:St) (H:Hp) (Q:VK),Inv X l8 σ H s->t σ H Q->wpAny (model X.prog X.w) X.A (eval e X.env) (EP X l8 σ Q) X.xe s
def PT (X:Cx) (e:Expr) (t:TT):Prop :=
 ∀ (l8:A2) (s:Am) (σ:St) (H:Hp) (Q:Bool->Hp->Prop),Inv X l8 σ H s->t σ H Q->wpAny (model X.prog X.w) X.A (isTrue e X.env (eval e X.env)) (TP X l8 σ Q) X.xe s
def PW (X:Cx) (e:Expr) (t:TT):Prop :=
 ∀ (whole:Sem Value) (l8:A2) (s:Am) (σ:St) (H:Hp) (Q:Bool->Hp->Prop),Inv X l8 σ H s->t σ H Q->wpAny (model X.prog X.w) X.A (isTrue e X.env whole) (TP X l8 σ Q) X.xe s
def PW.pt {e:Expr} {t:TT} (h:PW X e t):PT X e t:=h _
def PA (X:Cx) (es:List Expr) (t:TA):Prop :=
 ∀ (pos:Pos) (l8:A2) (s:Am) (σ:St) (H:Hp) (Q:List V->Hp->Prop),Inv X l8 σ H s->t σ H Q->wpAny (model X.prog X.w) X.A (spliced (backTo pos (starEach es X.env))) (AP X l8 σ Q) X.xe s
def PS (X:Cx) (st:Stmt) (t:TS):Prop :=
 ∀ (l8:A2) (s:Am) (σ:St) (H:Hp) (D:Ends),Inv X l8 σ H s->t D σ H->wpAny (model X.prog X.w) X.A (exec st X.env) (SP X l8 D) X.xe s
def PSs (X:Cx) (st:List Stmt) (t:TS):Prop :=
 ∀ (l8:A2) (s:Am) (σ:St) (H:Hp) (D:Ends),Inv X l8 σ H s->t D σ H->wpAny (model X.prog X.w) X.A (execs st X.env) (SP X l8 D) X.xe s
def thn {α:Type} {t:Sem α} {Q Q':α->Shared->Prop} (h:wpAny M A t Q E s) (hQ:∀ a s,Q a s->Q' a s):wpAny M A t Q' E s:=aQ h hQ λ _ _ x=>x
def qp {Q:VK} {t:Sem Value} {Q':A3} (h:wpAny M A t (EP X l8 σ Q) E s) (k:∀ u s1 x H1,Inv X l8 σ H1 s1->RelV x u->Q x H1->Q' u s1):wpAny M A t Q' E s:=thn h λ u s1 e=>by
 obtain ⟨x,H1,I1,r,q⟩:=e;exact k u s1 x H1 I1 r q
def we {Q:List V->Hp->Prop} {t:Sem A7} {Q':List Value->Shared->Prop} (h:wpAny M A t (AP X l8 σ Q) E s) (k:∀ us s1 vs H1,Inv X l8 σ H1 s1->Vals vs us->Q vs H1->Q' us s1):wpAny M A t Q' E s:=thn h λ u s1 e=>by
 obtain ⟨x,H1,I1,r,q⟩:=e;exact k u s1 x H1 I1 r q
section
variable {X:Cx}
def bq:V->(Bool->Prop)->Prop
 | .bl k,P=>P k
 | _,_=>False
def Qd {x:V} {P:Bool->Prop} (h:bq x P):∃ k,x=.bl k/\P k:=by
 cases x <;> first|exact ⟨_,rfl,h⟩|exact False.elim h
def iq:V->(Int->Prop)->Prop
 | .int i,P=>P i
 | _,_=>False
def Zo {x:V} {P:Int->Prop} (h:iq x P):∃ i,x=.int i/\P i:=by
 cases x <;> first|exact ⟨_,rfl,h⟩|exact False.elim h
def JA {x y:V} {P:Int->Int->Prop} (h:iq x λ i=>iq y λ j=>P i j):∃ i j,x=.int i/\y=.int j/\P i j:=by
 obtain ⟨i,e,h⟩:=Zo h;obtain ⟨j,e2,h⟩:=Zo h;exact ⟨i,j,e,e2,h⟩
def nq:V->Prop->Prop
 | .non,P=>P
 | _,_=>False
def zbt {x:V} {P:Prop} (h:nq x P):x=.non/\P:=by
 cases x <;> first|exact ⟨rfl,h⟩|exact False.elim h
def lq:List V->(V->Prop)->Prop
 | [v],P=>P v
 | _,_=>False
theorem zdC:∀ {xs:Ao} {P:V->Prop},lq xs P->∃ v,xs=[v]/\P v
 | [_],_,h=>⟨_,rfl,h⟩
 | [],_,h=>h.elim
 | _ :: _ :: _,_,h=>h.elim
def vq:Option Ap->(V->Prop)->Prop
 | some (some v),P=>P v
 | _,_=>False
theorem zgz:∀ {o:Option Ap} {P:V->Prop},vq o P->∃ v,o=some (some v)/\P v
 | some (some v),_,h=>⟨v,rfl,h⟩
 | some none,_,h=>h.elim
 | none,_,h=>h.elim
def szl (xs:Ao) (P:Prop):Prop:=cond (Nat.ble xs.length 12) P False
def zae {xs:Ao} {P:Prop} (h:szl xs P):xs.length<=sizeLine/\P:=by
 unfold szl at h;cases e:Nat.ble xs.length 12 with
 | true=>rw [e] at h;exact ⟨bc (Nat.le_of_ble_eq_true e) (by decide),h⟩
 | false=>rw [e] at h;exact h.elim
def tVar (i:Nat):TE:=λ σ H Q=>vq σ[i]? λ v=>Q v H
def tC (v:V):TE:=λ _ H Q=>Q v H
def zfS (hN:X.N[i]?=some x) (hv:Vis X.env.scope x) (hd:(x == ("__debug__":Str))=false:=by decide) (hcd:(x == ("__classdict__":Str))=false:=by decide):PE X (.Name x pos) (tVar i):=by
 intro l8 s σ H Q I h;obtain ⟨v,e,h⟩:=zgz h;obtain ⟨m,hn,hl⟩:=I.loc;obtain ⟨u,r,l⟩:=hl i x v hN e hv;have fin:EP X l8 σ Q u s:=⟨v,H,I,r,h⟩;rcases l with ⟨hk,hm⟩|⟨hk,c,hc,hcell⟩
 ·exact wpAny_Name (wpAny_loadName_local I.ok.kind hk hn hm fin) hd
 ·rcases hk with hk|hk
  ·exact wpAny_Name (wpAny_loadName_cell I.ok.kind hk hc hcell fin) hd
  ·exact wpAny_Name (wpAny_loadName_free I.ok.kind hk hc hcell fin hcd) hd
def zd {i j pos}:PE X (.Constant (.int i) j pos) (tC (.int i)):=λ _ _ _ H _ I h=>wpAny_Constant_int ⟨.int i,H,I.tok _,⟨_,rfl⟩,h⟩
def Jb {b j pos}:PE X (.Constant (.bool b) j pos) (tC (.bl b)):=λ _ _ _ H _ I h=>Constant_bool ⟨.bl b,H,I,rfl,h⟩
def zz {j pos}:PE X (.Constant .none j pos) (tC .non):=λ _ _ _ H _ I h=>Constant_none ⟨.non,H,I,rfl,h⟩
def j9 {x j pos}:PE X (.Constant (.str x) j pos) (tC (.str x)):=λ _ _ _ H _ I h=>Calls.Constant_str ⟨.str x,H,I.tok _,⟨_,rfl⟩,h⟩
def Gl (X:Cx) (x:Str):Prop:=X.env.kindOf x=some .globalImplicit
def jw (I:Inv X l8 σ H s) (hg:Gl X x) (hm:X.mg x=some u) (h:Q u s)
  (hd:(x == ("__debug__":Str))=false:=by decide):wpAny (model X.prog X.w) X.A (eval (.Name x pos) X.env) Q E s :=
 ff I.ok.kind hg (Calls.loadGlobal_global (by rw [I.ok.glob];exact I.mod.glob.keeps I.bk) hm h) hd
def xW (I:Inv X l8 σ H s) (hg:Gl X x) (hm:X.mg x=none) (hv:bootBuiltins x=some u) (h:Q u s)
  (hn:x≠"__name__":=by decide) (hd:(x == ("__debug__":Str))=false:=by decide):wpAny (model X.prog X.w) X.A (eval (.Name x pos) X.env) Q E s:=by
 obtain ⟨mb,h1,h2⟩:=I.mod.blt;exact ff I.ok.kind hg (Calls.loadGlobal_builtin (by rw [I.ok.glob];exact I.mod.glob.keeps I.bk) hm (by rw [I.ok.blt];exact h1.keeps I.bk) ((h2 x hn).trans hv) h) hd
variable {a b:Expr} {ta tb:TE} {pos:Pos}
def PC (X:Cx) (op:CmpOp) (a b:Expr) (t:TE):Prop :=
 ∀ (l8:A2) (s:Am) (σ:St) (H:Hp) (Q:VK),Inv X l8 σ H s->t σ H Q ->
  wpAny (model X.prog X.w) X.A (eval a X.env) (λ v s₁=>wpAny (model X.prog X.w) X.A (eval b X.env) (λ u s₂=>wpAny (model X.prog X.w) X.A (compareOp op v u) (EP X l8 σ Q) X.xe s₂) X.xe s₁) X.xe s
def nobehind (b:Expr) (h:op≠.In) (h2:op≠.NotIn):behindInMarks op b=false:=by
 have e1:(op == CmpOp.In)=false:=by cases op <;> first|rfl|exact absurd rfl h
 have e2:(op == CmpOp.NotIn)=false:=by cases op <;> first|rfl|exact absurd rfl h2
 cases b <;> simp [behindInMarks,e1,e2]
def tB (t:TE):TT:=λ σ H Q=>t σ H λ x H1=>bq x λ c=>Q c H1
def zfP {t:TE} (h:PC X op a b t) (h1:behindInMarks op b=false:=by walk_at "q"):PT X (.Compare a [op] [b] pos) (tB t):=by
 intro l8 s σ H Q I hw;refine wpAny_isTrue_Compare1 (thn (h l8 s σ H _ I hw) λ v s1 h1=>thn h1 λ u s2 h2=>thn h2 λ c s3 ⟨x,H1,I1,r1,q1⟩=>?_) h1;obtain ⟨d,rfl,q⟩:=Qd q1;cases r1;exact bA ⟨H1,I1,q⟩
variable {tA tB':TT} {rest:List Expr}
def tAnd (t u:TT):TT:=λ σ H Q=>t σ H λ c H1=>if c=true then u σ H1 Q else Q false H1
def tOr (t u:TT):TT:=λ σ H Q=>t σ H λ c H1=>if c=true then Q true H1 else u σ H1 Q
def tNot (t:TT):TT:=λ σ H Q=>t σ H λ c H1=>Q (!c) H1
def pw_and1 (ha:PT X a tA):PW X (.BoolOp .And [a] pos) tA:=by
 intro wh l8 s σ H Q I h;refine isTrue_and (thn (ha l8 s σ H Q I h) λ c s1 e=>?_);cases c with
 | true=>exact isTrue_and_nil e
 | false=>exact e
def pw_or1 (ha:PT X a tA):PW X (.BoolOp .Or [a] pos) tA:=by
 intro wh l8 s σ H Q I h;refine isTrue_or (thn (ha l8 s σ H Q I h) λ c s1 e=>?_);cases c with
 | false=>exact isTrue_or_nil e
 | true=>exact e
def pw_and (ha:PT X a tA) (hb:PW X (.BoolOp .And (b :: rest) pos) tB'):PW X (.BoolOp .And (a :: b :: rest) pos) (tAnd tA tB'):=by
 intro wh l8 s σ H Q I h;refine isTrue_and (thn (ha l8 s σ H _ I h) λ c s1 ⟨H1,I1,q1⟩=>?_);cases c with
 | true=>exact hb wh l8 s1 σ H1 Q I1 q1
 | false=>exact ⟨H1,I1,q1⟩
def pw_or (ha:PT X a tA) (hb:PW X (.BoolOp .Or (b :: rest) pos) tB'):PW X (.BoolOp .Or (a :: b :: rest) pos) (tOr tA tB'):=by
 intro wh l8 s σ H Q I h;refine isTrue_or (thn (ha l8 s σ H _ I h) λ c s1 ⟨H1,I1,q1⟩=>?_);cases c with
 | true=>exact ⟨H1,I1,q1⟩
 | false=>exact hb wh l8 s1 σ H1 Q I1 q1
def qY (ha:PT X a tA):PT X (.UnaryOp .Not a pos) (tNot tA):=by
 intro l8 s σ H Q I h;exact isTrue_not (ha l8 s σ H (λ c H1=>Q (!c) H1) I h)
def tAndV (ta tb:TE):TE:=λ σ H Q=>ta σ H λ x H1=>bq x λ c=>if c=true then tb σ H1 Q else Q (.bl false) H1
def tOrV (ta tb:TE):TE:=λ σ H Q=>ta σ H λ x H1=>bq x λ c=>if c=true then Q (.bl true) H1 else tb σ H1 Q
def tNotV (ta:TE):TE:=λ σ H Q=>ta σ H λ x H1=>bq x λ c=>Q (.bl (!c)) H1
def Wk {op} {t:TE} (h:PE X a t):PE X (.BoolOp op [a] pos) t:=λ l8 s σ H Q I hw=>BoolOp_one (h l8 s σ H Q I hw)
def zaL (ha:PE X a ta) (hb:PE X (.BoolOp .And (b :: rest) pos) tb):PE X (.BoolOp .And (a :: b :: rest) pos) (tAndV ta tb):=by
 intro l8 s σ H Q I h;refine BoolOp_and (qp (ha l8 s σ H _ I h) λ v s1 x H1 I1 r1 q1=>?_);obtain ⟨c,rfl,q1⟩:=Qd q1;cases r1;refine bA ?_;cases c with
 | true=>exact hb l8 s1 σ H1 Q I1 q1
 | false=>exact ⟨.bl false,H1,I1,rfl,q1⟩
def zgM (ha:PE X a ta) (hb:PE X (.BoolOp .Or (b :: rest) pos) tb):PE X (.BoolOp .Or (a :: b :: rest) pos) (tOrV ta tb):=by
 intro l8 s σ H Q I h;refine BoolOp_or (qp (ha l8 s σ H _ I h) λ v s1 x H1 I1 r1 q1=>?_);obtain ⟨c,rfl,q1⟩:=Qd q1;cases r1;refine bA ?_;cases c with
 | false=>exact hb l8 s1 σ H1 Q I1 q1
 | true=>exact ⟨.bl true,H1,I1,rfl,q1⟩
def Wl (ha:PE X a ta):PE X (.UnaryOp .Not a pos) (tNotV ta):=by
 intro l8 s σ H Q I h;refine UnaryOp_ (qp (ha l8 s σ H _ I h) λ v s1 x H1 I1 r1 q1=>?_);obtain ⟨c,rfl,q1⟩:=Qd q1;cases r1;exact not_of (bA ⟨.bl (!c),H1,I1,rfl,q1⟩)
def tIf (t:TT) (ta tb:TE):TE:=λ σ H Q=>t σ H λ c H1=>if c=true then ta σ H1 Q else tb σ H1 Q
def xC {c:Expr} (hc:PT X c tA) (ha:PE X a ta) (hb:PE X b tb):PE X (.IfExp c a b pos) (tIf tA ta tb):=by
 intro l8 s σ H Q I h;refine wpAny_IfExp (thn (hc l8 s σ H _ I h) λ d s1 ⟨H1,I1,q1⟩=>?_);cases d with
 | true=>exact ha l8 s1 σ H1 Q I1 q1
 | false=>exact hb l8 s1 σ H1 Q I1 q1
end
def SqL (K:A0) (H:Hp) (a:Addr) (xs:Ao):Prop :=
 Rd H a (.lst xs) \/
  ∃ (o:Obj) (ma:Ac) (n:Nat),K.lookup a=some o/\o.cls=.type "list"/\o.dict=none/\o.data=.seq ma n/\ma.size<=sizeLine/\Vals xs ma.toList
def SqT (K:A0) (H:Hp) (a:Addr) (xs:Ao):Prop :=
 Rd H a (.tup xs) \/
  ∃ (o:Obj) (ma:Ac) (n:Nat),K.lookup a=some o/\o.cls=.type "tuple"/\o.data=.seq ma n/\ma.size<=sizeLine/\Vals xs ma.toList
noncomputable def zhp:Value->Option V
 | .none=>some .non
 | .bool b=>some (.bl b)
 | .int i _=>some (.int i)
 | .str x _=>some (.str x)
 | .bytes b _=>some (.byt b)
 | .float b _=>some (.flt b)
 | .ref a=>some (.ref a)
 | .type n=>some (.ty n)
 | _=>none
def RelV.abs {x:V} (r:RelV x u):zhp u=some x:=by
 cases x with
 | non=>cases r;rfl
 | bl _=>cases r;rfl
 | int _=>obtain ⟨t,rfl⟩:=r;rfl
 | str _=>obtain ⟨t,rfl⟩:=r;rfl
 | byt _=>obtain ⟨t,rfl⟩:=r;rfl
 | flt _=>obtain ⟨t,rfl⟩:=r;rfl
 | ref _=>cases r;rfl
 | ty _=>cases r;rfl
def RelV.inj {x y:V} (r:RelV x u) (q:RelV y u):x=y:=aU (r.abs.symm.trans q.abs)
theorem Vals.inj:∀ {xs ys:Ao} {us:A7},Vals xs us->Vals ys us->xs=ys
 | _,_,_,.nil,.nil=>rfl
 | _,_,_,.cons r t,.cons r' t'=>by rw [r.inj r',Vals.inj t t']
section
variable {X:Cx} {l8:A2} {σ:St} {H:Hp} {s:Am} {a:Addr} {xs ys:Ao}
def SqL.of (h:H a=some (.lst xs)):SqL K H a xs:=.inl (.inl h)
def SqT.of (h:H a=some (.tup xs)):SqT K H a xs:=.inl (.inl h)
def Inv.list (I:Inv X l8 σ H s) (h:SqL X.K H a xs):∃ ma:List Value,Vals xs ma/\PlainL s.heap a ma.toArray/\xs.length<=sizeLine:=by
 rcases h with h|⟨o,ma,n,hk,hc,hd,hs,hz,r⟩
 ·obtain ⟨z,ma,n,r,e⟩:=h.ok I.hok;exact ⟨ma,r,⟨_,n,e,rfl,rfl,rfl⟩,z⟩
 ·refine ⟨ma.toList,r,⟨o,n,I.kIn a o hk,hc,hd,by simpa using hs⟩,?_⟩;have e:=r.length;simp only [aK] at e
  lia
def Inv.tuple (I:Inv X l8 σ H s) (h:SqT X.K H a xs):∃ ma:List Value,Vals xs ma/\IsTup s.heap a ma.toArray/\xs.length<=sizeLine:=by
 rcases h with h|⟨o,ma,n,hk,hc,hs,hz,r⟩
 ·obtain ⟨z,ma,r,p⟩:=h.ok I.hok;exact ⟨ma,r,p,z⟩
 ·refine ⟨ma.toList,r,⟨o,I.kIn a o hk,hc,n,by simpa using hs⟩,?_⟩;have e:=r.length;simp only [aK] at e
  lia
def Inv.list_inj (I:Inv X l8 σ H s) (h:SqL X.K H a xs) (h':SqL X.K H a ys):xs=ys:=by
 obtain ⟨ma,r,⟨o,n,e,_,_,d⟩,_⟩:=I.list h;obtain ⟨its',r',⟨o',n',e',_,_,d'⟩,_⟩:=I.list h';rw [e] at e';cases e';rw [d] at d';injection d' with d1 _
 have:ma=its':=by simpa using ce Array.toList d1
 subst this;exact r.inj r'
def Inv.tuple_inj (I:Inv X l8 σ H s) (h:SqT X.K H a xs) (h':SqT X.K H a ys):xs=ys:=by
 obtain ⟨ma,r,⟨o,e,_,n,d⟩,_⟩:=I.tuple h;obtain ⟨its',r',⟨o',e',_,n',d'⟩,_⟩:=I.tuple h';rw [e] at e';cases e';rw [d] at d';injection d' with d1 _
 have:ma=its':=by simpa using ce Array.toList d1
 subst this;exact r.inj r'
end
noncomputable abbrev Cx.wish (X:Cx) (E:A3):Cx:={ X with xe:=E }
noncomputable abbrev Cx.nox (X:Cx):Cx:=X.wish λ _ _=>False
def Cx.Ok.wish (ok:X.Ok) (E:A3):(X.wish E).Ok :=
 ⟨ok.mod,ok.kind,ok.glob,ok.blt,ok.above,ok.inj,ok.has,ok.cab,ok.hd,ok.frames,ok.stk,ok.exf,ok.bs,ok.bsz,ok.noex,ok.exfs,ok.funs,ok.frf⟩
def Cx.Ok.unwish (ok:(X.wish E).Ok):X.Ok :=
 ⟨ok.mod,ok.kind,ok.glob,ok.blt,ok.above,ok.inj,ok.has,ok.cab,ok.hd,ok.frames,ok.stk,ok.exf,ok.bs,ok.bsz,ok.noex,ok.exfs,ok.funs,ok.frf⟩
section
variable {X:Cx} {l8:A2} {σ:St} {H:Hp} {s:Am} {E:A3}
def Inv.wish (I:Inv X l8 σ H s) (E:A3):Inv (X.wish E) l8 σ H s:=⟨I.ok.wish E,I.os,I.bare,I.base,I.loc,I.cell,I.free,I.freeC,I.pin,I.hok,I.len⟩
def Inv.unwish (I:Inv (X.wish E) l8 σ H s):Inv X l8 σ H s:=⟨I.ok.unwish,I.os,I.bare,I.base,I.loc,I.cell,I.free,I.freeC,I.pin,I.hok,I.len⟩
def SP.unwish {D:Ends} {f:Flow} {s':Am} (h:SP (X.wish E) l8 D f s'):SP X l8 D f s':=by
 cases f with
 | next=>obtain ⟨σ',H',I,q⟩:=h;exact ⟨σ',H',I.unwish,q⟩
 | brk=>obtain ⟨σ',H',I,q⟩:=h;exact ⟨σ',H',I.unwish,q⟩
 | cont=>obtain ⟨σ',H',I,q⟩:=h;exact ⟨σ',H',I.unwish,q⟩
 | ret u=>obtain ⟨v,σ',H',I,r,q⟩:=h;exact ⟨v,σ',H',I.unwish,r,q⟩
def PE.nox {e:Expr} {t:TE} (h:PE X.nox e t):PE X e t:=λ l8 s σ H Q I hw =>
 aQ (h l8 s σ H Q (I.wish _) hw) (λ _ _ ⟨v,H',I',r,q⟩=>⟨v,H',I'.unwish,r,q⟩) λ _ _ z=>False.elim z
def PT.nox {e:Expr} {t:TT} (h:PT X.nox e t):PT X e t:=λ l8 s σ H Q I hw =>
 aQ (h l8 s σ H Q (I.wish _) hw) (λ _ _ ⟨H',I',q⟩=>⟨H',I'.unwish,q⟩) λ _ _ z=>False.elim z
def PSs.nox {st:List Stmt} {t:TS} (h:PSs X.nox st t):PSs X st t:=λ l8 s σ H D I hw =>
 aQ (h l8 s σ H D (I.wish _) hw) (λ _ _ q=>q.unwish) λ _ _ z=>False.elim z
end
section
variable {X:Cx} {st:Stmt} {rest:List Stmt} {t u:TS} {e:Expr} {te:TE} {pos:Pos}
def tNext:TS:=λ D σ H=>D.nx σ H
def tSeq (t u:TS):TS:=λ D σ H=>t { D with nx:=u D } σ H
def zm:PSs X [] tNext:=λ _ _ σ H _ I h=>cD ⟨σ,H,I,h⟩
def zh (h1:PS X st t) (h2:PSs X rest u):PSs X (st :: rest) (tSeq t u):=by
 intro l8 s σ H D I h;refine eF (thn (h1 l8 s σ H { D with nx:=u D } I h) λ f s1 q=>?_);cases f with
 | next =>
  obtain ⟨σ',H',I',q⟩:=q;exact h2 l8 s1 σ' H' D I' q
 | ret v=>exact q
 | brk=>exact q
 | cont=>exact q
def zc (h1:PS X st t):PSs X [st] t:=by
 intro l8 s σ H D I h;refine eF (thn (h1 l8 s σ H D I h) λ f s1 q=>?_);cases f with
 | next=>exact cD q
 | ret v=>exact q
 | brk=>exact q
 | cont=>exact q
def Inv.quiet (I:Inv X l8 σ H s):interactive X.env=false:=by simp [interactive,I.ok.kind]
def tDrop (te:TE):TS:=λ D σ H=>te σ H λ _ H1=>D.nx σ H1
def zp (he:PE X e te) (hs:swapsWith e none pos.line X.env=pure false:=by rfl):PS X (.Expr e pos) (tDrop te):=by
 intro l8 s σ H D I h;exact wpAny_Expr_any (qp (he l8 s σ H _ I h) λ v s1 x H1 I1 r1 q1=>⟨σ,H1,I1,q1⟩) I.quiet hs
def tRet (te:TE):TS:=λ D σ H=>te σ H D.rt
def zj (he:PE X e te):PS X (.Return (some e) pos) (tRet te):=by
 intro l8 s σ H D I h;exact wpAny_Return_some (qp (he l8 s σ H _ I h) λ v s1 x H1 I1 r1 q1=>⟨x,σ,H1,I1,r1,q1⟩)
def tIfS (c:TT) (t u:TS):TS:=λ D σ H=>c σ H λ b H1=>if b=true then t D σ H1 else u D σ H1
def zx {c:Expr} {a b:List Stmt} {tc:TT} (hc:PT X c tc) (ha:PSs X a t) (hb:PSs X b u):PS X (.If c a b pos) (tIfS tc t u):=by
 intro l8 s σ H D I h;refine wpAny_If (thn (hc l8 s σ H _ I h) λ d s1 ⟨H1,I1,q1⟩=>?_);cases d with
 | true=>exact ha l8 s1 σ H1 D I1 q1
 | false=>exact hb l8 s1 σ H1 D I1 q1
end
abbrev TG:=V->St->Hp->(St->Hp->Prop)->Prop
abbrev TGs:=List V->St->Hp->(St->Hp->Prop)->Prop
def PG (X:Cx) (target:Expr) (t:TG):Prop :=
 ∀ (l8:A2) (s:Am) (σ:St) (H:Hp) (v:V) (u:Al) (Q:St->Hp->Prop),Inv X l8 σ H s->RelV v u->t v σ H Q ->
  wpAny (model X.prog X.w) X.A (assign target X.env u) (λ _ s'=>∃ σ' H',Inv X l8 σ' H' s'/\Q σ' H') X.xe s
def PGs (X:Cx) (ts:List Expr) (t:TGs):Prop :=
 ∀ (l8:A2) (s:Am) (σ:St) (H:Hp) (vs:Ao) (us:A7) (Q:St->Hp->Prop),Inv X l8 σ H s->Vals vs us->t vs σ H Q ->
  wpAny (model X.prog X.w) X.A (assignInOrder ((assignEach ts X.env).map (·.2)) us) (λ _ s'=>∃ σ' H',Inv X l8 σ' H' s'/\Q σ' H') X.xe s
abbrev zef:=V->V->V->Hp->(Hp->Prop)->Prop
def zgv (X:Cx) (t:zef):Prop :=
 ∀ (l8:A2) (s:Am) (σ:St) (H:Hp) (o i v:V) (ov iv u:Al) (Q:Hp->Prop),Inv X l8 σ H s->RelV o ov->RelV i iv->RelV v u->t o i v H Q ->
  wpAny (model X.prog X.w) X.A (setItem ov iv u) (λ _ s'=>∃ H',Inv X l8 σ H' s'/\Q H') X.xe s
abbrev TIp:=V->V->Hp->VK->Prop
def PIp (X:Cx) (op:Operator) (t:TIp):Prop :=
 ∀ (l8:A2) (s:Am) (σ:St) (H:Hp) (x y:V) (v u:Al) (Q:VK),Inv X l8 σ H s->RelV x v->RelV y u->t x y H Q ->
  wpAny (model X.prog X.w) X.A (inplaceOp op v u) (EP X l8 σ Q) X.xe s
section
variable {X:Cx} {pos:Pos}
def gName (i:Nat):TG:=λ v σ H Q=>Q (σ.set i (some v)) H
def zbp (hN:X.N.Nodup) (hi:X.N[i]?=some x) (hx:Loc X.env.scope x) (hf:X.fn x=true\/X.env.scope.names.lookup x=some .local:=by walk_at "p"):PG X (.Name x pos) (gName i):=by
 intro l8 s σ H v u Q I r h;exact wpAny_assign_Name (QK I hN hi hx r (λ s' I'=>⟨_,H,I',h⟩) hf)
def gNil:TGs:=λ vs σ H Q=>vs=[]/\Q σ H
def gCons (t:TG) (u:TGs):TGs:=λ vs σ H Q=>∃ v r,vs=v :: r/\t v σ H λ σ' H'=>u r σ' H' Q
def wP:PGs X [] gNil:=by
 intro l8 s σ H vs us Q I r h;obtain ⟨e,h⟩:=h;subst e;cases r;exact assignInOrder_nil ⟨σ,H,I,h⟩
theorem qz {e:Expr} {es:List Expr} {t:TG} {u:TGs} (h1:PG X e t) (h2:PGs X es u)
  (hs:(assignEach (e :: es) X.env).map (·.2)=assign e X.env :: (assignEach es X.env).map (·.2):=by rfl):PGs X (e :: es) (gCons t u):=by
 intro l8 s σ H vs us Q I r h;obtain ⟨v,vr,e1,h⟩:=h;subst e1;cases r with
 | cons r rr =>
  rw [hs];refine assignInOrder_cons (thn (h1 l8 s σ H _ _ _ I r h) λ _ s1 ⟨σ1,H1,I1,q1⟩=>?_);exact h2 l8 s1 σ1 H1 _ _ Q I1 rr q1
def gTup (K:A0) (n:Nat) (t:TGs):TG:=λ v σ H Q=>∃ a xs,v=.ref a/\SqT K H a xs/\xs.length=n/\t xs σ H Q
def ZV {es:List Expr} {t:TGs} {n:Nat} (hc:X.calm=true) (h:PGs X es t)
  (hn:(assignEach es X.env).length=n:=by rfl) (hst:(assignEach es X.env).findIdx? (·.1)=none:=by rfl):PG X (.Tuple es k pos) (gTup X.K n t):=by
 intro l8 s σ H v u Q I r hw;obtain ⟨a,xs,e1,hq,hl,hw⟩:=hw;subst e1;cases r;obtain ⟨ma,rv,ht,hz⟩:=I.tuple hq;refine assign_Tuple_tuple (I.ok.hd hc) ht (by simp [hn,<- hl,rv.length]) hst λ h' hx=>?_;have I1:Inv X l8 σ H { s with heap:=h' }:=I.kept (t':=s.toks) λ b o e=>hx b o (aI (av e)) e;exact h l8 _ σ H xs _ Q I1 (by simpa using rv) hw
def gSub (to ti:TE) (t:zef):TG:=λ v σ H Q=>to σ H λ o H1=>ti σ H1 λ i H2=>t o i v H2 λ H3=>Q σ H3
def Ja {o i:Expr} {to ti:TE} {t:zef} (ho:PE X o to) (hi:PE X i ti) (hs:zgv X t)
  (ha:∀ v,assign (.Subscript o i pos) X.env v=(do
   let ov <- holding [v] (eval o X.env)
   let iv <- holding [v,ov] (eval i X.env)
   standAt pos
   holding [v,ov,iv] (setItem ov iv v)
   release [v,ov,iv] []):=by intro _;rfl):PG X (.Subscript o i pos) (gSub to ti t):=by
 intro l8 s σ H v u Q I r h;rw [ha];refine af (bY (qp (ho l8 s σ H _ I h) λ ov s1 x H1 I1 r1 q1=>?_));refine af (bY (qp (hi l8 s1 σ H1 _ I1 q1) λ iv s2 y H2 I2 r2 q2=>?_));refine af (fq (af (bY (thn (hs l8 s2 σ H2 x y v ov iv u _ I2 r1 r2 r q2) λ _ s3 ⟨H3,I3,q3⟩=>?_))));exact wpAny_release ⟨σ,H3,I3,q3⟩
def tAsg (te:TE) (g:TG):TS:=λ D σ H=>te σ H λ x H1=>g x σ H1 D.nx
def Q7 {tg e:Expr} {te:TE} {g:TG} (he:PE X e te) (hg:PG X tg g) (hs:swapsWithSole [tg] e pos.line X.env=pure false:=by rfl) (hw:swappedStores [tg] e X.env=pure none:=by rfl)
  (h1:(assignEach [tg] X.env).map (·.2)=[assign tg X.env]:=by rfl):PS X (.Assign [tg] e pos) (tAsg te g):=by
 intro l8 s σ H D I h;refine wpAny_Assign_stores (qp (he l8 s σ H _ I h) λ v s1 x H1 I1 r1 q1=>?_) hs hw;rw [h1];exact thn (hg l8 s1 σ H1 x v _ I1 r1 q1) λ _ s2 q=>q
def zaI {e:Expr} {te:TE} {pos':Pos} (hN:X.N.Nodup) (hi:X.N[i]?=some x) (hx:Loc X.env.scope x) (he:PE X e te) (hs:swapsWith e (some (.Name x pos')) pos.line X.env=pure false:=by rfl) (hf:X.fn x=true\/X.env.scope.names.lookup x=some .local:=by walk_at "p") :
  PS X (.Assign [.Name x pos'] e pos) (tAsg te (gName i)):=by
 intro l8 s σ H D I h;refine wpAny_Assign_Name (qp (he l8 s σ H _ I h) λ v s1 y H1 I1 r1 q1=>?_) hs;exact QK I1 hN hi hx r1 (λ s2 I2=>⟨_,H1,I2,q1⟩) hf
def zfi (to ti te:TE) (tget:V->V->Hp->VK->Prop) (tip:TIp) (tset:zef):TS:=λ D σ H=>to σ H λ o H1=>ti σ H1 λ i H2=>tget o i H2 λ x H3=>te σ H3 λ y H4=>tip x y H4 λ z H5=>tset o i z H5 λ H6=>D.nx σ H6
def zg6 (X:Cx) (t:V->V->Hp->VK->Prop):Prop :=
 ∀ (l8:A2) (s:Am) (σ:St) (H:Hp) (o i:V) (ov iv:Al) (Q:VK),Inv X l8 σ H s->RelV o ov->RelV i iv->t o i H Q ->
  wpAny (model X.prog X.w) X.A (getItem ov iv) (EP X l8 σ Q) X.xe s
def zeG {o i e:Expr} {to ti te:TE} {tget:V->V->Hp->VK->Prop} {tip:TIp} {tset:zef} {op:Operator} {tpos:Pos} (ho:PE X o to) (hi:PE X i ti) (hg:zg6 X tget) (he:PE X e te) (hp:PIp X op tip) (hs:zgv X tset)
  (ha:∀ ov iv new,augStore i ov iv new=(do holding [new,ov,iv] (setItem ov iv new);release [new,ov,iv] [];pure .next):=by intros;rfl):PS X (.AugAssign (.Subscript o i tpos) op e pos) (zfi to ti te tget tip tset):=by
 intro l8 s σ H D I h;refine wpAny_AugAssign_SubscriptAny (qp (ho l8 s σ H _ I h) λ ov s1 x1 H1 I1 r1 q1=>?_) ha;refine qp (hi l8 s1 σ H1 _ I1 q1) λ iv s2 x2 H2 I2 r2 q2=>?_;refine qp (hg l8 s2 σ H2 x1 x2 ov iv _ I2 r1 r2 q2) λ old s3 x3 H3 I3 r3 q3=>?_;refine qp (he l8 s3 σ H3 _ I3 q3) λ v s4 x4 H4 I4 r4 q4=>?_;refine qp (hp l8 s4 σ H4 x3 x4 old v _ I4 r3 r4 q4) λ new s5 x5 H5 I5 r5 q5=>?_;exact thn (hs l8 s5 σ H5 x1 x2 x5 ov iv new _ I5 r1 r2 r5 q5) λ _ s6 ⟨H6,I6,q6⟩=>⟨σ,H6,I6,q6⟩
def ipI (f:Int->Int->Int):TIp:=λ x y H Q=>iq x λ i=>iq y λ j=>Q (.int (f i j)) H
def zgh:PIp X .Add (ipI λ i j=>i + j):=by
 intro l8 s σ H x y v u Q I r1 r2 h;obtain ⟨i,j,e1,e2,q⟩:=JA h;subst e1;subst e2;obtain ⟨t,rfl⟩:=r1;obtain ⟨t',rfl⟩:=r2;exact iadd_int ⟨.int _,H,I.tok _,⟨_,rfl⟩,q⟩
end
section
variable {X:Cx} {pos:Pos}
def zfA (c:TT) (tb:TS):TS:=λ D σ H=>∃ W:Nat->St->Hp->Prop,(∃ m,W m σ H)/\∀ m σ H,W m σ H ->
 c σ H λ b H1=>if b=true then ∃ N:St->Hp->Prop,(∀ σ' H',N σ' H'->∃ m',m' < m/\W m' σ' H')/\tb { D with nx:=N,ct:=N,bk:=D.nx } σ H1 else D.nx σ H1
def zdj {c:Expr} {body:List Stmt} {tc:TT} {tb:TS} (hp:PassesOwn (model X.prog X.w) X.A X.env X.xe) (hc:PT X c tc) (hb:PSs X body tb):PS X (.While c body [] pos) (zfA tc tb):=by
 intro l8 s σ H D I h;obtain ⟨W,⟨m0,w0⟩,turn⟩:=h;refine wpAny_While (codeAny_whileLoop (λ n s'=>∃ σ' H',Inv X l8 σ' H' s'/\W n σ' H') ?_ m0 ⟨σ,H,I,w0⟩);rintro n s1 ⟨σ1,H1,I1,w1⟩;refine cc hp (thn (hc l8 s1 σ1 H1 _ I1 (turn n σ1 H1 w1)) λ b s2 ⟨H2,I2,q2⟩=>?_);cases b with
 | true =>
  obtain ⟨N,hN,q2⟩:=q2;rw [aA rfl];refine cc hp (thn (hb l8 s2 σ1 H2 _ I2 q2) λ f s3 q3=>?_);cases f with
  | next =>
   obtain ⟨σ3,H3,I3,n3⟩:=q3;obtain ⟨m',hm,w3⟩:=hN σ3 H3 n3;exact ⟨m',hm,σ3,H3,I3,w3⟩
  | cont =>
   obtain ⟨σ3,H3,I3,n3⟩:=q3;obtain ⟨m',hm,w3⟩:=hN σ3 H3 n3;exact ⟨m',hm,σ3,H3,I3,w3⟩
  | brk=>exact q3
  | ret v=>exact q3
 | false =>
  rw [aq aE];exact cD ⟨σ1,H2,I2,q2⟩
end
structure It where
 go:Nat->Hp->Prop
 yld:Nat->Hp->V->Hp->Prop
 stop:Nat->Hp->Prop
def Z2 (X:Cx) (l8:A2) (H:Hp) (b:Addr):Prop :=
 H b=none/\b≠X.env.locals/\b ∉ X.fs/\(b∈X.ex\/X.s₀.heap.objs.size<=b)/\(∀ x c,X.env.cells.lookup x=some c->c≠b)/\∀ p∈X.pn ++ l8,p.1≠b
def Inv.fpOk {H H':Hp} (I:Inv X l8 σ H s) (hb:s.heap.objs.size<=b) (hn:H' b=none):Z2 X l8 H' b:=by
 refine ⟨hn,cU (aG I.lt hb),I.nofs hb,.inr (bc I.sz hb),λ x c e z=>?_,λ p hp z=>?_⟩
 ·obtain ⟨v,q⟩:=I.cell x c e;exact absurd (aG q.lt (by rw [z];exact hb)) (cm _)
 ·exact absurd (aG (av (I.pin p hp).1) (by rw [z];exact hb)) (cm _)
structure Turn (P:Af) (w:World) (K:A0) (tg:Expr) (J:It) (fp:Ab) (it:Addr) (tn:Nat->Heap->Prop):Prop where
 mem:it∈fp
 obj:∀ i h,tn i h->∀ b∈fp,∃ o,h.get? b=some o/\∀ v,o.data≠.cell v
 keep:∀ i h h',tn i h->(∀ b∈fp,∀ o,h.get? b=some o->h'.get? b=some o)->tn i h'
 item:∀ (X:Cx),X.prog=P->X.w=w->X.K=K->X.calm=true->∀ (i:Nat) (l8:A2) (s:Am) (σ:St) (H:Hp) (E:A3),Inv X l8 σ H s->(∀ b∈fp,Z2 X l8 H b)->tn i s.heap->J.go i H ->
  wpAny (model P w) X.A (pyNext (.ref it)) (λ r s1=>∃ u,r=some u /\
   wpAny (model P w) X.A (letOwnedTupleGo tg (.ref it) u) (λ _ s2=>∃ x H',Inv X l8 σ H' s2/\RelV x u/\J.yld i H x H'/\tn (i + 1) s2.heap/\∀ b∈fp,H' b=none) E s1) E s
 done:∀ (X:Cx),X.prog=P->X.w=w->X.K=K->X.calm=true->∀ (i:Nat) (l8:A2) (s:Am) (σ:St) (H:Hp) (E:A3),Inv X l8 σ H s->(∀ b∈fp,Z2 X l8 H b)->tn i s.heap->J.stop i H ->
  wpAny (model P w) X.A (pyNext (.ref it)) (λ r s1=>r=none/\Inv X l8 σ H s1) E s
 self:∀ (A:An) (i:Nat) (s:Am) (Q:A3) (E:A3),tn i s.heap->Q (.ref it) s->wpAny (model P w) A (pyIter (.ref it)) Q E s
abbrev TI:=St->Hp->(It->Hp->Prop)->Prop
def PIE (X:Cx) (l8:A2) (σ:St) (tg:Expr) (R:It->Hp->Prop) (itv:Al) (s2:Am):Prop :=
 ∃ (it:Addr) (fp:Ab) (tn:Nat->Heap->Prop) (J:It) (H':Hp),itv=.ref it/\Inv X l8 σ H' s2/\Turn X.prog X.w X.K tg J fp it tn/\tn 0 s2.heap/\(∀ b∈fp,Z2 X l8 H' b)/\R J H'
def PI (X:Cx) (tg iter:Expr) (wi:TI):Prop :=
 ∀ (l8:A2) (s:Am) (σ:St) (H:Hp) (R:It->Hp->Prop),Inv X l8 σ H s->wi σ H R ->
  wpAny (model X.prog X.w) X.A (eval iter X.env) (λ v s1=>wpAny (model X.prog X.w) X.A (pyIter v) (PIE X l8 σ tg R) X.xe s1) X.xe s
theorem zbD {it:Addr} {o:Obj} {n:String} {vs:Ac} {Q:Ag} (ho:s.heap.get? it=some o) (hc:o.cls=.type n) (hd:o.data=.fields vs)
  (hn:["enumerate","zip","dict_itemiterator","dict_reverseitemiterator","odict_iterator","itertools.zip_longest","itertools.pairwise"].contains n=false) (hQ:Q () s):wpAny M A (letOwnedTupleGo tg (.ref it) u) Q E s:=by
 unfold letOwnedTupleGo;cases tg <;> first
  | exact ao hQ
  | (cases u <;> first
    | exact ao hQ
    | (refine af (wpAny_load ho ?_)
       rw [hc,hd];show wpAny M A (if (["enumerate","zip","dict_itemiterator","dict_reverseitemiterator","odict_iterator","itertools.zip_longest","itertools.pairwise"].contains n && vs[0]? == some (rawInt _))=true then _ else _) Q E s
       rw [aq (by intro h;rw [hn,Bool.false_and] at h;cases h)];exact ao hQ))
noncomputable def Itl (K:A0) (a:Addr):It :=
 ⟨λ i H=>∃ xs x,SqL K H a xs/\xs[i]?=some x,λ i H x H'=>H'=H/\∀ xs,SqL K H a xs->xs[i]?=some x,λ i H=>∃ xs,SqL K H a xs/\xs.length<=i⟩
noncomputable def Itt (K:A0) (a:Addr):It :=
 ⟨λ i H=>∃ xs x,SqT K H a xs/\xs[i]?=some x,λ i H x H'=>H'=H/\∀ xs,SqT K H a xs->xs[i]?=some x,λ i H=>∃ xs,SqT K H a xs/\xs.length<=i⟩
noncomputable def Itr (lo:Int) (n:Nat):It:=⟨λ i _=>i < n,λ i H x H'=>H'=H/\x=.int (lo + i),λ i _=>n<=i⟩
def zb0 (a it:Addr):Turn P w K tg (Itl K a) [it] it (λ i h=>h.IsListIter it a i) where
 mem:=by simp
 obj:=λ i h st b hb=>by
  have e:b=it:=by simpa using hb
  subst e;obtain ⟨o,e,c,d⟩:=st;exact ⟨o,e,λ v z=>by rw [d] at z;cases z⟩
 keep:=λ i h h' st k=>st.at λ o e=>k it (by simp) o e
 item:=by
  intro X hP hw hK hc i l8 s σ H E I hf st hg;subst hP hw hK;obtain ⟨xs,x,hq,hx⟩:=hg;obtain ⟨ma,rv,p,hz⟩:=I.list hq;obtain ⟨u,hu,ru⟩:=rv.get hx;obtain ⟨f0,f1,f2,f3,f4,f5⟩:=hf it (by simp);refine wpAny_pyNext_list_item st p.isList (x:=u) (by simpa using hu) λ h' st' sb=>?_;have I1:Inv X l8 σ H { s with heap:=h' }:=I.turned (t':=s.toks) (λ b o hb e=>(sb.2 b hb).trans e) f0 f1 f3 f4 f5;obtain ⟨o,e,c,d⟩:=id st';exact ⟨u,rfl,zbD (s:={ s with heap:=h' }) e c d (by decide) ⟨x,H,I1,ru,⟨rfl,λ ys hy=>by rw [I.list_inj hy hq];exact hx⟩,st',λ b hb=>(hf b hb).1⟩⟩
 done:=by
  intro X hP hw hK hc i l8 s σ H E I hf st hg;subst hP hw hK;obtain ⟨xs,hq,hx⟩:=hg;obtain ⟨ma,rv,p,hz⟩:=I.list hq;obtain ⟨f0,f1,f2,f3,f4,f5⟩:=hf it (by simp);have hl:=rv.length;exact wpAny_pyNext_list_end (I.ok.hd hc) st p.isList (by simp;lia) λ h' eb=>⟨rfl,I.turned (t':=s.toks) (λ b o hb e=>eb b o hb e) f0 f1 f3 f4 f5⟩
 self:=λ _ _ _ _ _ st h=>wpAny_pyIter_listiter st h
def zac (a it:Addr):Turn P w K tg (Itt K a) [it] it (λ i h=>h.IsTupleIter it a i) where
 mem:=by simp
 obj:=λ i h st b hb=>by
  have e:b=it:=by simpa using hb
  subst e;obtain ⟨o,e,c,d⟩:=st;exact ⟨o,e,λ v z=>by rw [d] at z;cases z⟩
 keep:=λ i h h' st k=>st.at λ o e=>k it (by simp) o e
 item:=by
  intro X hP hw hK hc i l8 s σ H E I hf st hg;subst hP hw hK;obtain ⟨xs,x,hq,hx⟩:=hg;obtain ⟨ma,rv,p,hz⟩:=I.tuple hq;obtain ⟨u,hu,ru⟩:=rv.get hx;obtain ⟨f0,f1,f2,f3,f4,f5⟩:=hf it (by simp);refine wpAny_pyNext_tuple_item st (show s.heap.IsTuple a ma.toArray from p) (x:=u) (by simpa using hu) λ h' st' sb=>?_;have I1:Inv X l8 σ H { s with heap:=h' }:=I.turned (t':=s.toks) (λ b o hb e=>(sb.2 b hb).trans e) f0 f1 f3 f4 f5;obtain ⟨o,e,c,d⟩:=id st';exact ⟨u,rfl,zbD (s:={ s with heap:=h' }) e c d (by decide) ⟨x,H,I1,ru,⟨rfl,λ ys hy=>by rw [I.tuple_inj hy hq];exact hx⟩,st',λ b hb=>(hf b hb).1⟩⟩
 done:=by
  intro X hP hw hK hc i l8 s σ H E I hf st hg;subst hP hw hK;obtain ⟨xs,hq,hx⟩:=hg;obtain ⟨ma,rv,p,hz⟩:=I.tuple hq;obtain ⟨f0,f1,f2,f3,f4,f5⟩:=hf it (by simp);have hl:=rv.length;exact wpAny_pyNext_tuple_end (I.ok.hd hc) st (show s.heap.IsTuple a ma.toArray from p) (by simp;lia) λ h' eb=>⟨rfl,I.turned (t':=s.toks) (λ b o hb e=>eb b o hb e) f0 f1 f3 f4 f5⟩
 self:=λ _ _ _ _ _ st h=>wpAny_pyIter_tupleiter st h
def zad (it:Addr) (lo:Int) (n:Nat):Turn P w K tg (Itr lo n) [it] it (λ i h=>IsRangeIter h it (lo + (i:Nat) * 1) ((n:Int) - (i:Nat)) 1) where
 mem:=by simp
 obj:=λ i h st b hb=>by
  have e:b=it:=by simpa using hb
  subst e;exact ⟨_,st,λ v z=>by
   have z':Data.fields _=Data.cell v:=z;cases z'⟩
 keep:=λ i h h' st k=>k it (by simp) _ st
 item:=by
  intro X hP hw hK hc i l8 s σ H E I hf st hg;subst hP hw hK;obtain ⟨f0,f1,f2,f3,f4,f5⟩:=hf it (by simp);have W:=Walks.range (prog:=X.prog) (w:=X.w) (I.ok.hd hc) it lo 1 n;refine W.item i s _ _ hg st λ v h' tk hv st' kk=>?_;obtain ⟨t,rfl⟩:=hv;have I1:Inv X l8 σ H { s with heap:=h',toks:=tk }:=I.turned (λ b o hb e=>kk b o (by simpa using hb) e) f0 f1 f3 f4 f5;refine ⟨_,rfl,zbD (s:={ s with heap:=h',toks:=tk }) (n:="range_iterator") st' rfl rfl (by decide) ⟨.int (lo + i),H,I1,⟨t,?_⟩,⟨rfl,rfl⟩,st',λ b hb=>(hf b hb).1⟩⟩;rw [Int.mul_one]
 done:=by
  intro X hP hw hK hc i l8 s σ H E I hf st hg;subst hP hw hK;obtain ⟨f0,f1,f2,f3,f4,f5⟩:=hf it (by simp);exact wpAny_pyNext_range_end (I.ok.hd hc) st (by have:n<=i:=hg;lia) λ h' eb=>⟨rfl,I.turned (t':=s.toks) (λ b o hb e=>eb b o hb e) f0 f1 f3 f4 f5⟩
 self:=λ _ _ _ _ _ st h=>wpAny_pyIter_rangeiter st h
section
variable {X:Cx} {tg:Expr}
def zdg {R:It->Hp->Prop} {lo hi:Int} {t u v:Tok} {tk:Nat} (I:Inv X l8 σ H s) (h1:-(2 ^ 62)<=lo) (h2:lo < 2 ^ 62) (h3:-(2 ^ 62)<=hi) (h4:hi < 2 ^ 62)
  (q:R (Itr lo (hi - lo).toNat) H):wpAny (model X.prog X.w) X.A (pyIter (.ref s.heap.objs.size)) (PIE X l8 σ tg R) E { s with heap:=s.heap.push { cls:=.type "range",data:=.fields #[.int lo t,.int hi u,.int 1 v] },toks:=tk }:=by
 refine wpAny_pyIter_range (IsRange.new ..) (small_one h1 h2 h3 h4) ?_;have I1:Inv X l8 σ H { s with heap:=s.heap.push { cls:=.type "range",data:=.fields #[.int lo t,.int hi u,.int 1 v] },toks:=tk }:=I.kept λ b o e=>aj _ e;refine ⟨(s.heap.push { cls:=.type "range",data:=.fields #[.int lo t,.int hi u,.int 1 v] }).objs.size,[(s.heap.push { cls:=.type "range",data:=.fields #[.int lo t,.int hi u,.int 1 v] }).objs.size],_,_,H,rfl,
  I1.kept (t':=tk) λ b o e=>aj _ e,zad _ lo (hi - lo).toNat,?_,λ b hb=>?_,q⟩
 ·have e1:lo + ((0:Nat):Int) * 1=lo:=by simp
  have e2:(((hi - lo).toNat:Nat):Int) - ((0:Nat):Int)=Builtin.Range.rangeSize lo hi 1:=by rw [rangeSize_one];split <;> lia
  show IsRangeIter _ _ (lo + ((0:Nat):Int) * 1) ((((hi - lo).toNat:Nat):Int) - ((0:Nat):Int)) 1
  rw [e1,e2];exact aJ _ rfl
 ·have e:b=(s.heap.push { cls:=.type "range",data:=.fields #[.int lo t,.int hi u,.int 1 v] }).objs.size:=by simpa using hb
  subst e;exact I1.fpOk (ap _) (I1.hok.fresh (ap _))
def iRng1 (ta:TA):TI:=λ σ H R=>ta σ H λ vs H1=>lq vs λ v=>iq v λ j=>-(2 ^ 62)<=j/\j < 2 ^ 62/\R (Itr 0 j.toNat) H1
def zcm {a:Expr} {ta:TA} {p pos:Pos} (hg:Gl X "range") (hm:X.mg "range"=none) (ha:PA X [a] ta) (hs:starEach [a] X.env=[(false,eval a X.env)]:=by rfl):PI X tg (.Call (.Name "range" p) [a] [] pos) (iRng1 ta):=by
 intro l8 s σ H R I h;refine Call_ (xW I hg hm boot_range (ba (we (ha pos l8 s σ H _ I h) λ us s1 vs H1 I1 r1 q1=>?_) hs rfl));obtain ⟨v,e,q0⟩:=zdC q1;clear q1;obtain ⟨j,e2,q1,q2,q⟩:=Zo q0;subst e2;subst e;cases r1 with
 | cons r rr =>
  cases rr;obtain ⟨t,rfl⟩:=r;exact call_range_1 (zdg I1 (by lia) (by lia) q1 q2 (by simpa using q))
def tFor (wi:TI) (g:TG) (tb:TS):TS:=λ D σ H=>wi σ H λ J H1=>∃ W:Nat->Nat->St->Hp->Prop,(∃ m,W 0 m σ H1)/\∀ i m σ H,W i m σ H ->
 (J.stop i H/\D.nx σ H)\/(J.go i H/\∃ N:St->Hp->Prop,(∀ σ' H',N σ' H'->∃ m',m' < m/\W (i + 1) m' σ' H')/\∀ x H',J.yld i H x H'->g x σ H' λ σ2 H2=>tb { D with nx:=N,ct:=N,bk:=D.nx } σ2 H2)
noncomputable def Q9 (fp:Ab) (h:Heap):List (Addr × Obj):=fp.filterMap λ b=>(h.get? b).map λ o=>(b,o)
def xV {fp:Ab} {h:Heap} {o:Obj} (hb:b∈fp) (e:h.get? b=some o):(b,o)∈Q9 fp h:=dO.mpr ⟨b,hb,by rw [e];rfl⟩
def zcq {fp:Ab} {h:Heap} {p:Addr × Obj} (hp:p∈Q9 fp h):p.1∈fp/\h.get? p.1=some p.2:=by
 obtain ⟨b,hb,e⟩:=dO.mp hp;cases q:h.get? b with
 | none=>rw [q] at e;cases e
 | some o =>
  rw [q] at e;have e':(b,o)=p:=aU e;subst e';exact ⟨hb,q⟩
def Inv.pinned {fp:Ab} (I:Inv X l8 σ H s) (hf:∀ b∈fp,Z2 X l8 H b) (ho:∀ b∈fp,∃ o,s.heap.get? b=some o/\∀ v,o.data≠.cell v):Inv X (l8 ++ Q9 fp s.heap) σ H s :=
 I.pins_of λ p hp=>(aF.mp hp).elim (λ z=>I.pin p (a5 _ z)) λ z=>by
  obtain ⟨hb,e⟩:=zcq z;obtain ⟨f0,f1,f2,_⟩:=hf p.1 hb;obtain ⟨o,e',d⟩:=ho p.1 hb;rw [e] at e';cases e';exact ⟨e,f0,f1,f2,d⟩
def Inv.unpinned {l8 pl:A2} (I:Inv X (l8 ++ pl) σ H s):Inv X l8 σ H s:=I.pins_of λ p hp=>I.pin p (a5 _ (bj _ hp))
theorem qq {iter:Expr} {body:List Stmt} {wi:TI} {g:TG} {tb:TS} (hp:PassesOwn (model X.prog X.w) X.A X.env X.xe) (hc:X.calm=true) (hi:PI X tg iter wi) (hg:PG X tg g) (hb:PSs X body tb)
  (hs:∀ x,foldedSetIterable iter X.env x=pure x:=by intro _;rfl):PS X (.For tg iter body [] pos) (tFor wi g tb):=by
 intro l8 s σ H D I h;refine wpAny_For (thn (hi l8 s σ H _ I h) λ v s1 h1=>thn h1 λ itv s2 h2=>?_) hs;obtain ⟨it,fp,tn,J,H2,e,I2,T,st2,f2,W,⟨m0,w0⟩,turn⟩:=h2;subst e;have stat:∀ {H':Hp},(∀ b∈fp,H' b=none)->∀ b∈fp,Z2 X l8 H' b:=λ hn b hb=>⟨hn b hb,(f2 b hb).2⟩;refine codeAny_forLoop_any (λ n s'=>∃ i σ' H',Inv X l8 σ' H' s'/\tn i s'.heap/\(∀ b∈fp,H' b=none)/\W i n σ' H') ?_ m0 ⟨0,σ,H2,I2,st2,λ b hb=>(f2 b hb).1,w0⟩;rintro n s3 ⟨i,σ3,H3,I3,st3,fr3,w3⟩;rcases turn i n σ3 H3 w3 with ⟨stop,qn⟩|⟨go,N,hN,step⟩
 ·refine cc hp (thn (T.done X rfl rfl rfl hc i l8 s3 σ3 H3 X.xe I3 (stat fr3) st3 stop) λ r s4 ⟨hr,I4⟩=>?_);subst hr;exact cD ⟨σ3,H3,I4,qn⟩
 ·refine cc hp (thn (T.item X rfl rfl rfl hc i l8 s3 σ3 H3 X.xe I3 (stat fr3) st3 go) λ r s4 ⟨u,hr,h4⟩=>?_);subst hr;refine cc hp (thn h4 λ _ s5 ⟨x,H5,I5,r5,y5,st5,fr5⟩=>?_);have I5':=I5.pinned (stat fr5) (T.obj _ _ st5);refine cc hp (thn (hg _ s5 σ3 H5 x u _ I5' r5 (step x H5 y5)) λ _ s6 ⟨σ6,H6,I6,q6⟩=>?_);refine cc hp (thn (hb _ s6 σ6 H6 _ I6 q6) λ f s7 q7=>?_);have again:∀ {σ7:St} {H7:Hp},Inv X (l8 ++ Q9 fp s5.heap) σ7 H7 s7->N σ7 H7->∃ m,m < n/\∃ i σ' H',Inv X l8 σ' H' s7/\tn i s7.heap/\(∀ b∈fp,H' b=none)/\W i m σ' H':=λ {σ7 H7} I7 n7=>by
   obtain ⟨m',hm,w7⟩:=hN σ7 H7 n7;refine ⟨m',hm,i + 1,σ7,H7,I7.unpinned,T.keep _ _ _ st5 λ b hb o e=>(I7.pin (b,o) (a5 _ (a5 _ (xV hb e)))).1,λ b hb=>?_,w7⟩;obtain ⟨o,e,d⟩:=T.obj _ _ st5 b hb;exact (I7.pin (b,o) (a5 _ (a5 _ (xV hb e)))).2.1
  cases f with
  | next=>obtain ⟨σ7,H7,I7,n7⟩:=q7;exact again I7 n7
  | cont=>obtain ⟨σ7,H7,I7,n7⟩:=q7;exact again I7 n7
  | brk=>obtain ⟨σ7,H7,I7,q7⟩:=q7;exact ⟨σ7,H7,I7.unpinned,q7⟩
  | ret v=>obtain ⟨x7,σ7,H7,I7,r7,q7⟩:=q7;exact ⟨x7,σ7,H7,I7.unpinned,r7,q7⟩
end
abbrev R2:=V->V->Hp->VK->Prop
def OpR (X:Cx) (f:Ak) (r:R2):Prop :=
 ∀ (l8:A2) (s:Am) (σ:St) (H:Hp) (x y:V) (v u:Al) (Q:VK),Inv X l8 σ H s->RelV x v->RelV y u->r x y H Q ->
  wpAny (model X.prog X.w) X.A (f v u) (EP X l8 σ Q) X.xe s
def UnR (X:Cx) (f:Value->Sem Value) (r:V->Hp->VK->Prop):Prop :=
 ∀ (l8:A2) (s:Am) (σ:St) (H:Hp) (x:V) (v:Al) (Q:VK),Inv X l8 σ H s->RelV x v->r x H Q ->
  wpAny (model X.prog X.w) X.A (f v) (EP X l8 σ Q) X.xe s
def CallR (X:Cx) (f:Al) (r:List V->Hp->VK->Prop):Prop :=
 ∀ (l8:A2) (s:Am) (σ:St) (H:Hp) (xs:Ao) (us:A7) (Q:VK),Inv X l8 σ H s->Vals xs us->r xs H Q ->
  wpAny (model X.prog X.w) X.A (call f us) (EP X l8 σ Q) X.xe s
def zhq (X:Cx) (r:V->Hp->(Bool->Hp->Prop)->Prop):Prop :=
 ∀ (l8:A2) (s:Am) (σ:St) (H:Hp) (x:V) (v:Al) (Q:Bool->Hp->Prop),Inv X l8 σ H s->RelV x v->r x H Q ->
  wpAny (model X.prog X.w) X.A (truthy v) (TP X l8 σ Q) X.xe s
def tOp (r:R2) (ta tb:TE):TE:=λ σ H Q=>ta σ H λ x H1=>tb σ H1 λ y H2=>r x y H2 Q
def tUn (r:V->Hp->VK->Prop) (ta:TE):TE:=λ σ H Q=>ta σ H λ x H1=>r x H1 Q
def rI (C:Int->Int->Prop) (g:Int->Int->V):R2:=λ x y H Q=>iq x λ i=>iq y λ j=>C i j/\Q (g i j) H
def rI0 (g:Int->Int->V):R2:=λ x y H Q=>iq x λ i=>iq y λ j=>Q (g i j) H
def rU (g:Int->V):V->Hp->VK->Prop:=λ x H Q=>iq x λ i=>Q (g i) H
section
variable {X:Cx} {a b c:Expr} {ta tb tc:TE} {pos:Pos}
def zgs (ha:PE X a ta) (hb:PE X b tb) {R:V->V->Hp->Prop} (I:Inv X l8 σ H s)
  (h:ta σ H λ x H1=>tb σ H1 λ y H2=>R x y H2)
  (hf:∀ v u s2 x y H2,Inv X l8 σ H2 s2->RelV x v->RelV y u->R x y H2->wpAny (model X.prog X.w) X.A (f v u) Q X.xe s2) :
  wpAny (model X.prog X.w) X.A (eval a X.env) (λ v s₁=>wpAny (model X.prog X.w) X.A (eval b X.env) (λ u s₂=>wpAny (model X.prog X.w) X.A (f v u) Q X.xe s₂) X.xe s₁) X.xe s:=by
 refine qp (ha l8 s σ H _ I h) λ v s1 x H1 I1 r1 q1=>?_;refine qp (hb l8 s1 σ H1 _ I1 q1) λ u s2 y H2 I2 r2 q2=>?_;exact hf v u s2 x y H2 I2 r1 r2 q2
def zw {op:Operator} {r:R2} (ho:OpR X (binaryOp op) r) (ha:PE X a ta) (hb:PE X b tb):PE X (.BinOp a op b pos) (tOp r ta tb):=by
 intro l8 s σ H Q I h;exact wpAny_BinOp (zgs ha hb I h λ v u s2 x y H2 I2 rx ry q=>ho l8 s2 σ H2 x y v u Q I2 rx ry q)
def vd {op:UnaryOp} {r:V->Hp->VK->Prop} (ho:UnR X (unaryOp op) r) (ha:PE X a ta):PE X (.UnaryOp op a pos) (tUn r ta):=by
 intro l8 s σ H Q I h;exact UnaryOp_ (qp (ha l8 s σ H _ I h) λ v s1 x H1 I1 r1 q1=>ho l8 s1 σ H1 x v Q I1 r1 q1)
def opI {C:Int->Int->Prop} {g:Int->Int->Int}
  (rule:∀ (i j:Int) (t u:Tok) (s:Am) (Q:A3) (E:A3),C i j->Q (.int (g i j) s.toks) { s with toks:=s.toks + 1 }->wpAny (model X.prog X.w) X.A (f (.int i t) (.int j u)) Q E s) :
  OpR X f (rI C λ i j=>.int (g i j)):=by
 intro l8 s σ H x y v u Q I rx ry h;obtain ⟨i,j,rfl,rfl,hc,q⟩:=JA h;obtain ⟨t,rfl⟩:=rx;obtain ⟨t',rfl⟩:=ry;exact rule i j t t' s _ _ hc ⟨.int (g i j),H,I.tok _,⟨_,rfl⟩,q⟩
def zgO {g:Int->Int->Int}
  (rule:∀ (i j:Int) (t u:Tok) (s:Am) (Q:A3) (E:A3),Q (.int (g i j) s.toks) { s with toks:=s.toks + 1 }->wpAny (model X.prog X.w) X.A (f (.int i t) (.int j u)) Q E s) :
  OpR X f (rI0 λ i j=>.int (g i j)):=by
 intro l8 s σ H x y v u Q I rx ry h;obtain ⟨i,j,rfl,rfl,q⟩:=JA h;obtain ⟨t,rfl⟩:=rx;obtain ⟨t',rfl⟩:=ry;exact rule i j t t' s _ _ ⟨.int (g i j),H,I.tok _,⟨_,rfl⟩,q⟩
def zfY {g:Int->Int->Bool}
  (rule:∀ (i j:Int) (t u:Tok) (s:Am) (Q:A3) (E:A3),Q (.bool (g i j)) s->wpAny (model X.prog X.w) X.A (f (.int i t) (.int j u)) Q E s) :
  OpR X f (rI0 λ i j=>.bl (g i j)):=by
 intro l8 s σ H x y v u Q I rx ry h;obtain ⟨i,j,rfl,rfl,q⟩:=JA h;obtain ⟨t,rfl⟩:=rx;obtain ⟨t',rfl⟩:=ry;exact rule i j t t' s _ _ ⟨.bl (g i j),H,I,rfl,q⟩
def zhs (i j:Int):Prop:=0 < j/\j < 1073741824
def zha (i j:Int):Prop:=0<=j/\j<=1000000/\i.natAbs < 2 ^ 64
def CMul (i j:Int):Prop:=(-(2 ^ 64) < i/\i < 2 ^ 64)\/(-(2 ^ 64) < j/\j < 2 ^ 64)
def CMul.ok {i j:Int} (h:CMul i j):IntMulOk i j:=by
 rcases h with ⟨h1,h2⟩|⟨h1,h2⟩
 ·exact .of_left (intBits_le_64 h1 h2)
 ·exact .of_right (intBits_le_64 h1 h2)
def op_add:OpR X (binaryOp .Add) (rI0 λ i j=>.int (i + j)):=zgO λ _ _ _ _ _ _ _ q=>add_int q
def Wm:OpR X (binaryOp .Sub) (rI0 λ i j=>.int (i - j)):=zgO λ _ _ _ _ _ _ _ q=>sub_int q
def zeK:OpR X (binaryOp .FloorDiv) (rI zhs λ i j=>.int (i / j)):=opI λ i j _ _ _ _ _ hc q=>by
 have h1:(0:Int) < j:=hc.1;have h2:j < 1073741824:=hc.2;exact floordiv_int (by lia) (by rw [eB i (by lia)];exact q) (.inl (eQ (by lia)))
def qa:OpR X (binaryOp .Mod) (rI (λ _ j=>0 < j) λ i j=>.int (i % j)):=opI λ i j _ _ _ _ _ hc q=>by
 have h1:(0:Int) < j:=hc;exact mod_int' (by lia) (by rw [Int.fmod_eq_emod_of_nonneg i (by lia)];exact q)
def zfX:OpR X (binaryOp .Pow) (rI zha λ i j=>.int (i ^ j.toNat)):=opI λ _ _ _ _ _ _ _ hc q=>pow_int_small hc.1 hc.2.1 hc.2.2 q
def unI {f:Value->Sem Value} {g:Int->Int}
  (rule:∀ (i:Int) (t:Tok) (s:Am) (Q:A3) (E:A3),Q (.int (g i) s.toks) { s with toks:=s.toks + 1 }->wpAny (model X.prog X.w) X.A (f (.int i t)) Q E s) :
  UnR X f (rU λ i=>.int (g i)):=by
 intro l8 s σ H x v Q I rx h;obtain ⟨i,rfl,q⟩:=Zo h;obtain ⟨t,rfl⟩:=rx;exact rule i t s _ _ ⟨.int (g i),H,I.tok _,⟨_,rfl⟩,q⟩
def xr:UnR X (unaryOp .USub) (rU λ i=>.int (-i)):=unI λ _ _ _ _ _ q=>neg_int q
end
noncomputable def zgF:V->V->Bool
 | .non,.non=>true | .non,.int _=>true | .int _,.non=>true | .non,.bl _=>true | .bl _,.non=>true | .non,.str _=>true | .str _,.non=>true
 | .int _,.int _=>true | .bl _,.bl _=>true | .str _,.str _=>true | .byt _,.byt _=>true
 | .int _,.str _=>true | .str _,.int _=>true | .bl _,.str _=>true | .str _,.bl _=>true
 | _,_=>false
def rEq:R2:=λ x y H Q=>zgF x y=true/\Q (.bl (decide (x=y))) H
def rNe:R2:=λ x y H Q=>zgF x y=true/\Q (.bl (!decide (x=y))) H
def zbM {i j:Int}:decide (V.int i=V.int j)=(i == j):=by
 rw [dj];simp
def zd3 {i j:Bool}:decide (V.bl i=V.bl j)=(i == j):=by
 rw [dj];simp
def zbL {i j:Str}:decide (V.str i=V.str j)=(i == j):=by
 rw [dj];simp
def zbN {i j:Array UInt8}:decide (V.byt i=V.byt j)=(i.toList == j.toList):=by
 rw [dj];cases i;cases j;simp
section
variable {X:Cx} {a b c:Expr} {ta tb tc:TE} {pos:Pos}
def zV {Q:VK} {k k':Bool} (I:Inv X l8 σ H s) (q:Q (.bl k) H) (e:k=k'):EP X l8 σ Q (.bool k') s:=by
 subst e;exact ⟨.bl k,H,I,rfl,q⟩
def op_eq:OpR X (compareOp .Eq) rEq:=by
 intro l8 s σ H x y v u Q I rx ry h;obtain ⟨hs,q⟩:=h;cases x with
 | non =>
  cases rx;cases y with
  | non=>cases ry;exact PySem.EqNone.eq_none_none (zV I q (by simp))
  | bl j=>cases ry;exact PySem.EqNone.eq_none_bool (zV I q (by simp))
  | int j=>obtain ⟨t',rfl⟩:=ry;exact PySem.EqNone.eq_none_int (zV I q (by simp))
  | str j=>obtain ⟨t',rfl⟩:=ry;exact PySem.EqNone.eq_none_str (zV I q (by simp))
  | _=>exact absurd (show false=true from hs) aE
 | bl i =>
  cases rx;cases y with
  | non=>cases ry;exact PySem.EqNone.eq_bool_none (zV I q (by simp))
  | bl j=>cases ry;exact eq_bool (zV I q zd3)
  | str j=>obtain ⟨t',rfl⟩:=ry;exact PySem.EqMixed.eq_bool_str (zV I q (by simp))
  | _=>exact absurd (show false=true from hs) aE
 | int i =>
  obtain ⟨t,rfl⟩:=rx;cases y with
  | non=>cases ry;exact PySem.EqNone.eq_int_none (zV I q (by simp))
  | int j=>obtain ⟨t',rfl⟩:=ry;exact eq_int (zV I q zbM)
  | str j=>obtain ⟨t',rfl⟩:=ry;exact PySem.EqMixed.eq_int_str (zV I q (by simp))
  | _=>exact absurd (show false=true from hs) aE
 | str i =>
  obtain ⟨t,rfl⟩:=rx;cases y with
  | non=>cases ry;exact PySem.EqNone.eq_str_none (zV I q (by simp))
  | bl j=>cases ry;exact PySem.EqMixed.eq_str_bool (zV I q (by simp))
  | int j=>obtain ⟨t',rfl⟩:=ry;exact PySem.EqMixed.eq_str_int (zV I q (by simp))
  | str j=>obtain ⟨t',rfl⟩:=ry;exact eq_str (zV I q zbL)
  | _=>exact absurd (show false=true from hs) aE
 | byt i =>
  obtain ⟨t,rfl⟩:=rx;cases y with
  | byt j=>obtain ⟨t',rfl⟩:=ry;exact PySem.W.eq_bytes (zV I q zbN)
  | _=>exact absurd (show false=true from hs) aE
 | _=>cases y <;> exact absurd (show false=true from hs) aE
def op_ne:OpR X (compareOp .NotEq) rNe:=by
 intro l8 s σ H x y v u Q I rx ry h;obtain ⟨hs,q⟩:=h;cases x with
 | non =>
  cases rx;cases y with
  | non=>cases ry;exact PySem.EqNone.ne_none_none (zV I q (by simp))
  | bl j=>cases ry;exact PySem.EqNone.ne_none_bool (zV I q (by simp))
  | int j=>obtain ⟨t',rfl⟩:=ry;exact PySem.EqNone.ne_none_int (zV I q (by simp))
  | str j=>obtain ⟨t',rfl⟩:=ry;exact PySem.EqNone.ne_none_str (zV I q (by simp))
  | _=>exact absurd (show false=true from hs) aE
 | bl i =>
  cases rx;cases y with
  | non=>cases ry;exact PySem.EqNone.ne_bool_none (zV I q (by simp))
  | bl j=>cases ry;exact ne_bool (zV I q (ce not zd3))
  | str j=>obtain ⟨t',rfl⟩:=ry;exact PySem.EqMixed.ne_bool_str (zV I q (by simp))
  | _=>exact absurd (show false=true from hs) aE
 | int i =>
  obtain ⟨t,rfl⟩:=rx;cases y with
  | non=>cases ry;exact PySem.EqNone.ne_int_none (zV I q (by simp))
  | int j=>obtain ⟨t',rfl⟩:=ry;exact ne_int (zV I q (ce not zbM))
  | str j=>obtain ⟨t',rfl⟩:=ry;exact PySem.EqMixed.ne_int_str (zV I q (by simp))
  | _=>exact absurd (show false=true from hs) aE
 | str i =>
  obtain ⟨t,rfl⟩:=rx;cases y with
  | non=>cases ry;exact PySem.EqNone.ne_str_none (zV I q (by simp))
  | bl j=>cases ry;exact PySem.EqMixed.ne_str_bool (zV I q (by simp))
  | int j=>obtain ⟨t',rfl⟩:=ry;exact PySem.EqMixed.ne_str_int (zV I q (by simp))
  | str j=>obtain ⟨t',rfl⟩:=ry;exact ne_str (zV I q (ce not zbL))
  | _=>exact absurd (show false=true from hs) aE
 | byt i =>
  obtain ⟨t,rfl⟩:=rx;cases y with
  | byt j=>obtain ⟨t',rfl⟩:=ry;exact PySem.W.ne_bytes (zV I q (ce not zbN))
  | _=>exact absurd (show false=true from hs) aE
 | _=>cases y <;> exact absurd (show false=true from hs) aE
def op_lt:OpR X (compareOp .Lt) (rI0 λ i j=>.bl (decide (i < j))):=zfY λ _ _ _ _ _ _ _ q=>lt_int q
def op_le:OpR X (compareOp .LtE) (rI0 λ i j=>.bl (decide (i<=j))):=zfY λ _ _ _ _ _ _ _ q=>le_int q
def op_gt:OpR X (compareOp .Gt) (rI0 λ i j=>.bl (decide (j < i))):=zfY λ _ _ _ _ _ _ _ q=>gt_int q
def op_isN:OpR X (compareOp .Is) (λ x y H Q=>nq y (Q (.bl (decide (x=.non))) H)):=by
 intro l8 s σ H x y v u Q I rx ry h;obtain ⟨rfl,q⟩:=zbt h;cases ry;refine is_none_gen (zV I q ?_);cases x <;> first
  | (cases rx;rfl)
  | (obtain ⟨t,rfl⟩:=rx;rfl)
def op_notN:OpR X (compareOp .IsNot) (λ x y H Q=>nq y (Q (.bl (!decide (x=.non))) H)):=by
 intro l8 s σ H x y v u Q I rx ry h;obtain ⟨rfl,q⟩:=zbt h;cases ry;refine isnot_none_gen (zV I q ?_);cases x <;> first
  | (cases rx;rfl)
  | (obtain ⟨t,rfl⟩:=rx;rfl)
def OpR.or {r r':R2} (h:OpR X f r) (h':OpR X f r'):OpR X f (λ x y H Q=>r x y H Q\/r' x y H Q):=by
 intro l8 s σ H x y v u Q I rx ry q;rcases q with q|q
 ·exact h l8 s σ H x y v u Q I rx ry q
 ·exact h' l8 s σ H x y v u Q I rx ry q
def zn (b:Expr) (h:op≠.In:=by decide) (h2:op≠.NotIn:=by decide):behindInMarks op b=false:=by
 have e1:(op == CmpOp.In)=false:=by cases op <;> first|rfl|exact absurd rfl h
 have e2:(op == CmpOp.NotIn)=false:=by cases op <;> first|rfl|exact absurd rfl h2
 cases b <;> simp [behindInMarks,e1,e2]
def wQ {r:R2} (ho:OpR X (compareOp op) r) (ha:PE X a ta) (hb:PE X b tb) (hm:behindInMarks op b=false):PE X (.Compare a [op] [b] pos) (tOp r ta tb):=by
 intro l8 s σ H Q I h;exact wpAny_Compare1 (zgs ha hb I h λ v u s2 x y H2 I2 rx ry q=>ho l8 s2 σ H2 x y v u Q I2 rx ry q) hm
def tTest (t:TE):TT:=λ σ H Q=>t σ H λ x H'=>bq x λ k=>Q k H'
def zl {r:R2} (ho:OpR X (compareOp op) r) (ha:PE X a ta) (hb:PE X b tb) (hm:behindInMarks op b=false):PT X (.Compare a [op] [b] pos) (tTest (tOp r ta tb)):=by
 intro l8 s σ H Q I h;refine wpAny_isTrue_Compare1 (qp (ha l8 s σ H _ I h) λ v s1 x H1 I1 r1 q1=>qp (hb l8 s1 σ H1 _ I1 q1) λ u s2 y H2 I2 r2 q2 =>
  thn (ho l8 s2 σ H2 x y v u _ I2 r1 r2 q2) λ c s3 ⟨z,H3,I3,r3,q3⟩=>?_) hm
 obtain ⟨k,e,q3⟩:=Qd q3;subst e;cases r3;exact bA ⟨H3,I3,q3⟩
def tChain (r r':R2) (ta tb tc:TE):TE:=λ σ H Q=>ta σ H λ x H1=>tb σ H1 λ y H2=>r x y H2 λ z H3=>bq z λ k =>
 (if k=true then tc σ H3 λ w' H4=>r' y w' H4 Q else Q (.bl false) H3)
theorem jy {op op':CmpOp} {r r':R2} (ho:OpR X (compareOp op) r) (ho':OpR X (compareOp op') r') (ha:PE X a ta) (hb:PE X b tb) (hc:PE X c tc)
  (hm:lastMarks [op,op'] [b,c]=false:=by with_unfolding_all rfl):PT X (.Compare a [op,op'] [b,c] pos) (tTest (tChain r r' ta tb tc)):=by
 intro l8 s σ H Q I h;refine isTrue_chain (qp (ha l8 s σ H _ I h) λ v s1 x H1 I1 r1 q1=>test_link (qp (hb l8 s1 σ H1 _ I1 q1) λ u s2 y H2 I2 r2 q2 =>
  thn (ho l8 s2 σ H2 x y v u _ I2 r1 r2 q2) λ d s3 ⟨z,H3,I3,r3,q3⟩=>?_)) hm
 obtain ⟨k,e,q3⟩:=Qd q3;subst e;cases r3;refine bA ?_;cases k with
 | false =>
  obtain ⟨k',e',q'⟩:=Qd q3;cases e';exact ite_ff ⟨H3,I3,q'⟩
 | true =>
  refine ite_tt (test_last (thn (hc l8 s3 σ H3 _ I3 q3) λ w' s4 ⟨z',H4,I4,r4,q4⟩=>thn (ho' l8 s4 σ H4 y z' u w' _ I4 r2 r4 q4) λ d' s5 ⟨z2,H5,I5,r5,q5⟩=>?_));obtain ⟨k2,e2,q5⟩:=Qd q5;subst e2;cases r5;exact bA ⟨H5,I5,q5⟩
def zcP (K:A0) (x:V) (H:Hp) (k:Bool):Prop :=
 match x with
 | .non=>k=false
 | .bl b=>k=b
 | .int i=>k=(i != 0)
 | .str y=>y.length<=sizeLine/\k=((y.length:Int) != 0)
 | .byt y=>y.size<=sizeLine/\k=((y.size:Int) != 0)
 | .ref p=>(∃ xs,SqL K H p xs/\k=!xs.isEmpty)\/(∃ xs,SqT K H p xs/\k=!xs.isEmpty)\/∃ me,H p=some (.dK me)/\k=!me.isEmpty
 | _=>False
def za0 {κ:Type} {me:List (κ × V)} {vs:List (κ × Value)} (r:KV me vs):(!vs.isEmpty)=!me.isEmpty:=by
 cases r <;> rfl
def Jz {xs:Ao} {ma:A7} (r:Vals xs ma):(!ma.toArray.isEmpty)=!xs.isEmpty:=by
 cases r <;> simp
def vL:(sizeLine:Nat) < 2 ^ 63:=by rw [eJ];decide
def zfy:zhq X (λ x H Q=>∃ k,zcP X.K x H k/\Q k H):=by
 intro l8 s σ H x v Q I rx h;obtain ⟨k,e,q⟩:=h;have hl:=vL;have hs:sizeLine=16777216:=eJ;cases x with
 | non =>
  cases rx;have e':k=false:=e;subst e';exact truthy_none ⟨H,I,q⟩
 | bl b =>
  cases rx;have e':k=b:=e;subst e';exact bA ⟨H,I,q⟩
 | int i =>
  obtain ⟨t,rfl⟩:=rx;have e':k=(i != 0):=e;subst e';exact PySem.P.truthy_int ⟨H,I,q⟩
 | str y =>
  obtain ⟨t,rfl⟩:=rx;obtain ⟨hy,e'⟩:y.length<=sizeLine/\k=((y.length:Int) != 0):=e;subst e';exact PySem.P.truthy_str (by lia) ⟨H,I.tok _,q⟩
 | byt y =>
  obtain ⟨t,rfl⟩:=rx;obtain ⟨hy,e'⟩:y.size<=sizeLine/\k=((y.size:Int) != 0):=e;subst e';exact PySem.W.truthy_bytes (by lia) ⟨H,I.tok _,q⟩
 | ref p =>
  cases rx;have e':(∃ xs,SqL X.K H p xs/\k=!xs.isEmpty)\/(∃ xs,SqT X.K H p xs/\k=!xs.isEmpty)\/∃ me,H p=some (.dK me)/\k=!me.isEmpty:=e;rcases e' with ⟨xs,hx,e'⟩|⟨xs,hx,e'⟩|⟨me,hx,e'⟩
  ·subst e';obtain ⟨ma,r,pl,hz⟩:=I.list hx;have hlen:=r.length;exact wpAny_truthy_list pl.isList (by simp only [ar];lia) ⟨H,I.tok _,by rw [Jz r];exact q⟩
  ·subst e';obtain ⟨ma,r,pl,hz⟩:=I.tuple hx;have hlen:=r.length;exact truthy_tuple pl (by simp only [ar];lia) ⟨H,I.tok _,by rw [Jz r];exact q⟩
  ·subst e';obtain ⟨hz,hS,vs,r,m⟩:me.length<=sizeLine/\(p == sysModules)=false/\∃ vs,KV me vs/\s.heap.DictOf (Ws X.prog X.w) p vs:=I.hok p _ hx;have hlen:me.length=vs.length:=cB r;exact wpAny_truthy_dict hS m (by lia) ⟨H,I.tok _,by rw [za0 r];exact q⟩
 | _=>exact (show False from e).elim
def trq (K:A0) (x:V) (H:Hp) (Q:Bool->Hp->Prop):Prop :=
 match x with
 | .bl b=>Q b H
 | x=>∃ k,zcP K x H k/\Q k H
def zfz {x:V} {Q:Bool->Hp->Prop} (h:trq K x H Q):∃ k,zcP K x H k/\Q k H:=by
 cases x <;> first|exact ⟨_,rfl,h⟩|exact h
def tTru (K:A0) (ta:TE):TT:=λ σ H Q=>ta σ H λ x H'=>trq K x H' Q
def zK (ha:PE X a ta) (he:∀ whole,isTrue a X.env whole=(do let v <- whole;standAt a.pos;holding [v] (truthy v))) :
  PT X a (tTru X.K ta):=by
 intro l8 s σ H Q I h;exact isTrue_plain (qp (ha l8 s σ H _ I h) λ v s1 x H1 I1 r1 q1=>zfy l8 s1 σ H1 x v Q I1 r1 (zfz q1)) (he _)
def op_add_str:OpR X (binaryOp .Add) (λ x y H Q=>∃ i j,x=.str i/\y=.str j/\i.length + j.length<=sizeLine/\Q (.str (i ++ j)) H):=by
 intro l8 s σ H x y v u Q I rx ry h;obtain ⟨i,j,rfl,rfl,hz,q⟩:=h;obtain ⟨t,rfl⟩:=rx;obtain ⟨t',rfl⟩:=ry;exact add_str (λ t' tk=>⟨.str (i ++ j),H,I.tok _,⟨_,rfl⟩,q⟩) hz
def vb {x:V} (r:Vals [x] us):∃ u,us=[u]/\RelV x u:=by
 cases r with
 | cons r1 r2=>cases r2;exact ⟨_,rfl,r1⟩
def zgB {x y:V} (r:Vals [x,y] us):∃ u w',us=[u,w']/\RelV x u/\RelV y w':=by
 cases r with
 | cons r1 r2 =>
  cases r2 with
  | cons r3 r4=>cases r4;exact ⟨_,_,rfl,r1,r3⟩
def XO (hc:X.calm=true):CallR X (.builtin "max") (λ xs H Q=>∃ i j,xs=[.int i,.int j]/\Q (.int (if j > i then j else i)) H):=by
 intro l8 s σ H xs us Q I r h;obtain ⟨i,j,rfl,q⟩:=h;obtain ⟨u,w',rfl,⟨t,rfl⟩,⟨t',rfl⟩⟩:=zgB r;refine max_two_ints (I.ok.hd hc) λ h' tk k=>⟨_,H,I.kept k,?_,q⟩;by_cases hj:j > i
 ·rw [aA hj,aA hj];exact ⟨_,rfl⟩
 ·rw [aq hj,aq hj];exact ⟨_,rfl⟩
def zg8 (K:A0) (x:V) (H:Hp) (n:Nat):Prop :=
 match x with
 | .str y=>y.length<=sizeLine/\n=y.length
 | .byt y=>y.size<=sizeLine/\n=y.size
 | .ref p=>(∃ xs,SqL K H p xs/\n=xs.length)\/∃ xs,SqT K H p xs/\n=xs.length
 | _=>False
def zd4:CallR X (.builtin "len") (λ xs H Q=>∃ x n,xs=[x]/\zg8 X.K x H n/\Q (.int n) H):=by
 intro l8 s σ H xs us Q I r h;obtain ⟨x,n,rfl,e,q⟩:=h;obtain ⟨u,rfl,rx⟩:=vb r;have hl:=vL;have hs:sizeLine=16777216:=eJ;cases x with
 | str y =>
  obtain ⟨t,rfl⟩:=rx;obtain ⟨hy,e'⟩:y.length<=sizeLine/\n=y.length:=e;subst e';exact len_str (by lia) ⟨.int _,H,I.tok _,⟨_,rfl⟩,q⟩
 | byt y =>
  obtain ⟨t,rfl⟩:=rx;obtain ⟨hy,e'⟩:y.size<=sizeLine/\n=y.size:=e;subst e';exact PySem.W.len_bytes (by lia) ⟨.int _,H,I.tok _,⟨_,rfl⟩,q⟩
 | ref p =>
  cases rx;have e':(∃ xs,SqL X.K H p xs/\n=xs.length)\/∃ xs,SqT X.K H p xs/\n=xs.length:=e;rcases e' with ⟨xs,hx,e'⟩|⟨xs,hx,e'⟩
  ·subst e';obtain ⟨ma,r',pl,hz⟩:=I.list hx;have hlen:=r'.length;exact Calls.call_len_list pl.isList (by simp only [ar];lia) ⟨.int xs.length,H,I.tok _,⟨_,by simp only [ar];rw [hlen]⟩,q⟩
  ·subst e';obtain ⟨ma,r',pl,hz⟩:=I.tuple hx;have hlen:=r'.length;exact len_tuple pl (by simp only [ar];lia) ⟨.int xs.length,H,I.tok _,⟨_,by simp only [ar];rw [hlen]⟩,q⟩
 | _=>exact (show False from e).elim
end
structure ObjM (h:Heap) (x dx C:Addr) (mA:A4):Prop where
 obj:h.get? x=some (instObj C dx)
 ns:h.Ns1 dx mA
 ne:dx≠x
def zcr {h:Heap} {dx:Addr} {mA:A4} (n:h.Ns1 dx mA):∃ od,h.get? dx=some od/\∀ name,lookIn name od=some (mA name):=by
 obtain ⟨o,es,ep,ho,hd,hk,_,hm⟩:=n;refine ⟨o,ho,λ name=>?_⟩;have e:=hm name;unfold nsFind findBy at e;rw [<- Array.find?_toList] at e;unfold lookIn;rw [hd];dsimp only
 split
 ·rename_i y q;rw [q] at e;exact ce some e
 ·rename_i q;rw [q] at e;have a:es.toList.any (·.refKey)=false:=by
   rw [List.any_eq_false];intro y hy;obtain ⟨z,t,hkey⟩:=hk y (Array.mem_toList_iff.mp hy);simp [DictEntry.refKey,hkey]
  have a':¬ es.toList.any (·.refKey)=true:=by rw [a];exact aE
  rw [aq a'];exact ce some e
def ObjM.look {h:Heap} {x dx C:Addr} {mA:A4} (I:ObjM h x dx C mA):∃ od,PySem.W.InstAt h x (instObj C dx) C (some od)/\∀ name,lookIn name od=some (mA name) :=
 let ⟨od,ho,hl⟩:=zcr I.ns
 ⟨od,⟨I.obj,rfl,rfl,ho⟩,hl⟩
section
variable {prog:Af} {w:World} {A:An} {E:A3} {s:Am} {K:A0} {x dx C f:Addr} {mA:A4} {name:Str} {v:Al}
def ze1 {expr:Bool} (X:K.In s.heap) (I:ObjM s.heap x dx C mA) (hg:plainGet K C name=true) (hh:hasDictIn K C=true)
  (ha:findIn K (.ref C) name=some none) (hv:mA name=some v) (hv':handedIn v=true) (h:Q v { s with toks:=s.toks + 1 }) :
  wpAny (model prog w) A (getAttr (.ref x) name expr) Q E s:=by
 obtain ⟨od,J,hl⟩:=I.look;exact PySem.W.get_value X J (plainGet_of hg).1 (PySem.W.findObj_own hh ha rfl (by rw [hl,hv])) hv' h
def zdU {pl:Sem Bool} {Q:Value × List Value->Shared->Prop} (X:K.In s.heap) (I:ObjM s.heap x dx C mA) (hg:plainGet K C name=true)
  (hf:findIn K (.ref C) name=some (some (.ref f))) (ht:isFn K (.ref f)=true) (hv:mA name=none) (h:Q (.ref f,[.ref x]) s) :
  wpAny (model prog w) A (getMethod (.ref x) name pl) Q E s:=by
 obtain ⟨od,J,hl⟩:=I.look;exact PySem.W.method_fn X J (plainGet_of hg).1 (plainGet_of hg).2 hf (bD.mp ht) (by show (lookIn name od).map (·.isSome)=some false;rw [hl,hv];rfl) h
def zeu {ns:A8} {Q:Ag} (X:K.In s.heap) (I:ObjM s.heap x dx C mA)
  (hs:findIn K (.ref C) "__setattr__"=some (some (.builtin "object.__setattr__"))) (hp:plainOver K C=true) (ht:takerIn K C name=some none) (hh:hasDictIn K C=true)
  (hw:PySem.Within mA ns) (hsz:ns.length<=sizeLine)
  (h:∀ h',ObjM h' x dx C (λ y=>if y=name then some v else mA y)->Heap.SameBut dx s.heap h'->Q () { s with heap:=h',toks:=s.toks + 2 }) :
  wpAny (model prog w) A (setAttr (.ref x) name v) Q E s:=by
 obtain ⟨od,J,hl⟩:=I.look;refine PySem.W.set_plain X J hs (PySem.W.osa_open (s:={ s with toks:=s.toks + 1 }) (r:=none) X J hp ht λ b=>?_);obtain ⟨cd,hc,hd'⟩:=fB hh;have hx:s.heap.get? x=some ⟨.ref C,some dx,.plain,#[]⟩:=I.obj;refine af (ao (af (af (wpAny_loadPart hx (af (PySem.W.Looks.here (s:={ s with toks:=s.toks + 1 }) (PySem.W.looks_clsIn X hc) ?_))))));rw [hd'];refine ao (a:=some dx) (af (ao (af ?_)));refine wpAny_nsSet1 (s:={ s with toks:=s.toks + 1 }) I.ns λ h' hn2 hs2=>?_;obtain ⟨oD,esD,epD,hoD,hdD,hcD⟩:=hn2.count (PySem.Within.cons name v hw);refine af (wpAny_lookBehind hoD (by rw [hdD];exact pastItsLine_dict (bc hcD (by rw [bg];lia))) ?_);exact ao (h _ ⟨(hs2.2 _ (aZ I.ne)).trans I.obj,hn2,I.ne⟩ hs2)
def VI {R:Result->Shared->Prop} {vs:A7} {kw:List (Str × Value)} (X:K.In s.heap) (hm:makesIn K C=true)
  (hi:findIn K (.ref C) "__init__"=some (some (.ref f))) (hf:typeIn K (.ref f)=some (.type "function"))
  (h:codeAny (model prog w) (A.under (.builtin "type.__call__" ⟨.ref C :: vs,kw⟩)) (.call (.ref f) ⟨.ref (s.heap.objs.size + 1) :: vs,kw⟩) (PySem.W.InitBack (s.heap.objs.size + 1) R)
   { s with heap:=(s.heap.push emptyDict).push (instObj C s.heap.objs.size) }) :
  codeAny (model prog w) A (.call (.ref C) ⟨vs,kw⟩) R s:=by
 obtain ⟨hh,g,d,t,os⟩:=s;exact PySem.W.make_core (PySem.W.makes_of X hm) (looks_findIn X hi) (λ self=>PySem.W.bind_fn X self hf) (.inl rfl) h
end
noncomputable def z5 (f:Str) (v:V):List (Str × V)->List (Str × V)
 | []=>[(f,v)]
 | (g,x) :: r=>if g=f then (g,v) :: r else (g,x) :: z5 f v r
theorem zZ (f g:Str) (v:V):∀ fs:List (Str × V),(z5 f v fs).lookup g=if g=f then some v else fs.lookup g
 | []=>by
  show List.lookup g [(f,v)]=_
  by_cases h:g=f
  ·have hb:(g == f)=true:=bD.mpr h;simp only [List.lookup,hb,aA h]
  ·have hb:(g == f)=false:=a8.mpr h;simp only [List.lookup,hb,aq h]
 | (k,x) :: r=>by
  have ih:=zZ f g v r;rw [show z5 f v ((k,x) :: r)=(if k=f then (k,v) :: r else (k,x) :: z5 f v r) from rfl];by_cases hk:k=f
  ·rw [aA hk];by_cases h:g=k
   ·have hb:(g == k)=true:=bD.mpr h;simp only [List.lookup,hb,aA (h.trans hk)]
   ·have hb:(g == k)=false:=a8.mpr h;simp only [List.lookup,hb,aq (λ e:g=f=>h (e.trans hk.symm))]
  ·rw [aq hk];by_cases h:g=k
   ·have hb:(g == k)=true:=bD.mpr h;simp only [List.lookup,hb,aq (λ e:g=f=>hk (h.symm.trans e))]
   ·have hb:(g == k)=false:=a8.mpr h;simp only [List.lookup,hb];exact ih
theorem ZY (f:Str) (v:V):∀ fs:List (Str × V),f∈(z5 f v fs).map (·.1)/\∀ g,g∈fs.map (·.1)->g∈(z5 f v fs).map (·.1)
 | []=>⟨by simp [z5],λ g h=>by simp at h⟩
 | (k,x) :: r=>by
  obtain ⟨i1,i2⟩:=ZY f v r;rw [show z5 f v ((k,x) :: r)=(if k=f then (k,v) :: r else (k,x) :: z5 f v r) from rfl];by_cases hk:k=f
  ·rw [aA hk];subst hk;exact ⟨by simp,λ g h=>by simpa using h⟩
  ·rw [aq hk];refine ⟨?_,λ g h=>?_⟩
   ·rw [b5];exact aB _ i1
   ·rw [b5] at h ⊢;rcases az.mp h with e|e
    ·exact az.mpr (.inl e)
    ·exact aB _ (i2 g e)
theorem xo (f:Str) (v:V):∀ fs:List (Str × V),(z5 f v fs).length<=fs.length + 1
 | []=>by simp [z5]
 | (k,x) :: r=>by
  have ih:=xo f v r;rw [show z5 f v ((k,x) :: r)=(if k=f then (k,v) :: r else (k,x) :: z5 f v r) from rfl];by_cases hk:k=f
  ·rw [aA hk,bg,bg];lia
  ·rw [aq hk,bg,bg];lia
def RelO.some_of {v:V} {o:Option Value} (r:RelO (some v) o):∃ u,o=some u/\RelV v u:=by
 cases o with
 | none=>exact (show False from r).elim
 | some u=>exact ⟨u,rfl,r⟩
def RelO.none_of {o:Option Value} (r:RelO none o):o=none:=by
 cases o with
 | none=>rfl
 | some u=>exact (show False from r).elim
def zcx {v:V} (r:RelV v u):handedIn u=true:=by
 cases v with
 | non=>cases (show u=Value.none from r);rfl
 | bl b=>cases (show u=Value.bool b from r);rfl
 | int i=>obtain ⟨t,e⟩:=(show ∃ t,u=Value.int i t from r);cases e;rfl
 | str x=>obtain ⟨t,e⟩:=(show ∃ t,u=Value.str x t from r);cases e;rfl
 | byt b=>obtain ⟨t,e⟩:=(show ∃ t,u=Value.bytes b t from r);cases e;rfl
 | flt b=>obtain ⟨t,e⟩:=(show ∃ t,u=Value.float b t from r);cases e;rfl
 | ref a=>cases (show u=Value.ref a from r);rfl
 | ty n=>cases (show u=Value.type n from r);rfl
section
variable {P:Af} {w:World} {H H':Hp} {h h':Heap} {a C dx:Addr} {fs fs':Aq}
def QE (hok:HOk P w H h) (e:H a=some (.ins C dx fs)):∃ mA,ObjM h a dx C mA/\(∀ f,RelO (fs.lookup f) (mA f))/\PySem.Within mA (fs.map (·.1))/\fs.length<=1000/\H dx=some (.own a):=by
 obtain ⟨d,z,ne,ob,mA,n,r,q⟩:=(show ObjOk P w H h a (.ins C dx fs) from hok a _ e);exact ⟨mA,⟨ob,n,ne⟩,r,q,z,d⟩
end
structure Cls (K:A0) (C:Addr):Prop where
 pg:plainGet K C Str.empty=true
 hd:hasDictIn K C=true
 po:plainOver K C=true
 sa:findIn K (.ref C) "__setattr__"=some (some (.builtin "object.__setattr__"))
def Cls.get (c:Cls K C) (f:Str):plainGet K C f=true:=c.pg
def NoAttr (K:A0) (C:Addr) (f:Str):Prop:=findIn K (.ref C) f=some none
def NoAttr.taker {f:Str} (n:NoAttr K C f):takerIn K C f=some none:=by
 unfold takerIn;rw [show findIn K (.ref C) f=some none from n]
 rfl
structure Meth (K:A0) (C:Addr) (m:Str) (f:Addr):Prop where
 at_:findIn K (.ref C) m=some (some (.ref f))
 fn:isFn K (.ref f)=true
 kp:keepIn K (.ref f)=true
section
variable {X:Cx} {l8:A2} {σ:St} {H:Hp} {s:Am} {a C dx:Addr} {fs:Aq} {f:Str} {v:V} {A:An} {E:A3}
def JC {b:Bool} (I:Inv X l8 σ H s) (e:H a=some (.ins C dx fs)) (c:Cls X.K C) (n:NoAttr X.K C f) (l:fs.lookup f=some v)
  (h:∀ u s',Inv X l8 σ H s'->RelV v u->Q u s'):wpAny (model X.prog X.w) A (getAttr (.ref a) f b) Q E s:=by
 obtain ⟨mA,O,r,_,_,_⟩:=QE I.hok e;obtain ⟨u,hu,ru⟩:=RelO.some_of (v:=v) (o:=mA f) (by rw [<- l];exact r f);exact ze1 I.kIn O (c.get f) c.hd n hu (zcx ru) (h u _ (I.tok _) ru)
def vN {m:Str} {g:Addr} {pl:Sem Bool} {Q:Value × List Value->Shared->Prop} (I:Inv X l8 σ H s) (e:H a=some (.ins C dx fs)) (c:Cls X.K C) (k:Meth X.K C m g) (l:fs.lookup m=none)
  (h:Q (.ref g,[.ref a]) s):wpAny (model X.prog X.w) A (getMethod (.ref a) m pl) Q E s:=by
 obtain ⟨mA,O,r,_,_,_⟩:=QE I.hok e;have hn:mA m=none:=RelO.none_of (by rw [<- l];exact r m);exact zdU I.kIn O (c.get m) k.at_ k.fn hn h
def QP {y:V} {Q:Ag} (I:Inv X l8 σ H s) (e:H a=some (.ins C dx fs)) (c:Cls X.K C) (n:NoAttr X.K C f) (hl:fs.length < 1000) (ry:RelV y u)
  (h:∀ s',Inv X l8 σ (upd H a (.ins C dx (z5 f y fs))) s'->Q () s'):wpAny (model X.prog X.w) A (setAttr (.ref a) f u) Q E s:=by
 obtain ⟨mA,O,r,wi,_,ho⟩:=QE I.hok e;have hz:(fs.map (·.1)).length<=sizeLine:=by rw [ah,eJ];lia
 refine zeu I.kIn O c.sa c.po n.taker c.hd wi hz λ h' O' sb=>h _ ?_;have hd:∃ o,h'.get? dx=some o:=let ⟨o,_,_,e',_⟩:=O'.ns;⟨o,e'⟩
 refine I.write (x:=a) (e:=dx) (by rw [e];exact True.intro) (.inr ho) (λ b q hb z=>(sb.2 b hb).trans z) hd ?_;refine ⟨by rw [mw O.ne];exact ho,?_,O.ne,O'.obj,_,O'.ns,λ g=>?_,λ g hg=>?_⟩
 ·have:=xo f y fs;lia
 ·show RelO ((z5 f y fs).lookup g) (if g=f then some u else mA g)
  rw [zZ];by_cases q:g=f
  ·rw [aA q,aA q];exact ry
  ·rw [aq q,aq q];exact r g
 ·by_cases q:g=f
  ·rw [q];exact (ZY f y fs).1
  ·refine (ZY f y fs).2 g (wi g λ z=>hg ?_);show (if g=f then some u else mA g)=none
   rw [aq q];exact z
def Inv.made (I:Inv X l8 σ H s):Inv X l8 σ (upd (upd H s.heap.objs.size (.own (s.heap.objs.size + 1))) (s.heap.objs.size + 1) (.ins C s.heap.objs.size []))
  { s with heap:=(s.heap.push emptyDict).push (instObj C s.heap.objs.size) }:=by
 have e1:(s.heap.push emptyDict).get? s.heap.objs.size=some emptyDict:=aJ s.heap rfl;have e2:((s.heap.push emptyDict).push (instObj C s.heap.objs.size)).get? (s.heap.objs.size + 1)=some (instObj C s.heap.objs.size):=by
  have:=aJ (s.heap.push emptyDict) (o:=instObj C s.heap.objs.size) rfl
  rwa [de] at this
 have e3:(s.heap.push emptyDict).Ns s.heap.objs.size (λ _=>none):=⟨emptyDict,#[],_,e1,rfl,(λ e he=>absurd he (by simp)),λ _=>rfl⟩;have I1:=I.laid (a:=s.heap.objs.size) (o:=.own (s.heap.objs.size + 1)) (h':=s.heap.push emptyDict) (t':=s.toks) (λ b u q=>aj _ q) (ap _) ⟨_,e1⟩;refine I1.laid (a:=s.heap.objs.size + 1) (o:=.ins C s.heap.objs.size []) (t':=s.toks) (λ b u q=>aj _ q) (Nat.le_of_eq (de _ _)) ?_;have ne:s.heap.objs.size≠s.heap.objs.size + 1:=aI (db _);refine ⟨by rw [mw ne,mv],bU _,ne,e2,λ _=>none,(Heap.Ns1.of_empty e3).at λ o q=>aj _ q,λ _=>True.intro,λ y hy=>absurd rfl hy⟩
def zfa {prog:Af} {env:Env} {e:Expr} {f:Str} {s:Am} (hb:attributeBase e f env (eval e env)=eval e env)
  (h:wpAny (model prog w) A (eval e env) (λ o s₁=>wpAny (model prog w) A (getAttr o f true) Q E s₁) E s):wpAny (model prog w) A (eval (.Attribute e f pos) env) Q E s :=
 Attribute_any_ h (by rw [arm_eval_Attribute,hb])
end
def tFld (K:A0) (ta:TE) (f:Str):TE:=λ σ H Q=>ta σ H λ x H1=>∃ a C dx fs v,x=.ref a/\H1 a=some (.ins C dx fs)/\Cls K C/\NoAttr K C f/\fs.lookup f=some v/\Q v H1
def sFld (K:A0) (ta tv:TE) (f:Str):TS:=λ D σ H=>tv σ H λ y H1=>ta σ H1 λ x H2=>∃ a C dx fs,x=.ref a/\H2 a=some (.ins C dx fs)/\Cls K C/\NoAttr K C f/\fs.length < 1000 /\
 D.nx σ (upd H2 a (.ins C dx (z5 f y fs)))
def zg9 (X:Cx) (op:Operator) (rd:V->V->Hp->VK->Prop):Prop :=
 ∀ (l8:A2) (s:Am) (σ:St) (H:Hp) (x y:V) (u v:Al) (Q:VK),Inv X l8 σ H s->RelV x u->RelV y v->rd x y H Q->wpAny (model X.prog X.w) X.A (inplaceOp op u v) (EP X l8 σ Q) X.xe s
def zew (K:A0) (ta tv:TE) (rd:V->V->Hp->VK->Prop) (f:Str):TS:=λ D σ H=>ta σ H λ x H1=>∃ a C dx fs v,x=.ref a/\H1 a=some (.ins C dx fs)/\Cls K C/\NoAttr K C f/\fs.lookup f=some v /\
 tv σ H1 λ y H2=>rd v y H2 λ z H3=>∃ dx' fs',H3 a=some (.ins C dx' fs')/\fs'.length < 1000/\D.nx σ (upd H3 a (.ins C dx' (z5 f z fs')))
section
variable {X:Cx} {o e value:Expr} {f:Str} {pos pos' tpos:Pos} {ta tv:TE}
def zk (he:PE X e ta) (hb:attributeBase e f X.env (eval e X.env)=eval e X.env):PE X (.Attribute e f pos) (tFld X.K ta f):=by
 intro l8 s σ H Q I h;refine zfa hb (qp (he l8 s σ H _ I h) λ u s1 x H1 I1 rx qq_=>?_);obtain ⟨a,C,dx,fs,v,ex,ea,c,n,l,q⟩:=qq_;subst ex;obtain rfl:u=Value.ref a:=rx;exact JC I1 ea c n l λ u' s2 I2 ru=>⟨v,H1,I2,ru,q⟩
def jh (ha:PE X o ta) (hv:PE X value tv) (hs:swapsWith value (some (.Attribute o f pos')) pos.line X.env=pure false):PS X (.Assign [.Attribute o f pos'] value pos) (sFld X.K ta tv f):=by
 intro l8 s σ H D I h;refine plainObj_wpAny_Assign_Attribute (qp (hv l8 s σ H _ I h) λ u s1 y H1 I1 ry q=>qp (ha l8 s1 σ H1 _ I1 q) λ ov s2 x H2 I2 rx qq_=>?_) hs;obtain ⟨a,C,dx,fs,ex,ea,c,n,l,q2⟩:=qq_;subst ex;obtain rfl:ov=Value.ref a:=rx;exact QP I2 ea c n l ry λ s3 I3=>⟨σ,_,I3,q2⟩
def zck {op:Operator} {rd:V->V->Hp->VK->Prop} (ha:PE X o ta) (hv:PE X value tv) (hop:zg9 X op rd):PS X (.AugAssign (.Attribute o f tpos) op value pos) (zew X.K ta tv rd f):=by
 intro l8 s σ H D I h;refine wpAny_AugAssign_AttributeAny (qp (ha l8 s σ H _ I h) λ ov s1 x H1 I1 rx qq_=>?_);obtain ⟨a,C,dx,fs,v,ex,ea,c,n,l,q⟩:=qq_;subst ex;obtain rfl:ov=Value.ref a:=rx;refine JC I1 ea c n l λ u s2 I2 ru=>qp (hv l8 s2 σ H1 _ I2 q) λ w3 s3 y H2 I3 ry q3=>thn (hop l8 s3 σ H2 v y u w3 _ I3 ru ry q3) λ w4 s4 ⟨z,H3,I4,rz,dx',fs',ea',l',q4⟩=>?_;exact QP I4 ea' c n l' rz λ s5 I5=>⟨σ,_,I5,q4⟩
def zhk:V->V->Hp->VK->Prop:=λ x y H Q=>∃ i j,x=.int i/\y=.int j/\Q (.int (i + j)) H
def zgi:zg9 X .Add zhk:=by
 rintro l8 s σ H x y u v Q I rx ry ⟨i,j,rfl,rfl,q⟩;obtain ⟨t,rfl⟩:=(show ∃ t,u=Value.int i t from rx);obtain ⟨t',rfl⟩:=(show ∃ t',v=Value.int j t' from ry);exact PyProof.Rows.iadd_int ⟨.int (i + j),H,I.tok _,⟨_,rfl⟩,q⟩
end
section
variable {X:Cx} {l8:A2} {σ:St} {H:Hp} {s:Am} {A:An} {E:A3} {Q:A3} {c:Al} {b:Bool}
inductive TyOf (K:A0) (H:Hp):V->Value->Prop where
 | non:TyOf K H .non (.type "NoneType")
 | bl (x:Bool):TyOf K H (.bl x) (.type "bool")
 | int (i:Int):TyOf K H (.int i) (.type "int")
 | str (x:Str):TyOf K H (.str x) (.type "str")
 | flt (x:UInt64):TyOf K H (.flt x) (.type "float")
 | lst {a:Addr} {xs:Ao} (e:H a=some (.lst xs)):TyOf K H (.ref a) (.type "list")
 | frz {a:Addr} {o:Obj} {xs:Ao} (e:H a=some (.frz o (.lst xs))):TyOf K H (.ref a) (.type "list")
 | tup {a:Addr} {xs:Ao} (e:H a=some (.tup xs)):TyOf K H (.ref a) (.type "tuple")
 | dK {a:Addr} {me:List (Key × V)} (e:H a=some (.dK me)):TyOf K H (.ref a) (.type "dict")
 | dT {a:Addr} {me:Ar} (e:H a=some (.dT me)):TyOf K H (.ref a) (.type "dict")
 | ins {a C dx:Addr} {fs:Aq} (e:H a=some (.ins C dx fs)) (cl:Cls K C) (ha:findIn K (.ref C) "__class__"=some (some (.builtin "object.__class__")))
   (hn:specialIn K (.builtin "object.__class__") "__get__"=some (some (.builtin "getset_descriptor.__get__"))) (htk:takesIn K (.builtin "object.__class__")=some true)
   (hm:mroIn K C (.type "object")=some true):TyOf K H (.ref a) (.ref C)
end
structure Room (k:Nat) (A:An):Prop where
 hd:A.handled=none
 dp:A.depth + 3 * k + 5 < recursionLimit
 un:A.units + 16 * k + 200 < cLine
def Room.mono {j k:Nat} (r:Room k A) (h:j<=k):Room j A:=⟨r.hd,by have:=r.dp;lia,by have:=r.un;lia⟩
def Room.deeper (r:Room (k + 1) A) (env:Env):Room k (A.deeper env) :=
 ⟨r.hd,by have:=r.dp;show A.depth + 1 + 3 * k + 5 < _;lia,by have:=r.un;show A.units + 3 + 16 * k + 200 < _;lia⟩
def Room.in1 (r:Room (k + 1) A):Room k A.in1 :=
 ⟨r.hd,by have:=r.dp;show A.depth + 3 * k + 5 < _;lia,by have:=r.un;show A.units + 1 + 16 * k + 200 < _;lia⟩
def zaU {kw:List (Str × Value)}:(A.under (.builtin "type.__call__" ⟨.ref C :: us,kw⟩)).depth=A.depth + 1:=by
 first|rfl|simp [Around.under,Code.weight,Code.isCreation,Code.isGuard,Code.isCaller,Code.frames,Code.isFrame,guardIds]
def zaT {kw:List (Str × Value)}:(A.under (.builtin "type.__call__" ⟨.ref C :: us,kw⟩)).units=A.units + 1:=by
 first|rfl|simp [Around.under,Code.cUnits,Code.frames,Code.isFrame]
def Room.make (r:Room (k + 1) A) (C:Addr) (us:A7) (kw:List (Str × Value)):Room k (A.under (.builtin "type.__call__" ⟨.ref C :: us,kw⟩)) :=
 ⟨r.hd,by have:=r.dp;rw [zaU];lia,by have:=r.un;rw [zaT];lia⟩
def Room.depth (r:Room k A):A.depth < recursionLimit:=by have:=r.dp;lia
def Room.units (r:Room k A):A.units + 64 < cLine:=by have:=r.un;lia
def tNil:TA:=λ _ H Q=>Q [] H
def tCons (ta:TE) (tr:TA):TA:=λ σ H Q=>ta σ H λ x H1=>tr σ H1 λ xs H2=>Q (x :: xs) H2
section
variable {X:Cx} {e:Expr} {es:List Expr} {te:TE} {t:TA} {pos:Pos}
def zb:PA X [] tNil:=λ _ _ _ _ H Q I h=>Calls.spliced_nil ⟨[],H,I,.nil,h⟩
def za (ha:PE X e te) (hr:PA X es t) (hs:starEach (e :: es) X.env=(false,eval e X.env) :: starEach es X.env:=by rfl):PA X (e :: es) (tCons te t):=by
 intro pos l8 s σ H Q I h;rw [hs];show wpAny _ _ (spliced ((false,eval e X.env) :: backTo pos (starEach es X.env))) _ _ s
 refine Calls.spliced_cons (qp (ha l8 s σ H _ I h) λ u s1 x H1 I1 r1 q1=>?_);exact we (hr pos l8 s1 σ H1 _ I1 q1) λ us s2 xs H2 I2 r2 q2=>⟨x :: xs,H2,I2,.cons r1 r2,q2⟩
def tTup (t:TA):TE:=λ σ H Q=>t σ H λ xs H1=>szl xs (∀ p,H1 p=none->Q (.ref p) (upd H1 p (.tup xs)))
def tLst (t:TA):TE:=λ σ H Q=>t σ H λ xs H1=>szl xs (∀ p,H1 p=none->Q (.ref p) (upd H1 p (.lst xs)))
def ji {x1} (h:PA X es t):PE X (.Tuple es x1 pos) (tTup t):=by
 intro l8 s σ H Q I hq;refine wpAny_Tuple_spliced (we (h pos l8 s σ H _ I hq) λ us s1 xs H1 I1 r q=>let ⟨z,q⟩:=zae q;⟨by rw [<- r.length];exact z,?_⟩);have hf:H1 s1.heap.objs.size=none:=I1.hok.fresh (ap _);refine ⟨.ref s1.heap.objs.size,upd H1 s1.heap.objs.size (.tup xs),I1.laid (t':=s1.toks) (λ b u e=>aj _ e) (ap _) ?_,rfl,q _ hf⟩;exact ⟨z,us,r,⟨_,aJ _ rfl,rfl,_,rfl⟩⟩
def zC (h:PA X es t):PE X (.List es pos) (tLst t):=by
 intro l8 s σ H Q I hq;refine wpAny_List_spliced (we (h pos l8 s σ H _ I hq) λ us s1 xs H1 I1 r q=>let ⟨z,q⟩:=zae q;⟨by rw [<- r.length];exact z,?_⟩);have hf:H1 s1.heap.objs.size=none:=I1.hok.fresh (ap _);refine ⟨.ref s1.heap.objs.size,upd H1 s1.heap.objs.size (.lst xs),I1.laid (t':=s1.toks) (λ b u e=>aj _ e) (ap _) ?_,rfl,q _ hf⟩;exact ⟨z,us,0,r,aJ _ rfl⟩
end
abbrev Sp:=List V->Hp->VK->XK->Prop
abbrev CXT:=List Env->Hp->Shared->XK->Value->Shared->Prop
variable {CX:CXT}
structure Env0 (P:Af) (w:World) (K:A0) (mg:A4) (base:Heap) (A:An) (outer:List Env) (s:Am) (H:Hp):Prop where
 frames:A.frames=some outer
 mod:Mod K mg base
 bs:∀ b o,base.get? b=some o->s.heap.get? b=some o/\H b=none
 bsz:base.objs.size<=s.heap.objs.size
 funs:s.heap.FunFrames base outer
 frf:∀ b∈frs outer,H b=none
 hok:HOk P w H s.heap
 bare:AllBare s.gens
def CE (outer:List Env) (P:Af) (w:World) (H:Hp) (s:Am) (Q:VK) (u:Al) (s':Am):Prop :=
 ∃ v H',s'.os=s.os/\AllBare s'.gens/\Un (frs outer) [] H H' s.heap s'.heap/\HOk P w H' s'.heap/\RelV v u/\Q v H'
def CR (CX:CXT) (outer:List Env) (P:Af) (w:World) (H:Hp) (s:Am) (Q:VK) (E:XK) (r:Result) (s':Am):Prop :=
 match r with
 | .ok (.ret u)=>CE outer P w H s Q u s'
 | .ok _=>False
 | .error e=>CX outer H s E e s'
structure FnOk (P:Af) (w:World) (K:A0) (mg:A4) (base:Heap) (CX:CXT) (k:Nat) (f:Addr) (fd:FuncData) (ps:A8) (sp:Sp):Prop where
 len:∀ vs H Q E,sp vs H Q E->vs.length=ps.length
 run:∀ (A:An) (outer:List Env) (s:Am) (H:Hp) (args:Args) (us:A7) (vs:Ao) (Q:VK) (E:XK),Room k A->Env0 P w K mg base A outer s H->BindsTo s fd args (ps.zip us)->Vals vs us->sp vs H Q E ->
  codeAny (model P w) A (.call (.ref f) args) (CR CX outer P w H s Q E) s
def FnOk.mono {j k:Nat} {f:Addr} {ps:A8} {sp:Sp} (F:FnOk P w K mg base CX j f fd ps sp) (h:j<=k) :
  FnOk P w K mg base CX k f fd ps sp:=⟨F.len,λ A outer s H args us vs Q E hr=>F.run A outer s H args us vs Q E (hr.mono h)⟩
def FnOk.imp {f:Addr} {ps:A8} {sp sp':Sp} (F:FnOk P w K mg base CX k f fd ps sp)
  (h:∀ vs H Q E,sp' vs H Q E->sp vs H Q E):FnOk P w K mg base CX k f fd ps sp' :=
 ⟨λ vs H Q E q=>F.len vs H Q E (h _ _ _ _ q),λ A outer s H args us vs Q E hr he hb hv hs=>F.run A outer s H args us vs Q E hr he hb hv (h _ _ _ _ hs)⟩
def Env0.make {outer:List Env} (e:Env0 P w K mg base A outer s H) (C:Addr) (us:A7) (kw:List (Str × Value)) :
  Env0 P w K mg base (A.under (.builtin "type.__call__" ⟨.ref C :: us,kw⟩)) outer s H:=⟨by first|exact e.frames|(simpa [Around.under,Code.envs,Code.isFrame,pushEnvs] using e.frames),e.mod,e.bs,e.bsz,e.funs,e.frf,e.hok,e.bare⟩
def Env0.in1 {outer:List Env} (e:Env0 P w K mg base A outer s H) :
  Env0 P w K mg base A.in1 outer s H:=⟨e.frames,e.mod,e.bs,e.bsz,e.funs,e.frf,e.hok,e.bare⟩
section
variable {X:Cx} {l8:A2} {σ:St} {H:Hp} {s s':Am}
def Inv.env0 (I:Inv X l8 σ H s):Env0 X.prog X.w X.K X.mg X.base X.A X.stack s H :=
 ⟨I.ok.frames,I.ok.mod,I.bs,bc I.ok.bsz I.sz,I.stack,I.stkFree,I.hok,I.bare⟩
def Inv.after {Q:VK} (I:Inv X l8 σ H s) (h:CE X.stack X.prog X.w H s Q u s'):EP X l8 σ Q u s':=by
 obtain ⟨v,H',os,bare,un,hok,r,q⟩:=h;obtain ⟨hh,g,d,t,os'⟩:=s';obtain rfl:os'=s.os:=os;exact ⟨v,H',I.call (h':=hh) (g':=g) (d':=d) (t':=t) (ch:=[]) un hok bare (λ b z=>absurd z (by simp)),r,q⟩
end
def Binds (K:A0) (fd:FuncData) (ps:A8) (ds:A7):Prop :=
 ∀ (s:Am) (us:A7),K.In s.heap->(us ++ ds).length=ps.length->BindsTo s fd ⟨us,[]⟩ (ps.zip (us ++ ds))
def Binds.all {ps:A8} (h:∀ us:List Value,us.length=ps.length->bindArgs fd ⟨us,[]⟩=pure (ps.zip us)):Binds K fd ps []:=λ s us _ hl=>by
 rw [bH] at hl ⊢;exact .of_eq (h us hl)
def zbj (CX:CXT) (X:Cx) (E:XK):Prop:=∀ (l8:A2) (σ:St) (H:Hp) (s:Am) (e:Al) (s':Am),Inv X l8 σ H s->CX X.stack H s E e s'->X.xe e s'
section
variable {X:Cx} {CX:CXT} {k:Nat} {f C:Addr} {fd:FuncData} {ps:A8} {sp:Sp} {dvs:Ao} {ds:A7} {E:XK} {x m:Str} {p pos apos:Pos} {e o:Expr} {es:List Expr} {ta:TE} {t:TA}
theorem zde {Q:VK} {vs:Ao} (F:FnOk X.prog X.w X.K X.mg X.base CX k f fd ps sp) (hr:Room k X.A) (hb:Binds X.K fd ps ds) (hd:Vals dvs ds) (hx:zbj CX X E)
  (I:Inv X l8 σ H s) (r:Vals vs us) (h:sp (vs ++ dvs) H Q E):wpAny (model X.prog X.w) X.A (call (.ref f) us) (EP X l8 σ Q) X.xe s:=by
 have r2:Vals (vs ++ dvs) (us ++ ds):=r.append hd;have hl:(us ++ ds).length=ps.length:=by rw [<- r2.length];exact F.len _ _ _ _ h
 refine dE (b9 (F.run X.A X.stack s H ⟨us,[]⟩ (us ++ ds) (vs ++ dvs) Q E hr I.env0 (hb s us I.kIn hl) r2 h) λ r s' hq=>?_);cases r with
 | error e=>exact hx l8 σ H s e s' I hq
 | ok fl =>
  cases fl with
  | ret u=>exact I.after hq
  | next=>exact False.elim hq
  | brk=>exact False.elim hq
  | cont=>exact False.elim hq
structure Mk (K:A0) (C f:Addr):Prop where
 makes:makesIn K C=true
 init:findIn K (.ref C) "__init__"=some (some (.ref f))
 fn:isFn K (.ref f)=true
 kp:keepIn K (.ref C)=true
theorem zdd {Q:VK} {vs:Ao} (M:Mk X.K C f) (F:FnOk X.prog X.w X.K X.mg X.base CX k f fd ps sp) (hr:Room (k + 1) X.A) (hb:Binds X.K fd ps ds) (hd:Vals dvs ds)
  (hx:zbj CX X E) (I:Inv X l8 σ H s) (r:Vals vs us)
  (h:∀ x dx,H x=none->H dx=none->dx≠x->sp (.ref x :: (vs ++ dvs)) (upd (upd H dx (.own x)) x (.ins C dx [])) (λ v H2=>v=.non/\Q (.ref x) H2) E) :
  wpAny (model X.prog X.w) X.A (call (.ref C) us) (EP X l8 σ Q) X.xe s:=by
 have hq:=h (s.heap.objs.size + 1) s.heap.objs.size (I.hok.fresh (bZ _)) (I.hok.fresh (ap _)) (aI (db _));have I2:=Inv.made (C:=C) I;have r2:Vals (V.ref (s.heap.objs.size + 1) :: (vs ++ dvs)) (Value.ref (s.heap.objs.size + 1) :: (us ++ ds)):=.cons rfl (r.append hd);have hl:(Value.ref (s.heap.objs.size + 1) :: us ++ ds).length=ps.length:=by
  have e:=r2.length;rw [F.len _ _ _ _ hq] at e;exact e.symm
 refine dE (VI (f:=f) I.kIn M.makes M.init (bD.mp M.fn) (b9 (F.run _ X.stack _ _ ⟨Value.ref (s.heap.objs.size + 1) :: us,[]⟩ (Value.ref (s.heap.objs.size + 1) :: (us ++ ds)) _ _ E (hr.make C us [])
  (I2.env0.make C us []) (hb _ (Value.ref (s.heap.objs.size + 1) :: us) I2.kIn hl) r2 hq) λ r s' hq'=>?_))
 cases r with
 | error e=>exact hx l8 σ _ _ e s' I2 hq'
 | ok fl =>
  cases fl with
  | ret u =>
   obtain ⟨v,H',I3,rv,ev,q3⟩:=I2.after hq';subst ev;exact ⟨rv,⟨V.ref (s.heap.objs.size + 1),H',I3,rfl,q3⟩⟩
  | next=>exact False.elim hq'
  | brk=>exact False.elim hq'
  | cont=>exact False.elim hq'
end
def PK (X:Cx) (kws:List Keyword) (t:TA):Prop :=
 ∀ (pos:Pos) (l8:A2) (s:Am) (σ:St) (H:Hp) (Q:List V->Hp->Prop),Inv X l8 σ H s->t σ H Q->wpAny (model X.prog X.w) X.A (evalAll ((backToKw pos (keywordEach kws X.env)).map (·.2))) (AP X l8 σ Q) X.xe s
section
variable {X:Cx} {CX:CXT} {k:Nat} {f C:Addr} {fd:FuncData} {ps ks:A8} {sp:Sp} {E:XK} {x m:Str} {p pos apos kpos:Pos} {e o:Expr} {es:List Expr} {kws:List Keyword} {te ta:TE} {t tk:TA} {nm:Option Str}
variable {g:List Value->List Value->List Value} {gV:List V->List V->List V}
end
structure FnScope (N P:A8) (sc:Scope):Prop where
 kind:sc.kind=.function
 co:sc.isCoroutine=false
 gen:sc.isGenerator=false
 nd:N.Nodup
 pre:N.take P.length=P
 par:∀ x∈P,sc.names.lookup x=some .local\/sc.names.lookup x=some .cell
 nofree:∀ y∈sc.names,y.2≠.free
theorem XV {kindOf:Str->Option NameKind} {x:Str}:∀ {binds:List (Str × Value)} {m:A4},(∀ v,(x,v) ∉ binds)->bindL kindOf binds m x=m x
 | [],_,_=>rfl
 | (n,v) :: r,m,h=>by
  unfold bindL;rw [XV λ w hw=>h w (aB _ hw)]
  split
  ·have:x≠n:=by rintro rfl;exact h v bw
   simp [this]
  ·rfl
theorem XX {kindOf:Str->Option NameKind} {x:Str}:∀ {binds:List (Str × Value)} {m:A4},(∀ v,(x,v) ∉ binds)->bindC kindOf binds m x=m x
 | [],_,_=>rfl
 | (n,v) :: r,m,h=>by
  unfold bindC;rw [XX λ w hw=>h w (aB _ hw)]
  split
  ·rfl
  ·have:x≠n:=by rintro rfl;exact h v bw
   simp [this]
theorem XW {kindOf:Str->Option NameKind} {x:Str} {v:Al}:∀ {P:A8} {vs:A7} {i:Nat} {m:A4},P.Nodup->P[i]?=some x->vs[i]?=some v->kindOf x=some .local ->
  bindL kindOf (P.zip vs) m x=some v
 | [],_,_,_,_,h,_,_=>by simp at h
 | _ :: _,[],_,_,_,_,h,_=>by simp at h
 | p :: P,w :: vs,0,m,nd,h1,h2,hk=>by
  simp at h1 h2;subst h1;subst h2;show bindL kindOf ((p,w) :: P.zip vs) m p=_
  unfold bindL;rw [XV λ v hv=>(cw.mp nd).1 (eT hv).1,aA hk];simp
 | p :: P,w :: vs,i + 1,m,nd,h1,h2,hk=>by
  show bindL kindOf ((p,w) :: P.zip vs) m x=_
  unfold bindL;exact XW (i:=i) (cw.mp nd).2 (by simpa using h1) (by simpa using h2) hk
theorem XY {kindOf:Str->Option NameKind} {x:Str} {v:Al}:∀ {P:A8} {vs:A7} {i:Nat} {m:A4},P.Nodup->P[i]?=some x->vs[i]?=some v->kindOf x≠some .local ->
  bindC kindOf (P.zip vs) m x=some v
 | [],_,_,_,_,h,_,_=>by simp at h
 | _ :: _,[],_,_,_,_,h,_=>by simp at h
 | p :: P,w :: vs,0,m,nd,h1,h2,hk=>by
  simp at h1 h2;subst h1;subst h2;show bindC kindOf ((p,w) :: P.zip vs) m p=_
  unfold bindC;rw [XX λ v hv=>(cw.mp nd).1 (eT hv).1,aq hk];simp
 | p :: P,w :: vs,i + 1,m,nd,h1,h2,hk=>by
  show bindC kindOf ((p,w) :: P.zip vs) m x=_
  unfold bindC;exact XY (i:=i) (cw.mp nd).2 (by simpa using h1) (by simpa using h2) hk
noncomputable def start (N:A8) (vs:Ao):St:=vs.map some ++ List.replicate (N.length - vs.length) none
noncomputable def Zq (CX:CXT) (P:Af) (w:World) (K:A0) (mg:A4) (base:Heap) (N:A8) (qual:Str) (scope:Scope) (f:Addr) (cd:Al) (A:An) (outer:List Env) (s:Am) (H:Hp) (E:XK):Cx where
 prog:=P
 w:=w
 K:=K
 mg:=mg
 base:=base
 A:=A.deeper (envOfC qual scope s.heap.objs.size f cd)
 N:=N
 s₀:=s
 H₀:=H
 env:=envOfC qual scope s.heap.objs.size f cd
 outer:=outer
 stack:=envOfC qual scope s.heap.objs.size f cd :: outer
 ex:=[]
 calm:=true
 fn:=λ _=>true
 pn:=[]
 xe:=λ e s'=>wpAny (model P w) (A.deeper (envOfC qual scope s.heap.objs.size f cd)) (leaving (envOfC qual scope s.heap.objs.size f cd) e) (λ _ s''=>CX outer H s E e s'') (λ e' s''=>CX outer H s E e' s'') s'
def VZ {sc:Scope} {n:Nat} (h:sc.names.lookup x=some .cell):∃ c,(cellsFrom n sc.names []).lookup x=some c:=by
 have q:=fA sc.names n [] (.inl h);exact Option.isSome_iff_exists.mp q
theorem XF {N ps:A8} {qual:Str} {scope:Scope} {f:Addr} {cd:Al} {outer:List Env} {s s1:Am} {E:XK} {vs:Ao}
  (S:FnScope N ps scope) (hd:A.handled=none) (e0:Env0 P w K mg base A outer s H) (hl:vs.length=ps.length) (r:Vals vs us)
  (x:InCallC s s.heap.objs.size (bindL (envOfC qual scope s.heap.objs.size f cd).kindOf (ps.zip us) λ _=>none) (cellsFrom (s.heap.objs.size + 1) scope.names []) (bindC (envOfC qual scope s.heap.objs.size f cd).kindOf (ps.zip us) λ _=>none) s1) :
  Inv (Zq CX P w K mg base N qual scope f cd A outer s H E) [] (start N vs) H s1:=by
 have hpl:ps.length<=N.length:=by have:=ce List.length S.pre;rw [aW] at this;lia
 obtain ⟨h1,tk,rfl,hk⟩:=x.done;have noA:∀ b:Addr,b ∉ (Zq CX P w K mg base N qual scope f cd A outer s H E).ex:=λ b z=>absurd (show b∈([]:Ab) from z) (by simp);refine ⟨⟨e0.mod,S.kind,rfl,rfl,ap _,λ y z c h1 h2=>?_,λ y hy=>?_,λ y c _ h=>?_,λ _=>hd,Around.frames_deeper e0.frames,.inr ⟨rfl,rfl⟩,λ b z=>absurd z (noA b),e0.bs,e0.bsz,λ b _ _=>noA b,λ b z=>absurd z (noA b),e0.funs,e0.frf⟩,
  rfl,e0.bare,Un.kept hk,⟨_,x.toInCall.ns,λ i y v h1 h2 h3=>?_⟩,λ y c h=>⟨_,x.cell y c h⟩,e0.hok.fresh (ap _),λ y c h=>?_,λ p hp=>absurd (show p∈([]:A2) from hp) (by simp),e0.hok.kept hk,?_⟩
 ·exact name_of_addr x.apart (bL h1) (bL h2)
 ·have hy:scope.names.lookup y=some .cell\/scope.names.lookup y=some .free:=hy;rcases hy with hy|hy
  ·exact VZ hy
  ·exact absurd rfl (S.nofree _ (bL hy))
 ·exact bV (x.above y c (bL h))
 ·have hi:i < vs.length:=by
   unfold start at h2;by_cases hi:i < vs.length
   ·exact hi
   ·rw [aS (by simpa using hi)] at h2;rw [eO] at h2
    split at h2 <;> cases h2
  have ha:vs[i]?=some v:=by
   unfold start at h2;rw [aY (by simpa using hi),au] at h2;cases e:vs[i]? with
   | none=>rw [e] at h2;cases h2
   | some a=>rw [e] at h2;cases h2;rfl
  obtain ⟨u,hu,rv⟩:=r.get ha;have hp:ps[i]?=some y:=by
   rw [<- S.pre,List.getElem?_take_of_lt (by lia)];exact h1
  have ndP:ps.Nodup:=by rw [<- S.pre];exact S.nd.sublist (List.take_sublist _ _)
  refine ⟨u,rv,?_⟩;rcases S.par y (ai hp) with k|k
  ·exact .inl ⟨k,XW ndP hp hu k⟩
  ·obtain ⟨c,e⟩:=VZ (n:=s.heap.objs.size + 1) k;refine .inr ⟨.inl k,c,e,?_⟩;have q:=x.cell y c e;rw [XY ndP hp hu (by show scope.names.lookup y≠_;rw [k];decide)] at q;exact q
 ·exact e0.hok.fresh (bV (x.above y c (bL h)))
 ·unfold start;show _=N.length
  rw [aM,ah,bR]
  lia
theorem zdX {f:Addr} {name qual:Str} {params:Arguments} {body:List Stmt} {scope:Scope} {dV kV doc pm cdv ct oc:Al} {an od:Aa}
  {osl:Ae} {N ps:A8} {sp:Sp} (lk:K.lookup f=some ⟨oc,od,.func (fnOf name qual params body scope dV kV doc pm an cdv ct),osl⟩) (hcd:codeIn K cdv qual=true) (S:FnScope N ps scope)
  (len:∀ vs H Q E,sp vs H Q E->vs.length=ps.length)
  (hbody:∀ (A:An) (outer:List Env) (s:Am) (H:Hp) (vs:Ao) (Q:VK) (E:XK),Room k (A.deeper (envOfC qual scope s.heap.objs.size f cdv))->sp vs H Q E ->
   ∃ t,PSs (Zq CX P w K mg base N qual scope f cdv A outer s H E) body t/\t { nx:=λ _ H'=>Q .non H',rt:=Q } (start N vs) H) :
  FnOk P w K mg base CX (k + 1) f (fnOf name qual params body scope dV kV doc pm an cdv ct) ps sp:=by
 refine ⟨len,λ A outer s H args us vs Q E hr e0 hb r hsp=>?_⟩;have hl:=len _ _ _ _ hsp;have KX:K.In s.heap:=e0.mod.kin.keeps λ b o e=>(e0.bs b o e).1;have lim:s.heap.NoLimit:=e0.mod.nolimit.keeps λ b o e=>(e0.bs b o e).1;have hkind:∀ y∈ps.zip us,scope.names.lookup y.1=some .local\/(scope.names.lookup y.1=some .cell/\((cellsFrom (s.heap.objs.size + 1) scope.names []).lookup y.1).isSome=true):=λ ⟨n,v⟩ hy=>by
  rcases S.par n (eT hy).1 with q|q
  ·exact .inl q
  ·exact .inr ⟨q,fA _ _ _ (.inl q)⟩
 refine codeAny_call_function hr.depth (KX _ _ lk) rfl S.co S.gen rfl (fC KX hcd) (hb _ _ _ _ ?_);refine eY S.kind hkind λ env he s1 x=>?_;subst he;refine ⟨lim.keeps x.toInCall.keep,codeAny_func ?_⟩;obtain ⟨t,ht,hq⟩:=hbody A outer s H vs Q E (hr.deeper _) hsp;have I:Inv (Zq CX P w K mg base N qual scope f cdv A outer s H E) [] (start N vs) H s1:=XF S hr.hd e0 hl r x;refine aQ (ht [] s1 (start N vs) H _ I hq) (λ fl s' hs=>?_) λ e s' hs=>hs;have fin:∀ {σ':St} {H':Hp} {v:V} {u:Al},Inv (Zq CX P w K mg base N qual scope f cdv A outer s H E) [] σ' H' s'->RelV v u->Q v H'->CE outer P w H s Q u s' :=
  λ {σ' H' v u} J rv q=>⟨v,H',J.os,J.bare,J.base,J.hok,rv,q⟩
 cases fl with
 | ret u =>
  obtain ⟨v,σ',H',J,rv,q⟩:=hs;exact fin J rv q
 | next =>
  obtain ⟨σ',H',J,q⟩:=hs;exact fin (v:=V.non) (u:=Value.none) J rfl q
 | brk =>
  obtain ⟨_,_,_,q⟩:=hs;exact False.elim q
 | cont =>
  obtain ⟨_,_,_,q⟩:=hs;exact False.elim q
section
variable {X:Cx} {x:Str} {p pos:Pos} {e:Expr} {es:List Expr} {t:TA} {id T:String} {r:List V->Hp->VK->Prop}
def tCB (r:List V->Hp->VK->Prop) (t:TA):TE:=λ σ H Q=>t σ H λ vs H1=>r vs H1 Q
def zdn (hc:CallR X (.builtin id) r) (hg:Gl X x) (hm:X.mg x=none) (hv:bootBuiltins x=some (.builtin id)) (ha:PA X (e :: es) t) (hn:x≠"__name__":=by decide) (hdb:(x == ("__debug__":Str))=false:=by decide)
  (he:starEach (e :: es) X.env=(false,eval e X.env) :: starEach es X.env:=by rfl) (hpl:(backTo pos (starEach es X.env)).any (·.1)=false:=by rfl):PE X (.Call (.Name x p) (e :: es) [] pos) (tCB r t):=by
 intro l8 s σ H Q I h;refine bI (xW I hg hm hv ?_ hn hdb);exact PyProof.Rows.callWith_builtin1 (we (ha pos l8 s σ H _ I h) λ us s1 vs H1 I1 r1 q1=>hc l8 s1 σ H1 vs us Q I1 r1 q1) he hpl
def zcn (hc:CallR X (.type T) r) (hg:Gl X x) (hm:X.mg x=none) (hv:bootBuiltins x=some (.type T)) (ha:PA X (e :: es) t) (hn:x≠"__name__":=by decide) (hdb:(x == ("__debug__":Str))=false:=by decide)
  (he:starEach (e :: es) X.env=(false,eval e X.env) :: starEach es X.env:=by rfl) (hpl:(backTo pos (starEach es X.env)).any (·.1)=false:=by rfl):PE X (.Call (.Name x p) (e :: es) [] pos) (tCB r t):=by
 intro l8 s σ H Q I h;refine bI (xW I hg hm hv ?_ hn hdb);exact ba (we (ha pos l8 s σ H _ I h) λ us s1 vs H1 I1 r1 q1=>hc l8 s1 σ H1 vs us Q I1 r1 q1) he hpl
end
end L2
namespace HT
open PySem PyProof.Rows
section
open PySem.SeqAt
open PySem.AutoSeq1 (wpAny_loadPart')
open PySem.MeetsSeq PySem.MeetsSeq2 PySem.MeetsSeq3
end
section
variable {prog:Af} {w:World} {A:An} {E:A3} {s:Am}
noncomputable def sIx (n d:Nat):Option Int->Nat
 | none=>d
 | some v=>if v < 0 then (v + (n:Int)).toNat else min v.toNat n
theorem sIx_none (n d:Nat):sIx n d none=d:=rfl
def sIx_nat (n d k:Nat):sIx n d (some (k:Int))=min k n:=by
 show (if (k:Int) < 0 then ((k:Int) + (n:Int)).toNat else min (k:Int).toNat n)=min k n
 rw [aq (by lia),aX]
end
end HT
namespace L2
open PySem PySem.Spec PyProof.Rows
abbrev TO:=St->Hp->(Option Int->Hp->Prop)->Prop
def PO (X:Cx) (e:Option Expr) (t:TO):Prop :=
 ∀ (l8:A2) (s:Am) (σ:St) (H:Hp) (Q:Option Int->Hp->Prop),Inv X l8 σ H s->t σ H Q ->
  wpAny (model X.prog X.w) X.A (evalPart e X.env) (λ u s'=>∃ o H',Inv X l8 σ H' s'/\IsPart u o/\Q o H') X.xe s
def tNoPart:TO:=λ _ H Q=>Q none H
def tPart (t:TE):TO:=λ σ H Q=>t σ H λ x H1=>iq x λ i=>Q (some i) H1
def za2 {ns:A6}:∀ {us:A7},Vals (ns.map V.int) us->IntsAre us ns:=by
 induction ns with
 | nil=>intro us r;rw [map_nil] at r;cases r;exact .nil
 | cons n ns ih =>
  intro us r;rw [b5] at r;cases r with
  | cons r1 r2 =>
   obtain ⟨t,e⟩:=r1;subst e;exact .cons n t (ih r2)
section
variable {X:Cx} {e:Expr} {te:TE} {lo hi:Option Expr} {tl th:TO} {pos p2:Pos}
def wO:PO X none tNoPart:=by
 intro l8 s σ H Q I h;rw [evalPart_none];exact ao ⟨none,H,I,.none,h⟩
def xm (h:PE X e te):PO X (some e) (tPart te):=by
 intro l8 s σ H Q I hw;rw [evalPart_some];refine qp (h l8 s σ H _ I hw) λ u s1 x H1 I1 r1 q1=>?_;obtain ⟨i,rfl,q⟩:=Zo q1;obtain ⟨t,rfl⟩:=r1;exact ⟨some i,H1,I1,.int i t,q⟩
def SlR (X:Cx) (r:V->Option Int->Option Int->Hp->VK->Prop):Prop :=
 ∀ (l8:A2) (s:Am) (σ:St) (H:Hp) (x:V) (v vl vu:Al) (lo hi:A9) (sl:Addr) (Q:VK),Inv X l8 σ H s->RelV x v->s.heap.IsSliceOf sl vl vu .none->IsPart vl lo->IsPart vu hi->r x lo hi H Q ->
  ∃ T id,typeLookup (.type T) "__getitem__"=pure (some (.builtin id))/\s.TypeIs v T/\wpAny (model X.prog X.w) X.A (getItem v (.ref sl)) (EP X l8 σ Q) X.xe s
def SlR.or {r r':V->Option Int->Option Int->Hp->VK->Prop} (h:SlR X r) (h':SlR X r'):SlR X (λ x lo hi H Q=>r x lo hi H Q\/r' x lo hi H Q):=by
 intro l8 s σ H x v vl vu lo hi sl Q I rx hs pl pu q;rcases q with q|q
 ·exact h l8 s σ H x v vl vu lo hi sl Q I rx hs pl pu q
 ·exact h' l8 s σ H x v vl vu lo hi sl Q I rx hs pl pu q
def tSl (r:V->Option Int->Option Int->Hp->VK->Prop) (te:TE) (tl th:TO):TE:=λ σ H Q=>te σ H λ x H1=>tl σ H1 λ l H2=>th σ H2 λ u H3=>r x l u H3 Q
def xa {r:V->Option Int->Option Int->Hp->VK->Prop} (hr:SlR X r) (he:PE X e te) (hl:PO X lo tl) (hu:PO X hi th):PE X (.Subscript e (.Slice lo hi none p2) pos) (tSl r te tl th):=by
 intro l8 s σ H Q I h;refine Subscript_ (qp (he l8 s σ H _ I h) λ v s1 x H1 I1 r1 q1=>?_);refine wpAny_Slice (thn (hl l8 s1 σ H1 _ I1 q1) λ vl s2 ⟨l,H2,I2,pl,q2⟩=>thn (hu l8 s2 σ H2 _ I2 q2) λ vu s3 ⟨u,H3,I3,pu,q3⟩=>?_);rw [evalPart_none];refine ao ?_;have I4:Inv X l8 σ H3 { s3 with heap:=s3.heap.push { cls:=.type "slice",data:=.fields #[vl,vu,.none] } }:=I3.kept (t':=s3.toks) λ b ob q=>aj _ q;obtain ⟨T,id,hT,ht,hg⟩:=hr l8 { s3 with heap:=s3.heap.push { cls:=.type "slice",data:=.fields #[vl,vu,.none] } } σ H3 x v vl vu l u s3.heap.objs.size Q I4 r1 (Heap.IsSliceOf.new ..) pl pu q3;show wpAny (model X.prog X.w) X.A (subscriptTail e (.Slice lo hi none p2) v (.ref s3.heap.objs.size)) (EP X l8 σ Q) X.xe { s3 with heap:=s3.heap.push { cls:=.type "slice",data:=.fields #[vl,vu,.none] } }
 exact tail_any (ops:=[.ref s3.heap.objs.size,v]) ht hT hg (by with_unfolding_all rfl)
noncomputable def Zs (xs:Ao) (lo hi:A9):List V:=(xs.drop (HT.sIx xs.length 0 lo)).take (HT.sIx xs.length xs.length hi - HT.sIx xs.length 0 lo)
def VV (xs:Ao) (lo hi:A9):(Zs xs lo hi).length<=xs.length:=by
 unfold Zs;rw [aW,dg]
 lia
end
noncomputable def ixN (n:Nat) (i:Int):Option Nat:=if 0<=i then (if i < n then some i.toNat else none) else if -(n:Int)<=i then some (i + n).toNat else none
noncomputable def atI {α:Type} (xs:List α) (i:Int):Option α:=(ixN xs.length i).bind λ j=>xs[j]?
def zbA {n:Nat} {i:Int} {j:Nat} (h:ixN n i=some j):seqIndex? i n=some j/\j < n/\-(n:Int)<=i/\i < n:=by
 unfold ixN at h;by_cases h0:0<=i
 ·rw [aA h0] at h;by_cases h1:i < n
  ·rw [aA h1] at h;have e:i.toNat=j:=aU h;exact ⟨by rw [eK h0 h1,e],by lia,by lia,h1⟩
  ·rw [aq h1] at h;cases h
 ·rw [aq h0] at h;by_cases h1:-(n:Int)<=i
  ·rw [aA h1] at h;have e:(i + n).toNat=j:=aU h;exact ⟨by rw [seqIndex_neg (by lia) h1,e],by lia,h1,by lia⟩
  ·rw [aq h1] at h;cases h
def QG {α:Type} {xs:List α} {i:Int} {v:α} (h:atI xs i=some v):∃ j,seqIndex? i xs.length=some j/\xs[j]?=some v/\j < xs.length/\-(xs.length:Int)<=i/\i < xs.length:=by
 unfold atI at h;cases e:ixN xs.length i with
 | none=>rw [e] at h;cases h
 | some j =>
  rw [e] at h;obtain ⟨h1,h2,h3,h4⟩:=zbA e;exact ⟨j,h1,h,h2,h3,h4⟩
def zL {α:Type} {xs:List α} {j:Nat} {v:α} (h:xs[j]?=some v):atI xs (j:Int)=some v:=by
 have hj:j < xs.length:=(aa.mp h).1;have e:ixN xs.length (j:Int)=some j:=by
  unfold ixN;rw [aA (by lia),aA (by lia)];simp
 unfold atI;rw [e];exact h
def zbY (b:Expr):Prop:=∀ o i,subscripted b false o i=operate [o,i] (getItem o i)
def IxR (X:Cx) (r:R2):Prop :=
 ∀ (value slice:Expr) (l8:A2) (s:Am) (σ:St) (H:Hp) (x y:V) (v u:Al) (Q:VK),Inv X l8 σ H s->RelV x v->RelV y u->r x y H Q ->
  subscripted slice false v u=operate [v,u] (getItem v u)->wpAny (model X.prog X.w) X.A (subscriptTail value slice v u) (EP X l8 σ Q) X.xe s
def MtR (X:Cx) (id:String) (r:V->List V->Hp->VK->Prop):Prop :=
 ∀ (l8:A2) (s:Am) (σ:St) (H:Hp) (x:V) (xs:Ao) (v:Al) (us:A7) (Q:VK),Inv X l8 σ H s->RelV x v->Vals xs us->r x xs H Q ->
  wpAny (model X.prog X.w) X.A (call (.builtin id) (v :: us)) (EP X l8 σ Q) X.xe s
section
variable {X:Cx} {a b:Expr} {ta tb:TE} {pos:Pos}
def IxR.or {r r':R2} (h:IxR X r) (h':IxR X r'):IxR X (λ x y H Q=>r x y H Q\/r' x y H Q):=by
 intro value slice l8 s σ H x y v u Q I rx ry q hs;rcases q with q|q
 ·exact h value slice l8 s σ H x y v u Q I rx ry q hs
 ·exact h' value slice l8 s σ H x y v u Q I rx ry q hs
def MtR.or {id:String} {r r':V->List V->Hp->VK->Prop} (h:MtR X id r) (h':MtR X id r'):MtR X id (λ x xs H Q=>r x xs H Q\/r' x xs H Q):=by
 intro l8 s σ H x xs v us Q I rx rs q;rcases q with q|q
 ·exact h l8 s σ H x xs v us Q I rx rs q
 ·exact h' l8 s σ H x xs v us Q I rx rs q
def zgN {r:R2} (hr:IxR X r) (ha:PE X a ta) (hb:PE X b tb) (hs:zbY b):PE X (.Subscript a b pos) (tOp r ta tb):=by
 intro l8 s σ H Q I h;exact Subscript_ (zgs ha hb I h λ v u s2 x y H2 I2 rx ry q=>hr a b l8 s2 σ H2 x y v u Q I2 rx ry q (hs _ _))
def zgK (K:A0):R2:=λ x y H Q=>∃ p xs i v,x=.ref p/\y=.int i/\SqL K H p xs/\atI xs i=some v/\Q v H
def zgI (K:A0):R2:=λ x y H Q=>∃ p xs i v,x=.ref p/\y=.int i/\SqT K H p xs/\atI xs i=some v/\Q v H
def zgJ:R2:=λ x y H Q=>∃ z i c,x=.str z/\y=.int i/\z.length<=sizeLine/\atI z.cps.toList i=some c/\Q (.str ⟨#[c]⟩) H
def ix_list:IxR X (zgK X.K):=by
 intro value slice l8 s σ H x y v u Q I rx ry h hs;obtain ⟨p,xs,i,z,rfl,rfl,hq,he,q⟩:=h;cases rx;obtain ⟨t,rfl⟩:=ry;obtain ⟨ma,r,pl,hz⟩:=I.list hq;obtain ⟨j,h1,h2,h3,h4,h5⟩:=QG he;obtain ⟨w,ew,rw'⟩:=r.get h2;have hl:=r.length;have hn:=vL;have fin:EP X l8 σ Q w s:=⟨z,H,I,rw',q⟩;by_cases h0:0<=i
 ·have hj:i.toNat=j:=by
   rw [eK h0 h5] at h1;exact aU h1
  exact item_listR pl.isList h0 (by lia) (by rw [hj];simpa using ew) fin hs
 ·have hj:(i + (ma.toArray.size:Int)).toNat=j:=by
   rw [seqIndex_neg (by lia) h4] at h1;rw [ar,<- hl];exact aU h1
  exact subscriptTail_builtinR (x:=w) pl.isList.typeIs slot_list_getitem.lookup
   (wpAny_getItem_list_neg (Q:=λ r s'=>r=w/\EP X l8 σ Q r s') pl.isList (by lia) (by rw [ar] <;> lia) (by lia) (by rw [hj];simpa using ew) ⟨rfl,fin⟩) hs
def ix_tup:IxR X (zgI X.K):=by
 intro value slice l8 s σ H x y v u Q I rx ry h hs;obtain ⟨p,xs,i,z,rfl,rfl,hq,he,q⟩:=h;cases rx;obtain ⟨t,rfl⟩:=ry;obtain ⟨ma,r,pl,hz⟩:=I.tuple hq;obtain ⟨j,h1,h2,h3,h4,h5⟩:=QG he;obtain ⟨w,ew,rw'⟩:=r.get h2;have hl:=r.length;have hn:=vL;have fin:EP X l8 σ Q w s:=⟨z,H,I,rw',q⟩;exact subscriptTail_builtinR (x:=w) pl.typeIs slot_tuple_getitem.lookup
  (getItem_tuple (j:=j) (Q:=λ r s'=>r=w/\EP X l8 σ Q r s') pl (by lia) (by lia) (by rw [ar,<- hl];exact h1) (by simpa using ew) ⟨rfl,fin⟩) hs
def zge:IxR X zgJ:=by
 intro value slice l8 s σ H x y v u Q I rx ry h hs;obtain ⟨z,i,c,rfl,rfl,hz,he,q⟩:=h;obtain ⟨t,rfl⟩:=rx;obtain ⟨t',rfl⟩:=ry;obtain ⟨j,h1,h2,h3,h4,h5⟩:=QG he;have hl:z.cps.toList.length=z.length:=by simp [Str.length]
 rw [hl] at h1 h4 h5;have hn:=vL;exact tail_any (typeIs_str s z t) slot_str_getitem.lookup (getItem_str (c:=c) (by
  have e1:decide (i < -(2 ^ 63:Int))=false:=a4 (by lia);have e2:decide (i ≥ 2 ^ 63)=false:=a4 (by lia);rw [e1,e2,Bool.or_false]) (by rw [h1];simpa using h2) ⟨.str ⟨#[c]⟩,H,I.tok _,⟨_,rfl⟩,q⟩) hs
def rIx (K:A0):R2:=λ x y H Q=>zgK K x y H Q\/zgI K x y H Q\/zgJ x y H Q
def zgf:IxR X (rIx X.K):=ix_list.or (ix_tup.or zge)
def zaS (ma:A7) (n j:Nat) (u:Al):Obj.mapSeq (·.setIfInBounds j u) { cls:=.type "list",data:=.seq ma.toArray n }={ cls:=.type "list",data:=.seq (ma.set j u).toArray n }:=by
 simp [Obj.mapSeq]
def Inv.lst {l8:A2} {σ:St} {H:Hp} {s:Am} {p:Addr} {xs:Ao} (I:Inv X l8 σ H s) (h:H p=some (.lst xs)) :
  ∃ (ma:A7) (n:Nat),Vals xs ma/\s.heap.get? p=some { cls:=.type "list",data:=.seq ma.toArray n }/\xs.length<=sizeLine:=by
 obtain ⟨z,ma,n,r,e⟩:=I.hok p _ h;exact ⟨ma,n,r,e,z⟩
def Inv.lstUpd {l8:A2} {σ:St} {H:Hp} {s:Am} {p:Addr} {xs ys:Ao} {ma its':A7} {n n':Nat} {f:Obj->Obj} (I:Inv X l8 σ H s) (h:H p=some (.lst xs))
  (ho:s.heap.get? p=some { cls:=.type "list",data:=.seq ma.toArray n }) (hf:f { cls:=.type "list",data:=.seq ma.toArray n }={ cls:=.type "list",data:=.seq its'.toArray n' }) (r:Vals ys its') (hz:ys.length<=sizeLine) (t:Nat) :
  Inv X l8 σ (upd H p (.lst ys)) { s with heap:=s.heap.update p f,toks:=t }:=by
 have e:(s.heap.update p f).get? p=some { cls:=.type "list",data:=.seq its'.toArray n' }:=by
  rw [bh f ho (by rw [hf] <;> rfl),hf]
 refine I.write (x:=p) (e:=p) (by rw [h];trivial) (.inl rfl) (λ b u hb q=>(a9 _ _ (aZ hb)).trans q) ⟨_,e⟩ ?_;exact ⟨hz,its',n',r,e⟩
def zfl:V->V->V->Hp->(Hp->Prop)->Prop:=λ o i v H Q=>∃ p xs k j,o=.ref p/\i=.int k/\H p=some (.lst xs)/\ixN xs.length k=some j/\Q (upd H p (.lst (xs.set j v)))
def xy:zgv X zfl:=by
 intro l8 s σ H o i v ov iv u Q I ro ri rv h;obtain ⟨p,xs,k,j,rfl,rfl,hp,hj,q⟩:=h;cases ro;obtain ⟨t,rfl⟩:=ri;obtain ⟨ma,n,r,ho,hz⟩:=I.lst hp;obtain ⟨h1,h2,h3,h4⟩:=zbA hj;have hl:=r.length;have hn:=vL;have I':Inv X l8 σ (upd H p (.lst (xs.set j v))) { s with heap:=s.heap.update p (Obj.mapSeq (·.setIfInBounds j u)) } :=
  I.lstUpd hp ho (zaS ma n j u) (r.set rv j) (by rw [cQ];exact hz) s.toks
 by_cases h0:0<=k
 ·have hk:k.toNat=j:=by
   rw [eK h0 h4] at h1;exact aU h1
  exact PySem.W.ki_setAt ho h0 (by lia) (by rw [ar,<- hl];exact h4) (by rw [hk];exact ⟨_,I',q⟩)
 ·have hk:(k + (ma.toArray.size:Int)).toNat=j:=by
   rw [seqIndex_neg (by lia) h3] at h1;rw [ar,<- hl];exact aU h1
  exact PySem.W.ki_setBack ho (by lia) (by rw [ar,<- hl];exact h3) (by lia) (by rw [hk];exact ⟨_,I',q⟩)
def X6 (lo hi:A9) (n:Nat):(sliceBounds lo hi none n).1=((HT.sIx n 0 lo:Nat):Int)/\(sliceBounds lo hi none n).2.1=((HT.sIx n n hi:Nat):Int)/\(sliceBounds lo hi none n).2.2=1:=by
 refine ⟨?_,?_,rfl⟩
 ·cases lo with
  | none=>simp [sliceBounds,HT.sIx]
  | some i =>
   simp only [sliceBounds,HT.sIx,d5,show (1:Int) > 0 by decide,dU];by_cases h:i < 0
   ·simp only [h,dU] <;> lia
   ·simp only [h,bE] <;> lia
 ·cases hi with
  | none=>simp [sliceBounds,HT.sIx]
  | some i =>
   simp only [sliceBounds,HT.sIx,d5,show (1:Int) > 0 by decide,dU];by_cases h:i < 0
   ·simp only [h,dU] <;> lia
   ·simp only [h,bE] <;> lia
def JP (ma:A7) (lo hi:A9):slicePick ma.toArray lo hi none=((ma.drop (HT.sIx ma.length 0 lo)).take (HT.sIx ma.length ma.length hi - HT.sIx ma.length 0 lo)).toArray:=by
 obtain ⟨h1,h2,h3⟩:=X6 lo hi ma.toArray.size;unfold slicePick;rw [h1,h2,h3];simp only [sliceRange_one,pick_run,ar] <;> rfl
def zfM (K:A0):V->Option Int->Option Int->Hp->VK->Prop:=λ x lo hi H Q=>∃ a xs,x=.ref a/\SqL K H a xs/\∀ p,H p=none->Q (.ref p) (upd H p (.lst (Zs xs lo hi)))
def zer:SlR X (zfM X.K):=by
 intro l8 s σ H x v vl vu lo hi sl Q I rx hs pl pu h;obtain ⟨a,xs,rfl,hx,q⟩:=h;cases rx;obtain ⟨ma,r,ht,hz⟩:=I.list hx;have hlen:=r.length;refine ⟨"list",_,slot_list_getitem.lookup,ht.isList.typeIs,?_⟩;refine wpAny_getItem_list_slice ht.isList hs pl pu .none (by simp) ?_ (by rw [ar] <;> lia);rw [JP,<- hlen];refine ⟨.ref s.heap.objs.size,_,I.laid (t':=s.toks) (o:=.lst (Zs xs lo hi)) (λ b ob q=>aj _ q) (ap _) ?_,rfl,q _ (I.hok.fresh (ap _))⟩;exact ⟨bc (VV xs lo hi) hz,_,0,(r.drop (HT.sIx xs.length 0 lo)).take (HT.sIx xs.length xs.length hi - HT.sIx xs.length 0 lo),aJ _ rfl⟩
noncomputable def xE:V->Bool
 | .non=>true
 | .bl _=>true
 | .int _=>true
 | .str _=>true
 | _=>false
noncomputable def eqV:V->V->Bool
 | .non,.non=>true
 | .bl a,.bl b=>a == b
 | .bl a,.int b=>(if a then 1 else 0) == b
 | .int a,.bl b=>a == (if b then 1 else 0)
 | .int a,.int b=>a == b
 | .str a,.str b=>a == b
 | _,_=>false
def ZZ {A:An} {s:Am} {y x:V} {u v:Al} (ry:RelV y u) (rx:RelV x v) (fy:xE y=true) (fx:xE x=true):SeqAt.EqAt A s u v (eqV y x):=by
 cases y with
 | non =>
  cases ry;cases x with
  | non=>cases rx;exact dI _
  | bl b=>cases rx;exact SeqAt.EqAt.none_bool b
  | int b=>obtain ⟨t,rfl⟩:=rx;exact SeqAt.EqAt.none_int b t
  | str b=>obtain ⟨t,rfl⟩:=rx;exact SeqAt.EqAt.none_str b t
  | _=>exact absurd (show false=true from fx) aE
 | bl a =>
  cases ry;cases x with
  | non=>cases rx;exact SeqAt.EqAt.bool_none a
  | bl b=>cases rx;exact SeqAt.EqAt.bool_bool a b
  | int b=>obtain ⟨t,rfl⟩:=rx;exact SeqAt.EqAt.bool_int a b t
  | str b=>obtain ⟨t,rfl⟩:=rx;exact SeqAt.EqAt.bool_str a b t
  | _=>exact absurd (show false=true from fx) aE
 | int a =>
  obtain ⟨t',rfl⟩:=ry;cases x with
  | non=>cases rx;exact SeqAt.EqAt.int_none a t'
  | bl b=>cases rx;exact SeqAt.EqAt.int_bool a t' b
  | int b=>obtain ⟨t,rfl⟩:=rx;exact SeqAt.EqAt.int_int a t' b t
  | str b=>obtain ⟨t,rfl⟩:=rx;exact SeqAt.EqAt.int_str a t' b t
  | _=>exact absurd (show false=true from fx) aE
 | str a =>
  obtain ⟨t',rfl⟩:=ry;cases x with
  | non=>cases rx;exact SeqAt.EqAt.str_none a t'
  | bl b=>cases rx;exact SeqAt.EqAt.str_bool a t' b
  | int b=>obtain ⟨t,rfl⟩:=rx;exact SeqAt.EqAt.str_int a t' b t
  | str b=>obtain ⟨t,rfl⟩:=rx;exact SeqAt.EqAt.str_str a t' b t
  | _=>exact absurd (show false=true from fx) aE
 | _=>exact absurd (show false=true from fy) aE
def CallR.or {f:Al} {r r':List V->Hp->VK->Prop} (h:CallR X f r) (h':CallR X f r'):CallR X f (λ xs H Q=>r xs H Q\/r' xs H Q):=by
 intro l8 s σ H xs us Q I rs q;rcases q with q|q
 ·exact h l8 s σ H xs us Q I rs q
 ·exact h' l8 s σ H xs us Q I rs q
def WA:CallR X (.type "list") (λ xs H Q=>∃ p ys,xs=[.ref p]/\(SqL X.K H p ys\/SqT X.K H p ys)/\∀ l,H l=none->Q (.ref l) (upd H l (.lst ys))):=by
 intro l8 s σ H xs us Q I r h;obtain ⟨p,ys,rfl,hq,q⟩:=h;obtain ⟨u,rfl,rx⟩:=vb r;cases rx;have fin:∀ (ma:A7),Vals ys ma->ys.length<=sizeLine->∀ (h':Heap) (c':Nat),(∀ b o',s.heap.get? b=some o'->h'.get? b=some o') ->
   h'.get? s.heap.objs.size=some { cls:=.type "list",dict:=none,data:=.seq ma.toArray c',slots:=#[] }->EP X l8 σ Q (.ref s.heap.objs.size) { s with heap:=h' }:=λ ma r' hz h' c' kp e =>
  ⟨.ref s.heap.objs.size,_,I.laid (t':=s.toks) kp (ap _) (show ObjOk X.prog X.w _ h' _ (.lst ys) from ⟨hz,ma,c',r',e⟩),rfl,q _ (I.hok.fresh (ap _))⟩
 rcases hq with hq|hq
 ·obtain ⟨ma,r',pl,hz⟩:=I.list hq;have hlen:=r'.length;obtain ⟨o,ho,hc,n,hd⟩:=pl.isList;exact call_list_seq p (.inl rfl) ho hc hd (λ h' c' kp e=>fin ma r' hz h' c' kp e) (by simp only [ar] <;> lia)
 ·obtain ⟨ma,r',pl,hz⟩:=I.tuple hq;have hlen:=r'.length;obtain ⟨o,ho,hc,n,hd⟩:=pl;exact call_list_seq p (.inr rfl) ho hc hd (λ h' c' kp e=>fin ma r' hz h' c' kp e) (by simp only [ar] <;> lia)
def Xg:CallR X (.type "tuple") (λ xs H Q=>∃ p ys,xs=[.ref p]/\((SqL X.K H p ys/\∀ l,H l=none->Q (.ref l) (upd H l (.tup ys)))\/(SqT X.K H p ys/\Q (.ref p) H))):=by
 intro l8 s σ H xs us Q I r h;obtain ⟨p,ys,rfl,h⟩:=h;obtain ⟨u,rfl,rx⟩:=vb r;cases rx;rcases h with ⟨hq,q⟩|⟨hq,q⟩
 ·obtain ⟨ma,r',pl,hz⟩:=I.list hq;have hlen:=r'.length;refine call_tuple_list pl.isList (λ h' kp=>?_) (by simp only [ar] <;> lia);have I1:Inv X l8 σ H { s with heap:=h' }:=I.kept (t':=s.toks) kp;have I2:Inv X l8 σ (upd H h'.objs.size (.tup ys)) { s with heap:=h'.push { cls:=.type "tuple",data:=.seq ma.toArray } } :=
   I1.laid (t':=s.toks) (λ b o e=>aj _ e) (ap _) (show ObjOk X.prog X.w _ _ _ (.tup ys) from ⟨hz,ma,r',IsTup.new _ _⟩)
  exact ⟨.ref h'.objs.size,_,I2,rfl,q _ (I1.hok.fresh (ap _))⟩
 ·obtain ⟨ma,r',pl,hz⟩:=I.tuple hq;exact call_tuple_same pl ⟨.ref p,H,I,rfl,q⟩
def tyV (K:A0) (T:String) (x:V) (H:Hp):Prop:=match x with
 | .str _=>T="str"
 | .int _=>T="int"
 | .ref p=>(T="list"/\∃ xs,SqL K H p xs)\/(T="tuple"/\∃ o,K.lookup p=some o/\o.cls=.type "tuple"/\o.dict=none) \/
   (T="dict"/\((∃ me,H p=some (.dK me))\/∃ me,H p=some (.dT me)))\/(T="set"/\∃ S n,H p=some (.set S n))
 | _=>False
theorem zfx {l8:A2} {σ:St} {H:Hp} {s:Am} {T:String} {x:V} {v:Al} (I:Inv X l8 σ H s) (r:RelV x v) (ty:tyV X.K T x H) :
  s.TypeIs v T/\∀ a,v=.ref a->∃ ob,s.heap.get? a=some ob/\ob.dict=none:=by
 cases x with
 | str z =>
  obtain ⟨t,rfl⟩:=r;cases (show T="str" from ty);exact ⟨typeIs_str s z t,λ _ e=>nomatch e⟩
 | int i =>
  obtain ⟨t,rfl⟩:=r;cases (show T="int" from ty);exact ⟨typeIs_int s i t,λ _ e=>nomatch e⟩
 | ref p =>
  cases r;rcases ty with ⟨rfl,xs,hq⟩|⟨rfl,o,hk,hc,hd⟩|⟨rfl,hk⟩|⟨rfl,S,n,hk⟩
  ·obtain ⟨ma,_,pl,_⟩:=I.list hq;refine ⟨pl.isList.typeIs,λ a e=>?_⟩;cases e;obtain ⟨o,n,e,c,hd,_⟩:=pl;exact ⟨o,e,hd⟩
  ·refine ⟨⟨o,I.kIn p o hk,hc⟩,λ a e=>?_⟩;cases e;exact ⟨o,I.kIn _ o hk,hd⟩
  ·have z:∃ o,s.heap.get? p=some o/\o.ExactDict:=by
    rcases hk with ⟨me,hk⟩|⟨me,hk⟩
    ·obtain ⟨_,_,_,_,o,_,_,e,ex,_⟩:=I.hok p _ hk;exact ⟨o,e,ex⟩
    ·obtain ⟨_,_,_,_,o,_,_,e,ex,_⟩:=I.hok p _ hk;exact ⟨o,e,ex⟩
   obtain ⟨o,e,ex⟩:=z;refine ⟨⟨o,e,ex.1⟩,λ a e2=>?_⟩;cases e2;exact ⟨o,e,ex.2.1⟩
  ·obtain ⟨o,_,_,_,e,ex,_⟩:=I.hok p _ hk;refine ⟨⟨o,e,ex.1⟩,λ a e2=>?_⟩;cases e2;exact ⟨o,e,ex.2.1⟩
 | _=>exact False.elim ty
def tBM (K:A0) (T:String) (r:V->List V->Hp->VK->Prop) (to:TE) (t:TA):TE:=λ σ H Q=>to σ H λ x H1=>tyV K T x H1/\t σ H1 λ xs H2=>r x xs H2 Q
variable {o e:Expr} {es:List Expr} {to:TE} {t:TA} {name:Str} {apos cpos:Pos} {T id:String} {r:V->List V->Hp->VK->Prop}
def qk (pa:PlainAttrs T) (slot:Slot T name id) (hty:typeOf (.builtin id)=pure (.type "method_descriptor")) (hm:MtR X id r) (ho:PE X o to) (ha:PA X (e :: es) t)
  (hbase:attributeBase o name X.env (eval o X.env)=eval o X.env:=by rfl)
  (hfew:((backTo cpos (starEach (e :: es) X.env)).all (λ x=>!x.1) && (backToKw cpos (keywordEach [] X.env)).all (λ x=>x.1.isSome)
   && decide ((e :: es).length + ([]:List Keyword).length + (if ([]:List Keyword).isEmpty then 0 else 1) < 30))=true:=by rfl)
  (hline:(apos.endLine == cpos.line)=true:=by rfl) (hs:starEach (e :: es) X.env=(false,eval e X.env) :: starEach es X.env:=by rfl) (hplain:(backTo cpos (starEach es X.env)).any (·.1)=false:=by rfl) :
  PE X (.Call (.Attribute o name apos) (e :: es) [] cpos) (tBM X.K T r to t):=by
 intro l8 s σ H Q I h;refine wpAny_Call_method_late hbase hfew hline rfl (qp (ho l8 s σ H _ I h) λ v s1 x H1 I1 r1 qq_=>?_);obtain ⟨ty,q1⟩:=qq_;obtain ⟨h1,h2⟩:=zfx I1 r1 ty;refine ⟨T,id,pa,slot,hty,h1,h2,?_⟩;have hA:=ha cpos l8 s1 σ H1 _ I1 q1;rw [hs] at hA ⊢;refine Calls.callWith_builtin (by show (false || (backTo cpos (starEach es X.env)).any (·.1))=false;rw [hplain] <;> rfl) (Calls.evalArgs_plain ?_);exact thn hA λ us s2 ⟨vs,H2,I2,r2,q2⟩=>hm l8 s2 σ H2 x vs v us Q I2 r1 r2 q2
end
def MtM (X:Cx) (id:String) (r:V->List V->Hp->VK->Prop):Prop :=
 ∀ (l8:A2) (s:Am) (σ:St) (H:Hp) (x:V) (xs:Ao) (v:Al) (us:A7) (Q:VK),Inv X l8 σ H s->RelV x v->Vals xs us->r x xs H Q ->
  wpAny (model X.prog X.w) X.A (call (.builtin id) (v :: us)) (EP X l8 σ Q) X.xe s
def Vals.one {x:V} {us:A7} (h:Vals [x] us):∃ u,us=[u]/\RelV x u:=by
 cases h with
 | cons r t=>cases t;exact ⟨_,rfl,r⟩
def Vals.two {x y:V} {us:A7} (h:Vals [x,y] us):∃ u v,us=[u,v]/\RelV x u/\RelV y v:=by
 cases h with
 | cons r t =>
  obtain ⟨v,rfl,q⟩:=Vals.one t;exact ⟨_,_,rfl,r,q⟩
theorem Vals.zero:∀ {us:A7},Vals [] us->us=[]
 | _,.nil=>rfl
theorem Vals.eraseIdx:∀ {xs:Ao} {us:A7} (i:Nat),Vals xs us->Vals (xs.eraseIdx i) (us.eraseIdx i)
 | _,_,_,.nil=>.nil
 | _,_,0,.cons _ t=>t
 | _,_,i + 1,.cons r t=>.cons r (Vals.eraseIdx i t)
def Vals.reverse {xs:Ao} {us:A7} (h:Vals xs us):Vals xs.reverse us.reverse:=by
 induction h with
 | nil=>exact .nil
 | cons r t ih=>rw [List.reverse_cons,List.reverse_cons];exact Vals.append ih (.cons r .nil)
theorem Vals.rep {xs:Ao} {us:A7} (h:Vals xs us):∀ k:Nat,Vals (List.replicate k xs).flatten (List.replicate k us).flatten
 | 0=>.nil
 | k + 1=>by
  rw [cN,cN,dD,dD];exact Vals.append h (Vals.rep h k)
theorem Xw {α:Type}:∀ (l:List α) (i:Nat),(l.eraseIdx i).length<=l.length
 | [],_=>ap _
 | _ :: _,0=>bZ _
 | _ :: r,i + 1=>Nat.succ_le_succ (Xw r i)
theorem XJ (ma:A7):∀ (k:Nat) (mf:A7),
  List.foldl (λ x1 x2=>x1 ++ x2) mf.toArray (List.replicate k ma.toArray)=(mf ++ (List.replicate k ma).flatten).toArray
 | 0,mf=>by simp
 | k + 1,mf=>by
  have e:mf.toArray ++ ma.toArray=(mf ++ ma).toArray:=by simp
  have e2:(mf ++ ma) ++ (List.replicate k ma).flatten=mf ++ (List.replicate (k + 1) ma).flatten:=by
   rw [cN,dD,bP]
  rw [<- e2,<- XJ ma k (mf ++ ma),<- e,cN,List.foldl_cons]
section
variable {X:Cx} {l8:A2} {σ:St} {H:Hp} {s:Am} {l b:Addr} {xs ys zs:Ao}
def Inv.lset {ma its':A7} {n:Nat} {f:Array Value->Array Value} {t':Nat} (I:Inv X l8 σ H s) (hH:H l=some (.lst xs))
  (e:s.heap.get? l=some { cls:=.type "list",data:=.seq ma.toArray n }) (hf:f ma.toArray=its'.toArray) (hv:Vals ys its') (hz:ys.length<=sizeLine) :
  Inv X l8 σ (upd H l (.lst ys)) { s with heap:=s.heap.update l (Obj.mapSeq f),toks:=t' }:=by
 have q:=PySem.IsL.update e f;rw [hf] at q;refine I.write (x:=l) (e:=l) (by rw [hH];exact trivial) (.inl rfl) (λ b' u hb hu=>(a9 s.heap (Obj.mapSeq f) (aZ hb)).trans hu) ⟨_,q⟩ ?_;exact ⟨hz,its',_,hv,q⟩
def Inv.lnew {ma:A7} {t':Nat} (I:Inv X l8 σ H s) (hv:Vals ys ma) (hz:ys.length<=sizeLine) :
  Inv X l8 σ (upd H s.heap.objs.size (.lst ys)) { s with heap:=s.heap.push { cls:=.type "list",data:=.seq ma.toArray },toks:=t' } :=
 I.laid (λ _ _ q=>aj _ q) (ap _) ⟨hz,ma,0,hv,aJ _ rfl⟩
def Inv.fresh (I:Inv X l8 σ H s):H s.heap.objs.size=none:=I.hok.fresh (ap _)
def Inv.lstM (I:Inv X l8 σ H s) (hH:H l=some (.lst xs)):xs.length<=sizeLine/\∃ (ma:A7) (n:Nat),Vals xs ma/\xs.length=ma.length/\s.heap.get? l=some { cls:=.type "list",data:=.seq ma.toArray n }:=by
 obtain ⟨z,ma,n,r,e⟩:=I.hok l _ hH;exact ⟨z,ma,n,r,r.length,e⟩
def VA {n:Nat} (h:n<=sizeLine):Builtin.List.listTooLong n=false:=by
 unfold Builtin.List.listTooLong;exact a4 (by lia)
end
section
variable {X:Cx}
def zeE:V->List V->Hp->VK->Prop:=λ x vs H Q=>∃ l xs y,x=.ref l/\vs=[y]/\H l=some (.lst xs)/\xs.length < sizeLine/\Q .non (upd H l (.lst (xs ++ [y])))
def zE:MtM X "list.append" zeE:=by
 intro l8 s σ H x vs v us Q I rx rv h;obtain ⟨l,xs,y,rfl,rfl,hH,hz,q⟩:=h;cases rx;obtain ⟨u,rfl,ru⟩:=rv.one;obtain ⟨z,ma,n,r,hl,e⟩:=I.lstM hH;refine d8 F.slot_list_append ⟨_,e,rfl⟩ F.entry_list_append (F.args_list_append_2 _ _) (PySem.list_append l ma.toArray n u (by rw [ar];lia)) ⟨e,?_⟩;refine ⟨.non,_,I.lset (its':=ma ++ [u]) hH e (by simp) (r.append (.cons ru .nil)) ?_,rfl,q⟩;rw [aM,cu]
 lia
def zeB:V->List V->Hp->VK->Prop:=λ x vs H Q=>∃ l b xs zs,x=.ref l/\vs=[.ref b]/\H l=some (.lst xs)/\H b=some (.lst zs)/\xs.length + zs.length<=sizeLine/\Q .non (upd H l (.lst (xs ++ zs)))
def wT:MtM X "list.extend" zeB:=by
 intro l8 s σ H x vs v us Q I rx rv h;obtain ⟨l,b,xs,zs,rfl,rfl,hH,hB,hz,q⟩:=h;cases rx;obtain ⟨u,rfl,ru⟩:=rv.one;cases ru;obtain ⟨z,ma,n,r,hl,e⟩:=I.lstM hH;obtain ⟨z2,its2,n2,r2,hl2,e2⟩:=I.lstM hB;have hsz:ma.toArray.size + its2.toArray.size<=sizeLine:=by rw [ar,ar];lia
 have hlong:¬ (!ma.toArray.isEmpty && Builtin.List.listTooLong (ma.toArray.size + its2.toArray.size))=true:=by
  rw [VA hsz,bX];exact aE
 refine d8 F.slot_list_extend ⟨_,e,rfl⟩ F.entry_list_extend (F.args_list_extend_2 _ _)
  (AutoSeq1.list_extend_list_list_0 l ma.toArray n b its2.toArray n2 hlong (by rw [ar];lia) (by lia)) ⟨e,e2,?_⟩
 refine ⟨.non,_,I.lset (its':=ma ++ its2) hH e (by simp) (r.append r2) ?_,rfl,q⟩;rw [aM]
 lia
def zfO:V->List V->Hp->VK->Prop:=λ x vs H Q=>∃ l xs i k y,x=.ref l/\vs=[.int i]/\H l=some (.lst xs)/\-(2 ^ 63)<=i/\i < 2 ^ 63/\seqIndex? i xs.length=some k/\xs[k]?=some y/\Q y (upd H l (.lst (xs.eraseIdx k)))
def Jl:MtM X "list.pop" zfO:=by
 intro l8 s σ H x vs v us Q I rx rv h;obtain ⟨l,xs,i,k,y,rfl,rfl,hH,h1,h2,hk,hy,q⟩:=h;cases rx;obtain ⟨u,rfl,ru⟩:=rv.one;obtain ⟨t,rfl⟩:=ru;obtain ⟨z,ma,n,r,hl,e⟩:=I.lstM hH;obtain ⟨w,hw,rw'⟩:=r.get hy;refine d8 F.slot_list_pop ⟨_,e,rfl⟩ F.entry_list_pop (F.args_list_pop_2 _ _)
  (MeetsSeq.list_pop_at l ma.toArray n i t k w (fitsIndex_both h1 h2) (by rw [ar,<- hl];exact hk) (by rw [<- bB];exact hw) (by rw [ar];lia)) ⟨e,?_⟩
 refine ⟨y,_,I.lset (its':=ma.eraseIdx k) hH e ?_ (r.eraseIdx k) ?_,rw',q⟩
 ·show ma.toArray.eraseIdxIfInBounds k=(ma.eraseIdx k).toArray
  rw [List.eraseIdxIfInBounds_toArray]
 ·have:=Xw xs k
  lia
def zhi:R2:=λ x y H Q=>∃ l k xs,x=.ref l/\y=.int k/\H l=some (.lst xs)/\-(2 ^ 63)<=k/\k < 2 ^ 63/\xs.length * k.toNat<=sizeLine /\
 ∀ p,H p=none->Q (.ref p) (upd H p (.lst (List.replicate k.toNat xs).flatten))
def zeT {α:Type} (xs:List α) (k:Nat):(List.replicate k xs).flatten.length=k * xs.length:=by
 induction k with
 | zero=>simp
 | succ k ih=>rw [cN,dD,aM,ih,Nat.succ_mul,Nat.add_comm]
def zaM:OpR X (binaryOp .Mult) zhi:=by
 intro l8 s σ H x y v u Q I rx ry h;obtain ⟨l,k,xs,rfl,rfl,hH,h1,h2,hz,q⟩:=h;cases rx;obtain ⟨t,rfl⟩:=ry;obtain ⟨z,ma,n,r,hl,e⟩:=I.lstM hH;have hlen:ma.toArray.size * k.toNat<=sizeLine:=by rw [ar,<- hl];exact hz
 have hcap:¬ ma.toArray.size * k.toNat > (2 ^ 63 - 1) / 8:=by
  have:(sizeLine:Nat)<=(2 ^ 63 - 1) / 8:=by decide
  lia
 have hfit:¬ (!Builtin.List.listFitsIndex k)=true:=by
  rw [fitsIndex_both h1 h2];exact aE
 have hlong:¬ Builtin.List.listTooLong (ma.toArray.size * k.toNat)=true:=by
  rw [VA hlen];exact aE
 have hnew:List.foldl (λ x1 x2=>x1 ++ x2) #[] (List.replicate (if ma.toArray.isEmpty=true then 0 else k.toNat) ma.toArray)=(List.replicate k.toNat ma).flatten.toArray:=by
  have f0:∀ m:Nat,List.foldl (λ x1 x2=>x1 ++ x2) #[] (List.replicate m ma.toArray)=(List.replicate m ma).flatten.toArray:=λ m=>by
   have:=XJ ma m [];rw [List.nil_append] at this;exact this
  rw [f0];cases ma with
  | nil=>simp
  | cons a r'=>rw [aq (by simp)]
 refine wpAny_binaryOp_repeat_ref (T:="list") (U:="int") (by decide) ⟨_,e,rfl⟩ (λ s'=>typeIs_int s' k t) noFill_list_mul F.fills_int_mul F.slot_int_rmul repeat_list F.slot_int_index.lookup
  (d8 F.slot_int_rmul (typeIs_int s k t) F.entry_int_rmul (F.args_int_rmul_2 _ _) (int___rmul___int_list k t l ma.toArray n)
   ⟨e,rfl,⟨_,e,rfl⟩,d8 F.slot_list_mul ⟨_,e,rfl⟩ F.entry_list_mul (F.args_list_mul_2 _ _) (AutoListH.list___mul___list_int_3 l ma.toArray n k t hfit hcap hlong) ⟨e,?_⟩⟩)
 rw [hnew];exact ⟨.ref _,_,I.lnew (t':=s.toks) (r.rep k.toNat) (by rw [zeT,dX];exact hz),rfl,q _ I.fresh⟩
end
section
variable {prog:Af} {w:World} {A:An} {E:A3} {s:Am}
end
section
variable {X:Cx}
end
end L2
namespace Att
open PySem PySem.W PySem.Calls PyProof.Rows
def Qt {P:Params} {h:Heap}:∀ (ns:A6) (vs:A7),WellAll P h vs (ns.map WData.int)->IntsAre vs ns:=by
 intro ns
 induction ns with
 | nil =>
  intro vs w;rw [map_nil] at w;cases w;exact .nil
 | cons n ns ih =>
  intro vs w;rw [b5] at w;cases w with
  | cons a b =>
   cases a;exact .cons _ _ (ih _ b)
theorem zb6 {l:OpenLaw} {n:Nat} (hn:l.most=some n) {P:Params} {h:Heap} {args:List WData} {vals:A7}
  (hpre:l.row.toRowW.claim.pre args=true) (hwl:WellAll P h vals args) :
  ∃ a vs ns,vals=[Value.ref a]/\args=[WData.list (ns.map WData.int)]/\h.get? a=some { cls:=.type "list",data:=.seq vs.toArray }/\IntsAre vs ns/\ns.length<=n:=by
 have hsh:WShape.hasAll [] args [.list .int]=true:=(pre_splitW hpre).1;have hc:l.pre.holds [] { args:=args }=true:=(pre_splitW hpre).2;obtain ⟨d,r,rfl,h1,h2⟩:=hasAllW_cons hsh;obtain rfl:=hasAllW_nil h2;obtain ⟨xs,rfl,h3⟩:=hasW_list h1;obtain ⟨ns,rfl⟩:=items_int h3;have hlen:ns.length<=n:=by
  unfold OpenLaw.pre at hc;have h4:(WTm.not (.lt (.lit (.int (n:Int))) (.len (.arg 0)))).holds [] { args:=[.list (ns.map .int)] }=true:=by
   have h4:=(holds_andW hc).1;rw [hn] at h4;exact h4
  have h5:=condW_of h4 (w_not (w_lt w_lit (w_len_list (w_arg rfl))));rw [ah] at h5;refine Nat.le_of_not_lt λ q=>?_;have q':(n:Int) < ((ns.length:Nat):Int):=by lia
  first
   | (rw [bF q'] at h5;exact absurd h5 (by decide))
   | (simp at h5;lia)
 cases hwl with
 | cons w1 w2 =>
  cases w2;cases w1 with
  | list ho hall=>exact ⟨_,_,ns,rfl,rfl,ho,Qt ns _ hall,hlen⟩
def zcl (l:OpenLaw) (args:List WData):l.row.toRowW.claim.post args (.bool true) args=true :=
 postW_of (r:=l.row.toRowW) (X:=(true == true))
  (show WShape.has [] (.bool true) .bool=true by first|rfl|decide|simp [WShape.has,WShape.arms,WShape.armsAll])
  (show (WTm.eq .res (.lit (.bool true))).value [] { args:=args,res:=some (.bool true),after:=args }=some (.bool (true == true)) from w_eq_bool (w_res rfl) w_lit) rfl
def attach_call {l:OpenLaw} {n:Nat} {q:Af} {loose:A8} {XP:(Str->Option Value)->Heap->Prop} {YP:World->Heap->Prop} {d:DefRec}
  (hn:l.most=some n) (hdf:d.params.defaults=[])
  (call:∀ (w:World) (s₀ s₁:Am) (mg mb:A4) (fa:Addr) (o:Obj) (pm cd doc:Al) (a:Addr) (vs:A7) (ns:A6),
   Ground q loose [] XP w s₀ mg mb s₁.heap->YP w s₁.heap ->
   s₁.heap.get? fa=some o->o.data=.func (docDef d.name d.params d.body d.scope pm cd doc)->s₁.heap.CodeRec cd d.name->mg d.name=some (.ref fa) ->
   s₁.heap.get? a=some { cls:=.type "list",data:=.seq vs.toArray }->IntsAre vs ns->ns.length<=n->s₁.gens=#[] ->
   codeAny (model l.prog w) callerA (.call (.ref fa) ⟨[.ref a],[]⟩) (λ r s'=>r=.ok (.ret (.bool true))/\OldK s₁.heap s'.heap/\s'.os=s₁.os/\AllBare s'.gens) s₁) :
  WalkO q loose XP YP l.row.toRowW d [] (λ f vs=>PySem.call f vs):=by
 intro w s₀ s₁ mg mb G Y fa o pm cd doc dV kV ho hd hcd hD hmg hg args vals as hpre hlay hrd hwl hlo;obtain rfl:dV=.none:=Dflts.none hD hdf;obtain rfl:kV=.none:=Dflts.noKw hD;obtain ⟨a,vs,ns,rfl,rfl,hobj,hints,hlen⟩:=zb6 hn hpre hwl;refine enter_call (b9 (call w s₀ s₁ mg mb fa o pm cd doc a vs ns G Y ho (fd_plain hd) hcd hmg hobj hints hlen hg) λ r s' hq=>?_);obtain ⟨rfl,h2,h3,h4⟩:=hq;exact ⟨.inl ⟨.bool true,.bool true,[],rfl,λ _=>rfl,.bool true,zcl l _,λ _=>⟨List.Pairwise.nil,λ _ hm=>(nomatch hm)⟩⟩,h2,h3,h4⟩
section
variable {prog:Af} {w:World} {A:An} {E:A3} {s:Am} {K:Frag}
noncomputable def ledger (h:Heap) (L d:Addr):List (Addr × Obj):=(List.range h.objs.size).filterMap λ a=>if a=L\/a=d then none else (h.get? a).map λ o=>(a,o)
end
end Att
namespace L2
open PySem PySem.Spec PyProof.Rows
variable {fd:FuncData}
theorem Xk:∀ {vs:A7} {ns:A6},IntsAre vs ns->Vals (ns.map V.int) vs
 | _,_,.nil=>.nil
 | _,_,.cons n t h=>.cons ⟨t,rfl⟩ (Xk h)
def zgw (H:Hp):Prop:=∀ b,H b=none\/∃ o xs,H b=some (.frz o (.lst xs))
theorem zdE {P:Af} {w:World} {K:A0} {mg mb:A4} {CX:CXT} {k:Nat} {fa a:Addr} {x:Str} {sp:Sp} {s₁:Am} {vs:A7} {ns:A6}
  (KX:K.In s₁.heap) (hns:s₁.heap.Ns mainGlobals mg) (hb:s₁.heap.Ns builtinsNs mb) (hbb:∀ x:Str,x≠"__name__"->mb x=bootBuiltins x) (hlim:s₁.heap.NoLimit) (hg:s₁.gens=#[])
  (ha:s₁.heap.get? a=some { cls:=.type "list",data:=.seq vs.toArray }) (hi:IntsAre vs ns) (hl:ns.length<=sizeLine) (hr:Room k callerA)
  (F:∀ base:Heap,K.In base->base.Ns mainGlobals mg->FnOk P w K mg base CX k fa fd [x] sp) (hbind:∀ (s:Am) (u:Al),BindsTo s fd ⟨[u],[]⟩ [(x,u)])
  (hsp:∀ H:Hp,zgw H->SqL K H a (ns.map V.int)->sp [.ref a] H (λ v _=>v=.bl true) λ _ _ _=>False)
  (hCX:∀ H e s',CX [] H s₁ (λ _ _ _=>False) e s'->False) :
  codeAny (model P w) callerA (.call (.ref fa) ⟨[.ref a],[]⟩) (λ r s'=>r=.ok (.ret (.bool true))/\OldK s₁.heap s'.heap/\s'.os=s₁.os/\AllBare s'.gens) s₁:=by
 have rv:=Xk hi;have lenV:=hi.length;have core:∀ H:Hp,zgw H->SqL K H a (ns.map V.int)->HOk P w H s₁.heap->(∀ b,H b≠none->b=a)->(H a≠none->K.lookup a=none) ->
   codeAny (model P w) callerA (.call (.ref fa) ⟨[.ref a],[]⟩) (λ r s'=>r=.ok (.ret (.bool true))/\OldK s₁.heap s'.heap/\s'.os=s₁.os/\AllBare s'.gens) s₁:=by
  intro H hO hS hok hA hK;have base_of:∀ {b:Addr} {o:Obj},s₁.heap.get? b=some o->H b=none->(Wt s₁.heap H).get? b=some o:=λ e n=>zdQ e n;have noA:∀ {b:Addr} {o:Obj} {es:Array DictEntry} {ep:Nat},s₁.heap.get? b=some o->o.data=.dict es ep->H b=none:=λ {b o es ep} e d=>by
   cases q:H b with
   | none=>rfl
   | some u =>
    have e':b=a:=hA b (by rw [q];simp);subst e';rw [ha] at e;cases e;have d':Data.seq vs.toArray _=Data.dict es ep:=d;cases d'
  have nsK:∀ {b:Addr} {m:A4},s₁.heap.Ns b m->(Wt s₁.heap H).Ns b m:=λ {b m} ⟨o,es,ep,e,d,r⟩=>⟨o,es,ep,base_of e (noA e d),d,r⟩;have hKb:K.In (Wt s₁.heap H):=λ b o e=>base_of (KX b o e) (by
   cases q:H b with
   | none=>rfl
   | some u =>
    have e':b=a:=hA b (by rw [q];simp);subst e';rw [hK (by rw [q];simp)] at e;cases e)
  have hM:Mod K mg (Wt s₁.heap H):=⟨hKb,nsK hns,⟨mb,nsK hb,hbb⟩,let ⟨mc,h1,h2⟩:=hlim;⟨mc,nsK h1,h2⟩⟩;have e0:Env0 P w K mg (Wt s₁.heap H) callerA [] s₁ H:=⟨rfl,hM,λ b o e=>zeO e,Nat.le_of_eq (zcu _ _),trivial,λ b hb=>absurd (show b∈([]:Ab) from hb) (by simp),hok,.of_eq hg⟩;refine b9 ((F _ hKb (nsK hns)).run callerA [] s₁ H ⟨[.ref a],[]⟩ [.ref a] [.ref a] _ _ hr e0 (hbind s₁ (.ref a)) (.cons rfl .nil) (hsp H hO hS)) λ r s' h=>?_;cases r with
  | error e=>exact (hCX H e s' h).elim
  | ok fl =>
   cases fl with
   | next=>exact False.elim h
   | brk=>exact False.elim h
   | cont=>exact False.elim h
   | ret u =>
    obtain ⟨v,H',os,bare,un,hok',r',q⟩:=h;have q':v=.bl true:=q;subst q';obtain rfl:u=Value.bool true:=r';refine ⟨rfl,OldK.of_keep λ b o e=>?_,os,bare⟩;cases q:H b with
    | none=>exact un.keep b o e q (by intro z;exact absurd (show b∈([]:Ab) from z) (by simp)) (by simp)
    | some u =>
     rcases hO b with z|⟨ob,xs,z⟩
     ·rw [q] at z;cases z
     ·have z2:=un.frzs b ob _ z;obtain ⟨e1,_⟩:=hok b _ z;obtain ⟨e2,_⟩:=hok' b _ z2;rw [e] at e1;cases e1;exact e2
 cases hk:K.lookup a with
 | some o =>
  have e:=KX a o hk;rw [ha] at e;cases e;refine core (λ _=>none) (λ _=>.inl rfl) (.inr ⟨_,vs.toArray,_,hk,rfl,rfl,rfl,by rw [ar,lenV];exact hl,by simpa using rv⟩) (λ b u z=>by have z':(none:Option HO)=some u:=z;cases z') (λ b z=>absurd rfl z) λ z=>absurd rfl z
 | none =>
  refine core (λ b=>if b=a then some (.frz { cls:=.type "list",data:=.seq vs.toArray } (.lst (ns.map V.int))) else none) (λ b=>?_) (.inl (.inr ⟨{ cls:=.type "list",data:=.seq vs.toArray },aA rfl⟩)) (λ b u z=>?_) (λ b z=>?_) λ _=>hk
  ·by_cases hb:b=a
   ·exact .inr ⟨_,_,aA hb⟩
   ·exact .inl (aq hb)
  ·by_cases hb:b=a
   ·have z':=(aA hb).symm.trans z;cases z';subst hb;exact ⟨ha,by rw [ah];exact hl,vs,_,rv,ha⟩
   ·have z':=(aq hb).symm.trans z;cases z'
  ·by_cases hb:b=a
   ·exact hb
   ·exact absurd (aq hb) z
def walk_of {l:PySem.W.OpenLaw} {n k:Nat} {q:Af} {loose:A8} {XP:(Str->Option Value)->Heap->Prop} {YP:World->Heap->Prop} {d:DefRec} {K:Params->PySem.W.Frag} {CX:World->CXT} {sp:World->Sp} {x:Str}
  (hn:l.most=some n) (hn2:n<=sizeLine) (hdf:d.params.defaults=[]) (hr:Room k callerA)
  (hY:∀ (w:World) (h:Heap),YP w h->(K w.params).In h)
  (F:∀ (w:World) (mg:A4) (fa:Addr) (h:Heap),(K w.params).In h->h.Ns mainGlobals mg->mg d.name=some (.ref fa) ->
   ∃ fd:FuncData,(∀ (s:Am) (u:Al),BindsTo s fd ⟨[u],[]⟩ [(x,u)]) /\
    ∀ base:Heap,(K w.params).In base->base.Ns mainGlobals mg->FnOk l.prog w (K w.params) mg base (CX w) k fa fd [x] (sp w))
  (hsp:∀ (w:World) (H:Hp) (a:Addr) (ns:A6),ns.length<=n->zgw H->SqL (K w.params) H a (ns.map V.int)->sp w [.ref a] H (λ v _=>v=.bl true) λ _ _ _=>False)
  (hCX:∀ (w:World) (H:Hp) (s:Am) (e:Al) (s':Am),CX w [] H s (λ _ _ _=>False) e s'->False) :
  PySem.W.WalkO q loose XP YP l.row.toRowW d [] (λ f vs=>PySem.call f vs):=by
 refine Att.attach_call hn hdf λ w s₀ s₁ mg mb fa o pm cd doc a vs ns G Y ho hd hcd hmg hobj hints hlen hg=>?_;have KX:=hY w _ Y;obtain ⟨fd,hb,hF⟩:=F w mg fa _ KX G.T.g hmg;exact zdE KX G.T.g G.T.b G.T.builtins G.T.nolimit hg hobj hints (bc hlen hn2) hr hF hb (λ H hO hS=>hsp w H a ns hlen hO hS) λ H e s'=>hCX w H s₁ e s'
noncomputable def zR (s:Stmt) (j:Nat):Stmt:=match s with
 | .ClassDef _ _ _ body _ _ _ _ _ _ _=>body.getD j (.Pass ⟨0,0,0,0⟩)
 | _=>.Pass ⟨0,0,0,0⟩
noncomputable def zS (s:Stmt):Arguments:=match s with
 | .FunctionDef _ a _ _ _ _ _ _ _ _=>a
 | _=>{ posonlyargs:=[],args:=[],vararg:=none,kwonlyargs:=[],kw_defaults:=[],kwarg:=none,defaults:=[] }
noncomputable def zI (s:Stmt):List Stmt:=match s with
 | .FunctionDef _ _ b _ _ _ _ _ _ _=>b
 | _=>[]
noncomputable def ze (s:Stmt):Scope:=match s with
 | .FunctionDef _ _ _ _ _ _ sc _ _ _=>sc
 | _=>{ kind:=.function,names:=[],isGenerator:=false,isCoroutine:=false }
abbrev CX0:CXT:=λ _ _ _ _ _ _=>False
structure Fun (K:A0) (x qual:Str) (st:Stmt) (f:Addr) (fd:FuncData):Prop where
 ex:∃ (oc:Al) (od:Aa) (kV doc pm:Al) (an:Aa) (cdv ct:Al) (osl:Ae),
  fd=fnOf x qual (zS st) (zI st) (ze st) .none kV doc pm an cdv ct/\K.lookup f=some ⟨oc,od,.func fd,osl⟩/\codeIn K cdv qual=true
 kp:keepIn K (.ref f)=true
section
variable {P:Af} {w:World} {K:A0} {mg:A4} {base:Heap}
def Fun.ok {x qual:Str} {st:Stmt} {f:Addr} {N ps:A8} {k:Nat} {sp:Sp} (F:Fun K x qual st f fd) (S:FnScope N ps (ze st)) (len:∀ vs H Q E,sp vs H Q E->vs.length=ps.length)
  (hbody:∀ (cdv:Al) (A:An) (outer:List Env) (s:Am) (H:Hp) (vs:Ao) (Q:VK) (E:XK),Room k (A.deeper (envOfC qual (ze st) s.heap.objs.size f cdv))->sp vs H Q E ->
   ∃ t,PSs (Zq CX0 P w K mg base N qual (ze st) f cdv A outer s H E).nox (zI st) t/\t { nx:=λ _ H'=>Q .non H',rt:=Q } (start N vs) H):FnOk P w K mg base CX0 (k + 1) f fd ps sp:=by
 obtain ⟨oc,od,kV,doc,pm,an,cdv,ct,osl,rfl,lk,hcd⟩:=F.ex;refine zdX lk hcd S len λ A outer s H vs Q E hr hsp=>?_;obtain ⟨t,h,q⟩:=hbody cdv A outer s H vs Q E hr hsp;exact ⟨t,h.nox,q⟩
def Fun.binds {x qual:Str} {st:Stmt} {f:Addr} {ps:A8} (F:Fun K x qual st f fd)
  (h:∀ (kV doc pm:Al) (an:Aa) (cdv ct:Al) (us:A7),us.length=ps.length->bindArgs (fnOf x qual (zS st) (zI st) (ze st) .none kV doc pm an cdv ct) ⟨us,[]⟩=pure (ps.zip us)):Binds K fd ps []:=by
 obtain ⟨oc,od,kV,doc,pm,an,cdv,ct,osl,rfl,lk,hcd⟩:=F.ex;exact .all (h kV doc pm an cdv ct)
def xX {x qual:Str} {st:Stmt} {f:Addr} {oc:Al} {od an:Aa} {osl:Ae} {kV doc pm cdv ct:Al} (l:K.lookup f=some ⟨oc,od,.func (fnOf x qual (zS st) (zI st) (ze st) .none kV doc pm an cdv ct),osl⟩)
  (c:codeIn K cdv qual=true) (k:keepIn K (.ref f)=true):Fun K x qual st f (fnOf x qual (zS st) (zI st) (ze st) .none kV doc pm an cdv ct):=⟨⟨oc,od,kV,doc,pm,an,cdv,ct,osl,rfl,l,c⟩,k⟩
end
def zi {n:Nat} (h:n<=1000):n < sizeLine:=dM h (by decide)
section
variable {X:Cx}
end
def zA {c A B:Prop} [Decidable c] (h1:c->A) (h2:¬ c->B):if c then A else B:=by
 by_cases h:c
 ·rw [aA h];exact h1 h
 ·rw [aq h];exact h2 h
def Same (H H':Hp):Prop:=∀ b o,H b=some o->H' b=some o
def Same.refl (H:Hp):Same H H:=λ _ _ h=>h
def Same.trans {H H1 H2:Hp} (a:Same H H1) (b:Same H1 H2):Same H H2:=λ c o h=>b c o (a c o h)
def Same.free {H H':Hp} (e:Same H H') {l:Addr} (h:H' l=Option.none):H l=Option.none:=by
 cases q:H l with
 | none=>rfl
 | some o =>
  rw [e l o q] at h;cases h
def Same.seq {K:A0} {H H':Hp} {a:Addr} {xs:Ao} (e:Same H H') (h:SqL K H a xs):SqL K H' a xs:=by
 rcases h with (h|⟨o,h⟩)|h
 ·exact .inl (.inl (e _ _ h))
 ·exact .inl (.inr ⟨o,e _ _ h⟩)
 ·exact .inr h
end L2
set_option maxHeartbeats 4000000
namespace L2
open PySem PySem.Spec PyProof.Rows
variable {K:A0} {H:Hp} {P:Af} {w:World} {base:Heap} {s:Am} {Q:Ag} {cls:Al} {sp:Sp} {mg:A4} {ps:A8} {oe:Obj} {l8:A2} {x:Str}
abbrev GK:=Value->St->Hp->Prop
structure Exc (g h:Heap) (H:Hp) (pn:A2) (a:Addr) (cls:Al):Prop where
 ex:∃ (oe:Obj) (vs:Ac) (T:Addr) (oT:Obj) (ts:Ac),h.get? a=some oe/\oe.cls=cls/\oe.dict=none/\oe.data=.fields vs/\vs[1]?=some (.ref T)/\T≠a /\
  h.get? T=some oT/\oT.data=.fields ts/\ts[3]?=some .none/\g.get? T=none/\H T=none/\∀ p∈pn,p.1≠T
 ga:g.get? a=none
 Ha:H a=none
 pa:∀ p∈pn,p.1≠a
def ObjOk.there {h:Heap} {a:Addr} {o:HO} (x:ObjOk P w H h a o):∃ ob,h.get? a=some ob:=by
 cases o with
 | lst xs=>obtain ⟨_,_,_,_,e⟩:=x;exact ⟨_,e⟩
 | tup xs=>obtain ⟨_,_,_,ob,e,_⟩:=x;exact ⟨_,e⟩
 | dK me=>obtain ⟨_,_,_,_,o,_,_,e,_⟩:=x;exact ⟨_,e⟩
 | dT me=>obtain ⟨_,_,_,_,o,_,_,e,_⟩:=x;exact ⟨_,e⟩
 | set S n=>obtain ⟨o,_,_,_,e,_⟩:=x;exact ⟨_,e⟩
 | ins C dx fs=>obtain ⟨_,_,_,e,_⟩:=x;exact ⟨_,e⟩
 | own y=>obtain ⟨_,e⟩:=x;exact ⟨_,e⟩
 | xd fs=>obtain ⟨_,⟨_,_,_,e,_⟩,_⟩:=x;exact ⟨_,e⟩
 | rng lo hi=>obtain ⟨_,_,_,e⟩:=x;exact ⟨_,e⟩
 | frz ob u=>obtain ⟨e,_⟩:=x;exact ⟨_,e⟩
 | tbl ps=>exact ⟨_,(show h.get? a=some _ from x)⟩
 | met f y=>exact ⟨_,(show h.get? a=some _ from x)⟩
 | ext φ=>obtain ⟨_,⟨_,e⟩,_⟩:=x;exact ⟨_,e⟩
section
variable {M:Model} {A:An} {E:A3} {s:Am}
def XL {env:Env} {outer:List Env} {L e:Addr} {vs:Ac} {head:Al} {hadNext:Bool}
  (hfr:A.frames=some (env :: outer)) (hl:s.heap.FunFrames base (env :: outer)) (hf:env.frame=some L) (he:s.heap.get? e=some oe) (hd:oe.data=.fields vs) (hsz:1 < vs.size)
  (h:∀ h' T,(∀ b o,b ∉ (env :: outer).filterMap (·.frame)->b≠e->s.heap.get? b=some o->h'.get? b=some o)->(∀ b o,b≠e->s.heap.get? b=some o->∃ sl,h'.get? b=some { o with slots:=sl }) ->
   s.heap.get? T=none->T≠e->h'.get? e=some (oe.mapFields (·.setIfInBounds 1 (.ref T)))->(∃ oT ts,h'.get? T=some oT/\oT.data=.fields ts/\ts[3]?=some .none)->Q () { s with heap:=h' }) :
  wpAny M A (do let a <- frameOf env;let pl <- entryPlaceOf L hadNext;let b <- EntryCells.newEntry head a .none (rawInt L) .none pl;setField (.ref e) 1 b) (λ _ s'=>wpAny M A (setFlight (.ref e) none) Q E s') E s:=by
 have hene:e ∉ (env :: outer).filterMap (·.frame):=λ hm=>by
  obtain ⟨_,o,ho,hnf⟩:=hl.mem hm;rw [he] at ho;injection ho with ho;subst ho;exact hnf vs hd
 refine af (wpAny_frameOf_fun hfr hl hf λ h₁ hs₁=>?_);refine af (wpAny_entryPlaceOf λ pl hpl=>?_);unfold EntryCells.newEntry newFields;refine af (wpAny_newObj_type ?_ (hpl.sizeOk5 _ _ _ _ _));have he₁:h₁.get? e=some oe:=(hs₁.2.1 e hene).trans he;have he₂:=aj (h:=h₁) { cls:=.type "traceback",dict:=none,data:=.fields ([head,.ref L,.none,rawInt L,.none] ++ (if pl.isEmpty then List.replicate 6 Value.none else pl)).toArray } he₁;refine eX he₂ hd hsz ?_;have hTe:h₁.objs.size≠e:=cU (av he₁);have hd₃:=bT hd (·.setIfInBounds 1 (Value.ref h₁.objs.size));have he₃:=bh (Obj.mapFields (·.setIfInBounds 1 (Value.ref h₁.objs.size))) he₂ (cT hd₃);have hT₃:=(a9 (h₁.push { cls:=.type "traceback",dict:=none,data:=.fields ([head,.ref L,.none,rawInt L,.none] ++ (if pl.isEmpty then List.replicate 6 Value.none else pl)).toArray })
  (Obj.mapFields (·.setIfInBounds 1 (Value.ref h₁.objs.size))) (aZ hTe)).trans (aJ h₁ rfl)
 unfold setFlight;refine af (eI he₃ hd₃ (x:=.ref h₁.objs.size) (by simp [hsz]) ?_);rw [aA (show (Value.ref h₁.objs.size != Value.none)=true from by simp)];refine eX hT₃ rfl (by simp only [ar,aM,bg,c9] <;> lia) ?_;have keep:∀ b o,b≠e->h₁.get? b=some o ->
   (((h₁.push { cls:=.type "traceback",dict:=none,data:=.fields ([head,.ref L,.none,rawInt L,.none] ++ (if pl.isEmpty then List.replicate 6 Value.none else pl)).toArray }).update e (Obj.mapFields (·.setIfInBounds 1 (Value.ref h₁.objs.size)))).update h₁.objs.size
    (Obj.mapFields (·.setIfInBounds 3 ((none:Aa).elim Value.none λ f=>rawInt f)))).get? b=some o:=λ b o hbe hb=>by
  have hbT:h₁.objs.size≠b:=cU (av hb);rw [a9 _ _ hbT,a9 _ _ (aZ hbe)];exact aj _ hb
 refine h _ h₁.objs.size (λ b o hb hbe q=>keep b o hbe ((hs₁.2.1 b hb).trans q)) (λ b o hbe q=>?_) (Heap.get?_none_of_le (by rw [hs₁.1];exact ap _)) hTe ?_ ?_
 ·obtain ⟨sl,hs⟩:=hs₁.2.2 b o q;exact ⟨sl,keep b _ hbe hs⟩
 ·rw [a9 _ _ hTe];exact he₃
 ·exact ⟨_,_,bh _ hT₃ (cT (bT rfl _)),bT rfl _,by first|(simp;done)|(rcases hpl with rfl|⟨_,_,_,_,_,_,_,rfl⟩ <;> simp)⟩
def Xx {env:Env} {outer:List Env} {L e:Addr} {vs:Ac} {ch:Ab}
  (hfr:A.frames=some (env :: outer)) (hl:s.heap.FunFrames base (env :: outer)) (hf:env.frame=some L) (he:s.heap.get? e=some oe) (hd:oe.data=.fields vs)
  (h1:(vs[1]?=some .none/\ch=[e])\/∃ T oT ts,vs[1]?=some (.ref T)/\T≠e/\s.heap.get? T=some oT/\oT.data=.fields ts/\ts[3]?=some .none/\ch=[e,T])
  (h:∀ h' T,(∀ b o,b ∉ (env :: outer).filterMap (·.frame)->b ∉ ch->s.heap.get? b=some o->h'.get? b=some o)->(∀ b o,b ∉ ch->s.heap.get? b=some o->∃ sl,h'.get? b=some { o with slots:=sl }) ->
   (∀ b∈ch,∃ o,h'.get? b=some o)->s.heap.get? T=none->T≠e->h'.get? e=some (oe.mapFields (·.setIfInBounds 1 (.ref T)))->(∃ oT ts,h'.get? T=some oT/\oT.data=.fields ts/\ts[3]?=some .none)->Q () { s with heap:=h' }) :
  wpAny M A (noteFrame (.ref e) env) (λ _ s'=>wpAny M A (setFlight (.ref e) none) Q E s') E s:=by
 rcases h1 with ⟨h1,rfl⟩|⟨T,oT,ts,h1,hTe,hT,hdT,h3,rfl⟩
 ·unfold noteFrame;simp only [hf];refine af (eI he hd h1 ?_);rw [aq (by decide)];refine XL hfr hl hf he hd (be.mp h1).1 λ h' T k1 k2 k3 k4 k5 k6=>?_;refine h h' T (λ b o hb hc q=>k1 b o hb (λ z=>hc (by simp [z])) q) (λ b o hc q=>k2 b o (λ z=>hc (by simp [z])) q) (λ b hb=>?_) k3 k4 k5 k6;obtain rfl:b=e:=by simpa using hb
  exact ⟨_,k5⟩
 ·unfold noteFrame;simp only [hf];refine af (eI he hd h1 ?_);rw [aA (show (Value.ref T != Value.none)=true from by simp)];refine af (eI hT hdT h3 ?_);rw [aq (show ¬ ((Value.none == rawInt L)=true) from by simp [rawInt])];refine af (eX hT hdT (be.mp h3).1 ?_);have other:∀ b,b≠T->(s.heap.update T (Obj.mapFields (·.setIfInBounds 3 Value.none))).get? b=s.heap.get? b:=λ b hb=>a9 _ _ (aZ hb);have noRecord:∀ b o,s.heap.get? b=some o->(∀ vs,o.data≠.fields vs)->b≠T:=λ b o hb hnf q=>by
   rw [q,hT] at hb;injection hb with hb;subst hb;exact hnf ts hdT
  have hT':=bh (Obj.mapFields (·.setIfInBounds 3 Value.none)) hT (cT (bT hdT _));refine XL hfr (hl.of_keeps λ b o hb hnf=>⟨o,(other b (noRecord b o hb hnf)).trans hb,rfl⟩) hf ((other e (aZ hTe)).trans he) hd (be.mp h1).1 λ h' T' k1 k2 k3 k4 k5 k6=>?_;have hTT:T'≠T:=λ z=>by rw [z,hT'] at k3;cases k3
  refine h h' T' (λ b o hb hc q=>k1 b o hb (λ z=>hc (by simp [z])) ((other b (λ z=>hc (by simp [z]))).trans q)) (λ b o hc q=>k2 b o (λ z=>hc (by simp [z])) ((other b (λ z=>hc (by simp [z]))).trans q)) (λ b hb=>?_) ((other T' hTT).symm.trans k3) k4 k5 k6;rcases az.mp hb with rfl|hb
  ·exact ⟨_,k5⟩
  ·obtain rfl:b=T:=by simpa using hb
   obtain ⟨sl,q⟩:=k2 b _ hTe hT';exact ⟨_,q⟩
end
section
variable {X:Cx} {l8:A2} {σ:List Ap} {H:Hp} {s:Am} {h':Heap}
def Inv.stepx {ch:Ab} (I:Inv X l8 σ H s)
  (hch:∀ b∈ch,X.s₀.heap.get? b=none/\H b=none/\∀ p∈X.pn ++ l8,p.1≠b) (hrec:∀ b∈ch,∃ o vs,s.heap.get? b=some o/\o.data=.fields vs)
  (keep:∀ b o,b ∉ frs X.stack->b ∉ ch->s.heap.get? b=some o->h'.get? b=some o)
  (slot:∀ b o,b ∉ ch->s.heap.get? b=some o->∃ sl,h'.get? b=some { o with slots:=sl }) (there:∀ b∈ch,∃ o,h'.get? b=some o):Inv X l8 σ H { s with heap:=h' }:=by
 have neL:∀ b∈ch,b≠X.env.locals:=λ b hb z=>by
  obtain ⟨o,vs,ho,hd⟩:=hrec b hb;obtain ⟨m,⟨o',es,ep,ho',hd',_⟩,_⟩:=I.loc;rw [z,ho'] at ho;cases ho;rw [hd'] at hd;cases hd
 have neC:∀ b∈ch,∀ x c,X.env.cells.lookup x=some c->c≠b:=λ b hb x c e z=>by
  obtain ⟨o,vs,ho,hd⟩:=hrec b hb;obtain ⟨v,o',ho',hd'⟩:=I.cell x c e;rw [z,ho] at ho';cases ho';rw [hd] at hd';cases hd'
 have nch:∀ b o,X.s₀.heap.get? b=some o->b ∉ ch:=λ b o e hb=>by rw [(hch b hb).1] at e;cases e
 have trk:∀ b u,H b=some u->b ∉ ch/\b ∉ frs X.stack:=λ b u e=>⟨(λ hb=>by rw [(hch b hb).2.1] at e;cases e),(λ hb=>by rw [I.stkFree b hb] at e;cases e)⟩;have nfs:∀ b,b ∉ X.fs->b≠X.env.locals->b ∉ frs X.stack:=λ b h1 h2 z=>(az.mp (I.stkSub b z)).elim h2 h1;have ltL:∀ b o,X.s₀.heap.get? b=some o->b≠X.env.locals:=λ b o e=>aI (aG (av e) I.ok.above);have cellK:∀ x c,X.env.cells.lookup x=some c->∀ v,s.heap.IsCell c v->h'.IsCell c v:=λ x c e v ⟨o,ho,hd⟩=>by
  obtain ⟨sl,q⟩:=slot c o (λ z=>neC c z x c e rfl) ho;exact ⟨_,q,hd⟩
 have hok:HOk X.prog X.w H h':=λ b u e=>(I.hok b u e).stay (λ c v hc q=>by
  have hcH:∃ u',H c=some u':=by
   rcases hc with rfl|z
   ·exact ⟨_,e⟩
   ·exact ⟨_,z⟩
  obtain ⟨u',hu⟩:=hcH;exact keep c v (trk c u' hu).2 (trk c u' hu).1 q) (λ _ q=>q) λ _ _ q=>q
 refine ⟨I.ok,I.os,I.bare,⟨λ b o e n hb hx=>?_,λ b o e n hb hx=>?_,I.base.free,λ b o e hx=>?_,I.base.tups,I.base.frzs,I.base.tbls⟩,?_,λ x c e=>?_,I.free,I.freeC,λ p hp=>?_,hok,I.len⟩
 ·exact keep b o (nfs b hb (ltL b o e)) (nch b o e) (I.base.keep b o e n hb hx)
 ·obtain ⟨sl,e1⟩:=I.base.slot b o e n hb hx;obtain ⟨sl',e2⟩:=slot b _ (nch b o e) e1;exact ⟨sl',e2⟩
 ·obtain ⟨o',e1⟩:=I.base.there b o e hx;obtain ⟨sl',e2⟩:=slot b _ (nch b o e) e1;exact ⟨_,e2⟩
 ·obtain ⟨m,⟨o,es,ep,ho,r⟩,hl⟩:=I.loc;obtain ⟨sl,q⟩:=slot _ o (λ z=>neL _ z rfl) ho;refine ⟨m,⟨_,es,ep,q,r⟩,λ i x v e1 e2 e3=>?_⟩;obtain ⟨u,r',l⟩:=hl i x v e1 e2 e3;refine ⟨u,r',?_⟩;rcases l with l|⟨k,c,e,z⟩
  ·exact .inl l
  ·exact .inr ⟨k,c,e,cellK x c e _ z⟩
 ·obtain ⟨v,z⟩:=I.cell x c e;exact ⟨v,cellK x c e v z⟩
 ·obtain ⟨e,n,ne,nf,d⟩:=I.pin p hp;exact ⟨keep p.1 p.2 (nfs _ nf ne) (λ z=>(hch p.1 z).2.2 p hp rfl) e,n,ne,nf,d⟩
theorem Xy {a:Addr} {vs:Ac} {E:A3} (I:Inv X l8 σ H s) (hst:X.stack=X.env :: X.outer) (hfr:X.env.frame=some X.env.locals) (hex:X.ex=[])
  (he:s.heap.get? a=some oe) (hdict:oe.dict=none) (hd:oe.data=.fields vs) (ga:X.s₀.heap.get? a=none) (Ha:H a=none) (hpa:∀ p∈X.pn ++ l8,p.1≠a)
  (h1:vs[1]?=some .none\/∃ T oT ts,vs[1]?=some (.ref T)/\T≠a/\s.heap.get? T=some oT/\oT.data=.fields ts/\ts[3]?=some .none/\X.s₀.heap.get? T=none/\H T=none/\∀ p∈X.pn ++ l8,p.1≠T)
  (hQ:∀ s',Inv X l8 σ H s'->Exc X.s₀.heap s'.heap H (X.pn ++ l8) a oe.cls->Q () s') :
  wpAny (model X.prog X.w) X.A (noteFrame (.ref a) X.env) (λ _ s'=>wpAny (model X.prog X.w) X.A (setFlight (.ref a) none) Q E s') E s:=by
 have hfs:=I.ok.frames;have hFF:=I.stack;rw [hst] at hfs hFF;have hS:frs X.stack=(X.env :: X.outer).filterMap (·.frame):=by rw [hst];rfl
 have fin:∀ (ch:Ab),(∀ b∈ch,X.s₀.heap.get? b=none/\H b=none/\∀ p∈X.pn ++ l8,p.1≠b)->(∀ b∈ch,∃ o vs,s.heap.get? b=some o/\o.data=.fields vs)->a∈ch ->
   ∀ h' T,(∀ b o,b ∉ (X.env :: X.outer).filterMap (·.frame)->b ∉ ch->s.heap.get? b=some o->h'.get? b=some o)->(∀ b o,b ∉ ch->s.heap.get? b=some o->∃ sl,h'.get? b=some { o with slots:=sl }) ->
   (∀ b∈ch,∃ o,h'.get? b=some o)->s.heap.get? T=none->T≠a->h'.get? a=some (oe.mapFields (·.setIfInBounds 1 (.ref T)))->(∃ oT ts,h'.get? T=some oT/\oT.data=.fields ts/\ts[3]?=some .none)->Q () { s with heap:=h' }:=by
  intro ch hch hrec ha h' T k1 k2 k3 k4 k5 k6 k7;have I':=I.stepx (h':=h') hch hrec (λ b o hb hc q=>k1 b o (by rw [<- hS];exact hb) hc q) k2 k3;refine hQ _ I' ⟨?_,ga,Ha,hpa⟩;obtain ⟨oT,ts,q1,q2,q3⟩:=k7;have hsz:1 < vs.size:=by
   rcases h1 with z|⟨_,_,_,z,_⟩ <;> exact (be.mp z).1
  refine ⟨_,_,T,oT,ts,k6,Obj.cls_mapFields _ _,by obtain ⟨c,d,dt,sl⟩:=oe;cases dt <;> exact hdict,bT hd _,by simp [hsz],k5,q1,q2,q3,?_,?_,λ p hp z=>?_⟩
  ·cases e:X.s₀.heap.get? T with
   | none=>rfl
   | some o =>
    obtain ⟨o',e'⟩:=I.base.there T o e (by rw [hex];simp);rw [k4] at e';cases e'
  ·cases e:H T with
   | none=>rfl
   | some u =>
    obtain ⟨o',e'⟩:=(I.hok T u e).there;rw [k4] at e';cases e'
  ·have:=(I.pin p hp).1;rw [z,k4] at this;cases this
 rcases h1 with h1|⟨T,oT,ts,h1,hTa,hT,hdT,h3,gT,HT,pT⟩
 ·refine Xx (ch:=[a]) hfs hFF hfr he hd (.inl ⟨h1,rfl⟩) (fin [a] (λ b hb=>?_) (λ b hb=>?_) (by simp))
  ·obtain rfl:b=a:=by simpa using hb
   exact ⟨ga,Ha,hpa⟩
  ·obtain rfl:b=a:=by simpa using hb
   exact ⟨oe,vs,he,hd⟩
 ·refine Xx (ch:=[a,T]) hfs hFF hfr he hd (.inr ⟨T,oT,ts,h1,hTa,hT,hdT,h3,rfl⟩) (fin [a,T] (λ b hb=>?_) (λ b hb=>?_) (by simp))
  ·rcases az.mp hb with rfl|hb
   ·exact ⟨ga,Ha,hpa⟩
   ·obtain rfl:b=T:=by simpa using hb
    exact ⟨gT,HT,pT⟩
  ·rcases az.mp hb with rfl|hb
   ·exact ⟨oe,vs,he,hd⟩
   ·obtain rfl:b=T:=by simpa using hb
    exact ⟨oT,ts,hT,hdT⟩
end
def JG (X:Cx) (G:GK) (e:Al) (s:Am):Prop:=∃ a cls σ H,e=Value.ref a/\Inv X [] σ H s/\Exc X.s₀.heap s.heap H X.pn a cls/\G cls σ H
def xeG (X:Cx) (G:GK) (e:Al) (s:Am):Prop:=wpAny (model X.prog X.w) X.A (noteFrame e X.env) (λ _ s'=>wpAny (model X.prog X.w) X.A (setFlight e none) (λ _ s''=>JG X G e s'') (λ _ _=>False) s') (λ _ _=>False) s
noncomputable abbrev Cx.exg (X:Cx) (G:GK):Cx:=X.wish (xeG X G)
structure Bod (X:Cx):Prop where
 st:X.stack=X.env :: X.outer
 fr:X.env.frame=some X.env.locals
 ex:X.ex=[]
def qS {X:Cx} {G:GK}:PassesOwn (model X.prog X.w) X.A X.env (xeG X G):=PassesOwn.looking
def Inv.nopins {X:Cx} {σ:St} (I:Inv X l8 σ H s):Inv X [] σ H s:=I.pins_of λ p hp=>absurd hp (by simp)
def Exc.less {g h:Heap} {pn pn':A2} {a:Addr} (x:Exc g h H pn a cls) (hp:∀ p∈pn',p∈pn):Exc g h H pn' a cls:=by
 obtain ⟨⟨oe,vs,T,oT,ts,h1,h2,h3,h4,h5,h6,h7,h8,h9,h10,h11,h12⟩,ga,Ha,pa⟩:=x;exact ⟨⟨oe,vs,T,oT,ts,h1,h2,h3,h4,h5,h6,h7,h8,h9,h10,h11,λ p q=>h12 p (hp p q)⟩,ga,Ha,λ p q=>pa p (hp p q)⟩
def CXr (P:Af) (w:World):CXT:=λ outer H s E e s'=>∃ a cls H',e=Value.ref a/\s'.os=s.os/\AllBare s'.gens/\Un (frs outer) [] H H' s.heap s'.heap/\HOk P w H' s'.heap /\
 Exc s.heap s'.heap H' [] a cls/\E cls none H'
section
variable {X:Cx} {l8:A2} {σ:St} {H:Hp} {s:Am} {G:GK}
def Z3 {e:Al} {s':Am} (B:Bod X) (I:Inv X l8 σ H s) (h:CXr X.prog X.w X.stack H s (λ cls _ H'=>G cls σ H') e s'):xeG X G e s':=by
 obtain ⟨a,cls,H',rfl,os,bare,un,hok,⟨⟨oe,vs,T,oT,ts,h1,h2,h3,h4,h5,h6,h7,h8,h9,h10,h11,_⟩,ga,Ha,_⟩,hG⟩:=h;have I':Inv X l8 σ H' s':=I.call' os un hok bare (λ b z=>absurd z (by simp));have old:∀ b,s.heap.get? b=none->X.s₀.heap.get? b=none:=λ b hb=>by
  cases e:X.s₀.heap.get? b with
  | none=>rfl
  | some o =>
   obtain ⟨o',e'⟩:=I.base.there b o e (by rw [B.ex];simp);rw [hb] at e';cases e'
 have pin:∀ b,s.heap.get? b=none->∀ p∈X.pn ++ l8,p.1≠b:=λ b hb p hp z=>by
  have:=(I.pin p hp).1;rw [z,hb] at this;cases this
 refine Xy I' B.st B.fr B.ex h1 h3 h4 (old a ga) Ha (pin a ga) (.inr ⟨T,oT,ts,h5,h6,h7,h8,h9,old T h10,h11,pin T h10⟩) λ s'' I2 x=>?_;exact ⟨a,oe.cls,σ,H',rfl,I2.nopins,x.less λ p hp=>bj _ hp,h2 ▸ hG⟩
def V9 {a:Addr} {args:A7} {h':Heap} (B:Bod X) (I:Inv X l8 σ H s) (hm:Heap.MadeExcOf s.heap h' a cls args) (hG:G cls σ H):xeG X G (.ref a) { s with heap:=h' }:=by
 obtain ⟨t,h1,h2,h3⟩:=hm.there;have I':Inv X l8 σ H { s with heap:=h' }:=I.kept (t':=s.toks) hm.keeps;have ga:X.s₀.heap.get? a=none:=by
  cases e:X.s₀.heap.get? a with
  | none=>rfl
  | some o =>
   obtain ⟨o',e'⟩:=I.base.there a o e (by rw [B.ex];simp);rw [hm.new] at e';cases e'
 have Ha:H a=none:=by
  cases e:H a with
  | none=>rfl
  | some u =>
   obtain ⟨o',e'⟩:=(I.hok a u e).there;rw [hm.new] at e';cases e'
 refine Xy (s:={ s with heap:=h' }) I' B.st B.fr B.ex h1 rfl rfl ga Ha (λ p hp z=>?_) (.inl rfl) λ s'' I2 x=>?_
 ·have:=(I.pin p hp).1;rw [z,hm.new] at this;cases this
 ·exact ⟨a,cls,σ,H,rfl,I2.nopins,x.less λ p hp=>bj _ hp,hG⟩
end
section
variable {P:Af} {w:World} {K:A0} {mg:A4} {base:Heap}
noncomputable abbrev cxR (P:Af) (w:World) (K:A0) (mg:A4) (base:Heap) (N:A8) (qual:Str) (scope:Scope) (f:Addr) (cd:Al) (A:An) (outer:List Env) (s:Am) (H:Hp) (E:XK):Cx :=
 Zq (CXr P w) P w K mg base N qual scope f cd A outer s H E
def Fun.okx {x qual:Str} {st:Stmt} {f:Addr} {fd:FuncData} {N ps:A8} {k:Nat} (F:Fun K x qual st f fd) (S:FnScope N ps (ze st)) (len:∀ vs H Q E,sp vs H Q E->vs.length=ps.length)
  (hbody:∀ (cdv:Al) (A:An) (outer:List Env) (s:Am) (H:Hp) (vs:Ao) (Q:VK) (E:XK),Room k (A.deeper (envOfC qual (ze st) s.heap.objs.size f cdv))->sp vs H Q E ->
   ∃ t,PSs ((cxR P w K mg base N qual (ze st) f cdv A outer s H E).exg λ cls _ H'=>E cls none H') (zI st) t/\t { nx:=λ _ H'=>Q .non H',rt:=Q } (start N vs) H):FnOk P w K mg base (CXr P w) (k + 1) f fd ps sp:=by
 obtain ⟨oc,od,kV,doc,pm,an,cdv,ct,osl,rfl,lk,hcd⟩:=F.ex;refine zdX lk hcd S len λ A outer s H vs Q E hr hsp=>?_;obtain ⟨t,h,q⟩:=hbody cdv A outer s H vs Q E hr hsp;refine ⟨t,λ l8 s σ H' D I hw=>?_,q⟩;refine aQ (h l8 s σ H' D (I.wish _) hw) (λ _ _ z=>z.unwish) λ e s' z=>?_;refine af (aQ (show wpAny _ _ _ _ _ _ from z) (λ _ s1 y1=>aQ y1 (λ _ s'' y=>?_) λ _ _ y=>y.elim) λ _ _ y=>y.elim);obtain ⟨a,cls,σ2,H2,rfl,J,xx,g⟩:=y;exact ⟨a,cls,H2,rfl,J.os,J.bare,J.base,J.hok,xx.less (λ p hp=>absurd hp (by simp)),g⟩
end
structure Cal (P:Af) (w:World) (K:A0) (mg:A4) (base:Heap) (x:Str) (k:Nat) (ps:A8) (dvs:Ao) (sp:Sp):Prop where
 ex:∃ f fd ds,FnOk P w K mg base (CXr P w) k f fd ps sp/\mg x=some (.ref f)/\keepIn K (.ref f)=true/\Binds K fd ps ds/\Vals dvs ds
structure MCal (P:Af) (w:World) (K:A0) (mg:A4) (base:Heap) (C:Addr) (m:Str) (k:Nat) (ps:A8) (dvs:Ao) (sp:Sp):Prop where
 cl:Cls K C
 ex:∃ f fd ds,FnOk P w K mg base (CXr P w) k f fd ps sp/\Meth K C m f/\Binds K fd ps ds/\Vals dvs ds
structure KCal (P:Af) (w:World) (K:A0) (mg:A4) (base:Heap) (x:Str) (C:Addr) (k:Nat) (ps:A8) (dvs:Ao) (sp:Sp):Prop where
 gl:mg x=some (.ref C)
 ex:∃ f fd ds,FnOk P w K mg base (CXr P w) k f fd ps sp/\Mk K C f/\Binds K fd ps ds/\Vals dvs ds
def Cal.mono {j k:Nat} {dvs:Ao} (c:Cal P w K mg base x j ps dvs sp) (h:j<=k:=by decide):Cal P w K mg base x k ps dvs sp:=by
 obtain ⟨f,fd,ds,a,b⟩:=c.ex;exact ⟨f,fd,ds,a.mono h,b⟩
def MCal.mono {C:Addr} {m:Str} {j k:Nat} {dvs:Ao} (c:MCal P w K mg base C m j ps dvs sp) (h:j<=k:=by decide):MCal P w K mg base C m k ps dvs sp:=by
 obtain ⟨f,fd,ds,a,b⟩:=c.ex;exact ⟨c.cl,f,fd,ds,a.mono h,b⟩
def KCal.mono {C:Addr} {j k:Nat} {dvs:Ao} (c:KCal P w K mg base x C j ps dvs sp) (h:j<=k:=by decide):KCal P w K mg base x C k ps dvs sp:=by
 obtain ⟨f,fd,ds,a,b⟩:=c.ex;exact ⟨c.gl,f,fd,ds,a.mono h,b⟩
section
variable {X:Cx} {G:GK} {k:Nat} {f C:Addr} {fd:FuncData} {ps:A8} {sp:Sp} {dvs:Ao} {ds:A7} {x m:Str} {p pos apos:Pos} {e o:Expr} {es:List Expr} {ta:TE} {t:TA}
theorem Qy {σ:St} {Q:VK} {us:A7} {vs:Ao} (B:Bod X) (F:FnOk X.prog X.w X.K X.mg X.base (CXr X.prog X.w) k f fd ps sp) (hr:Room k X.A) (hb:Binds X.K fd ps ds) (hd:Vals dvs ds)
  (I:Inv (X.exg G) l8 σ H s) (r:Vals vs us) (h:sp (vs ++ dvs) H Q (λ cls _ H'=>G cls σ H')):wpAny (model X.prog X.w) X.A (call (.ref f) us) (EP (X.exg G) l8 σ Q) (xeG X G) s:=by
 have r2:Vals (vs ++ dvs) (us ++ ds):=r.append hd;have hl:(us ++ ds).length=ps.length:=by rw [<- r2.length];exact F.len _ _ _ _ h
 refine dE (b9 (F.run X.A X.stack s H ⟨us,[]⟩ (us ++ ds) (vs ++ dvs) Q _ hr I.unwish.env0 (hb s us I.kIn hl) r2 h) λ r s' hq=>?_);cases r with
 | error e=>exact Z3 B I.unwish hq
 | ok fl =>
  cases fl with
  | ret u=>exact I.after hq
  | next=>exact False.elim hq
  | brk=>exact False.elim hq
  | cont=>exact False.elim hq
theorem zcd {σ:St} {Q:VK} {us:A7} {vs:Ao} (B:Bod X) (M:Mk X.K C f) (F:FnOk X.prog X.w X.K X.mg X.base (CXr X.prog X.w) k f fd ps sp) (hr:Room (k + 1) X.A) (hb:Binds X.K fd ps ds) (hd:Vals dvs ds)
  (I:Inv (X.exg G) l8 σ H s) (r:Vals vs us)
  (h:∀ x dx,H x=none->H dx=none->dx≠x->sp (.ref x :: (vs ++ dvs)) (upd (upd H dx (.own x)) x (.ins C dx [])) (λ v H2=>v=.non/\Q (.ref x) H2) (λ cls _ H'=>G cls σ H')) :
  wpAny (model X.prog X.w) X.A (call (.ref C) us) (EP (X.exg G) l8 σ Q) (xeG X G) s:=by
 have hq:=h (s.heap.objs.size + 1) s.heap.objs.size (I.hok.fresh (bZ _)) (I.hok.fresh (ap _)) (aI (db _));have I2:=Inv.made (C:=C) I;have r2:Vals (V.ref (s.heap.objs.size + 1) :: (vs ++ dvs)) (Value.ref (s.heap.objs.size + 1) :: (us ++ ds)):=.cons rfl (r.append hd);have hl:(Value.ref (s.heap.objs.size + 1) :: us ++ ds).length=ps.length:=by
  have e:=r2.length;rw [F.len _ _ _ _ hq] at e;exact e.symm
 refine dE (VI (f:=f) I.kIn M.makes M.init (bD.mp M.fn) (b9 (F.run _ X.stack _ _ ⟨Value.ref (s.heap.objs.size + 1) :: us,[]⟩ (Value.ref (s.heap.objs.size + 1) :: (us ++ ds)) _ _ _ (hr.make C us [])
  (I2.unwish.env0.make C us []) (hb _ (Value.ref (s.heap.objs.size + 1) :: us) I2.kIn hl) r2 hq) λ r s' hq'=>?_))
 cases r with
 | error e=>exact Z3 B I2.unwish hq'
 | ok fl =>
  cases fl with
  | ret u =>
   obtain ⟨v,H',I3,rv,ev,q3⟩:=I2.after hq';subst ev;exact ⟨rv,⟨V.ref (s.heap.objs.size + 1),H',I3,rfl,q3⟩⟩
  | next=>exact False.elim hq'
  | brk=>exact False.elim hq'
  | cont=>exact False.elim hq'
def tCl (X:Cx) (k:Nat) (x:Str) (G:GK) (t:TA):TE:=λ σ H Q=>∃ ps dvs sp,Cal X.prog X.w X.K X.mg X.base x k ps dvs sp/\t σ H λ vs H1=>sp (vs ++ dvs) H1 Q (λ cls _ H'=>G cls σ H')
def zv (B:Bod X) (hr:Room k X.A) (ha:PA (X.exg G) (e :: es) t) (hg:Gl X x:=by rfl) (hdb:(x == ("__debug__":Str))=false:=by decide)
  (he:starEach (e :: es) X.env=(false,eval e X.env) :: starEach es X.env:=by rfl) (hpl:(backTo pos (starEach es X.env)).any (·.1)=false:=by rfl) :
  PE (X.exg G) (.Call (.Name x p) (e :: es) [] pos) (tCl X k x G t):=by
 intro l8 s σ H Q I h;obtain ⟨ps,dvs,sp,⟨f,fd,ds,F,hm,hk,hb,hd⟩,h⟩:=h;refine bI (jw I hg hm ?_ hdb);refine dh (h₀:=X.base) I.ok.mod.kin hk (we (ha pos l8 s σ H _ I h) λ us s1 vs H1 I1 r q=>⟨I1.kIn,?_⟩) he hpl;exact Qy B F hr hb hd I1 r q
def tMk (X:Cx) (k:Nat) (x:Str) (G:GK) (t:TA):TE:=λ σ H Q=>∃ C ps dvs sp,KCal X.prog X.w X.K X.mg X.base x C k ps dvs sp/\t σ H λ vs H1=>∀ y dx,H1 y=none->H1 dx=none->dx≠y ->
 sp (.ref y :: (vs ++ dvs)) (upd (upd H1 dx (.own y)) y (.ins C dx [])) (λ v H2=>v=.non/\Q (.ref y) H2) (λ cls _ H'=>G cls σ H')
def qh (B:Bod X) (hr:Room (k + 1) X.A) (ha:PA (X.exg G) (e :: es) t) (hg:Gl X x:=by rfl) (hdb:(x == ("__debug__":Str))=false:=by decide)
  (he:starEach (e :: es) X.env=(false,eval e X.env) :: starEach es X.env:=by rfl) (hpl:(backTo pos (starEach es X.env)).any (·.1)=false:=by rfl) :
  PE (X.exg G) (.Call (.Name x p) (e :: es) [] pos) (tMk X k x G t):=by
 intro l8 s σ H Q I h;obtain ⟨C,ps,dvs,sp,⟨hm,f,fd,ds,F,M,hb,hd⟩,h⟩:=h;refine bI (jw I hg hm ?_ hdb);refine dh (h₀:=X.base) I.ok.mod.kin M.kp (we (ha pos l8 s σ H _ I h) λ us s1 vs H1 I1 r q=>⟨I1.kIn,?_⟩) he hpl;exact zcd B M F hr hb hd I1 r q
def tMth (X:Cx) (k:Nat) (m:Str) (G:GK) (ta:TE) (t:TA):TE:=λ σ H Q=>ta σ H λ y H1=>∃ a C dx fs ps dvs sp,y=.ref a/\H1 a=some (.ins C dx fs)/\fs.lookup m=none /\
 MCal X.prog X.w X.K X.mg X.base C m k ps dvs sp/\t σ H1 λ vs H2=>sp (.ref a :: (vs ++ dvs)) H2 Q (λ cls _ H'=>G cls σ H')
def zdm {pl:Sem Bool} (B:Bod X) (hr:Room k X.A) (he:PE (X.exg G) o ta) (ha:PA (X.exg G) (e :: es) t)
  (hst:starEach (e :: es) X.env=(false,eval e X.env) :: starEach es X.env:=by rfl) (hpl:(backTo pos (starEach es X.env)).any (·.1)=false:=by rfl)
  (ht:eval (.Call (.Attribute o m apos) (e :: es) [] pos) X.env=(do
   let ov <- eval o X.env
   standAt apos.atName
   let (f,first) <- holding [ov] (getMethod ov m pl)
   callWith pos f first (backTo pos (starEach (e :: es) X.env)) (backToKw pos (keywordEach [] X.env))):=by rfl) :
  PE (X.exg G) (.Call (.Attribute o m apos) (e :: es) [] pos) (tMth X k m G ta t):=by
 intro l8 s σ H Q I h;refine ee (pl:=pl) (thn (he l8 s σ H _ I h) λ u s1 hz=>?_) ht;obtain ⟨x,H1,I1,rx,a,C,dx,fs,ps,dvs,sp,ex,ea,l,⟨c,f,fd,ds,F,hm,hb,hd⟩,q⟩:=hz;subst ex;obtain rfl:u=Value.ref a:=rx;refine vN I1 ea c hm l ?_;refine dh (first:=[.ref a]) (h₀:=X.base) I.ok.mod.kin hm.kp (we (ha pos l8 s1 σ H1 _ I1 q) λ us s2 vs H2 I2 r q2=>⟨I2.kIn,?_⟩) hst hpl;exact Qy (us:=.ref a :: us) (vs:=.ref a :: vs) B F hr hb hd I2 (.cons rfl r) q2
def Qz {pl:Sem Bool} (B:Bod X) (hr:Room k X.A) (he:PE (X.exg G) o ta)
  (ht:eval (.Call (.Attribute o m apos) [] [] pos) X.env=(do
   let ov <- eval o X.env
   standAt apos.atName
   let (f,first) <- holding [ov] (getMethod ov m pl)
   callWith pos f first (backTo pos (starEach [] X.env)) (backToKw pos (keywordEach [] X.env))):=by rfl) :
  PE (X.exg G) (.Call (.Attribute o m apos) [] [] pos) (tMth X k m G ta tNil):=by
 intro l8 s σ H Q I h;refine ee (pl:=pl) (thn (he l8 s σ H _ I h) λ u s1 hz=>?_) ht;obtain ⟨x,H1,I1,rx,a,C,dx,fs,ps,dvs,sp,ex,ea,l,⟨c,f,fd,ds,F,hm,hb,hd⟩,q⟩:=hz;subst ex;obtain rfl:u=Value.ref a:=rx;refine vN I1 ea c hm l ?_;exact fj (first:=[.ref a]) I1.kIn hm.kp (Qy (us:=[.ref a]) (vs:=[.ref a]) B F hr hb hd I1 (.cons rfl .nil) q)
def tGl (X:Cx) (x:Str):TE:=λ _ H Q=>∃ v u,X.mg x=some u/\RelV v u/\Q v H
def qC (hg:Gl X x:=by rfl) (hd:(x == ("__debug__":Str))=false:=by decide):PE X (.Name x pos) (tGl X x):=λ _ _ _ H _ I h=>by
 obtain ⟨v,u,hm,r,h⟩:=h;exact jw I hg hm ⟨v,H,I,r,h⟩ hd
def tBl (X:Cx) (x:Str) (v:V):TE:=λ _ H Q=>X.mg x=none/\Q v H
def zbq {n:String} (hv:bootBuiltins x=some (.type n)) (hg:Gl X x:=by rfl) (hn:x≠"__name__":=by decide) (hd:(x == ("__debug__":Str))=false:=by decide):PE X (.Name x pos) (tBl X x (.ty n)):=λ _ _ _ H _ I h=>by
 obtain ⟨hm,h⟩:=h;exact xW I hg hm hv ⟨.ty n,H,I,rfl,h⟩ hn hd
def tBi (X:Cx) (x:Str) (r:List V->Hp->VK->Prop) (t:TA):TE:=λ σ H Q=>X.mg x=none/\t σ H λ vs H1=>r vs H1 Q
def zy {id:String} {r:List V->Hp->VK->Prop} (hc:CallR X (.builtin id) r) (hv:bootBuiltins x=some (.builtin id)) (ha:PA X (e :: es) t) (hg:Gl X x:=by rfl) (hn:x≠"__name__":=by decide) (hdb:(x == ("__debug__":Str))=false:=by decide)
  (he:starEach (e :: es) X.env=(false,eval e X.env) :: starEach es X.env:=by rfl) (hpl:(backTo pos (starEach es X.env)).any (·.1)=false:=by rfl):PE X (.Call (.Name x p) (e :: es) [] pos) (tBi X x r t):=λ l8 s σ H Q I h =>
 zdn hc hg h.1 hv ha hn hdb he hpl l8 s σ H Q I h.2
def jz {T:String} {r:List V->Hp->VK->Prop} (hc:CallR X (.type T) r) (hv:bootBuiltins x=some (.type T)) (ha:PA X (e :: es) t) (hg:Gl X x:=by rfl) (hn:x≠"__name__":=by decide) (hdb:(x == ("__debug__":Str))=false:=by decide)
  (he:starEach (e :: es) X.env=(false,eval e X.env) :: starEach es X.env:=by rfl) (hpl:(backTo pos (starEach es X.env)).any (·.1)=false:=by rfl):PE X (.Call (.Name x p) (e :: es) [] pos) (tBi X x r t):=λ l8 s σ H Q I h =>
 zcn hc hg h.1 hv ha hn hdb he hpl l8 s σ H Q I h.2
end
section
variable {X:Cx} {tg:Expr} {a b c e o:Expr} {ta tb tc:TE} {pos:Pos}
def iSeq (K:A0) (tl:TE):TI:=λ σ H R=>tl σ H λ x H1=>∃ a,x=.ref a/\(((∃ xs,SqL K H1 a xs)/\R (Itl K a) H1)\/((∃ xs,SqT K H1 a xs)/\R (Itt K a) H1))
def zX {l:Expr} {tl:TE} (hl:PE X l tl):PI X tg l (iSeq X.K tl):=by
 intro l8 s σ H R I h;refine qp (hl l8 s σ H _ I h) λ v s1 x H1 I1 r1 q1=>?_;obtain ⟨a,e,q⟩:=q1;subst e;cases r1;rcases q with ⟨⟨xs,hq⟩,q⟩|⟨⟨xs,hq⟩,q⟩
 ·obtain ⟨ma,rv,p,hz⟩:=I1.list hq;refine et p.isList ?_;refine ⟨s1.heap.objs.size,[s1.heap.objs.size],_,_,H1,rfl,I1.kept (t':=s1.toks) λ b o e=>aj _ e,zb0 a _,⟨_,aJ _ rfl,rfl,rfl⟩,λ b hb=>?_,q⟩;have e:b=s1.heap.objs.size:=by simpa using hb
  subst e;exact I1.fpOk (ap _) (I1.hok.fresh (ap _))
 ·obtain ⟨ma,rv,p,hz⟩:=I1.tuple hq;refine wpAny_pyIter_tuple (show s1.heap.IsTuple a ma.toArray from p) ?_;refine ⟨s1.heap.objs.size,[s1.heap.objs.size],_,_,H1,rfl,I1.kept (t':=s1.toks) λ b o e=>aj _ e,zac a _,⟨_,aJ _ rfl,rfl,rfl⟩,λ b hb=>?_,q⟩;have e:b=s1.heap.objs.size:=by simpa using hb
  subst e;exact I1.fpOk (ap _) (I1.hok.fresh (ap _))
def wu {ta:TA} {p pos:Pos} (ha:PA X [a] ta) (hg:Gl X "range":=by rfl) (hs:starEach [a] X.env=[(false,eval a X.env)]:=by rfl):PI X tg (.Call (.Name "range" p) [a] [] pos) (λ σ H R=>X.mg "range"=none/\iRng1 ta σ H R) :=
 λ l8 s σ H R I h=>zcm hg h.1 ha hs l8 s σ H R I h.2
def zdh (K:A0):R2:=λ x y H Q=>∃ l b xs zs,x=.ref l/\y=.ref b/\SqL K H l xs/\SqL K H b zs/\xs.length + zs.length<=sizeLine/\∀ p,H p=none->Q (.ref p) (upd H p (.lst (xs ++ zs)))
def zeL:OpR X (binaryOp .Add) (zdh X.K):=by
 intro l8 s σ H x y v u Q I rx ry h;obtain ⟨l,b,xs,zs,rfl,rfl,hH,hB,hz,q⟩:=h;cases rx;cases ry;obtain ⟨ma,r,p,z⟩:=I.list hH;obtain ⟨its2,r2,p2,z2⟩:=I.list hB;have e1:=r.length;have e2:=r2.length;obtain ⟨⟨cls,dd,data,sl⟩,n,ho,hc,hdd,hd⟩:=p;obtain ⟨⟨cls2,dd2,data2,sl2⟩,n2,ho2,hc2,hdd2,hd2⟩:=p2;simp only at hc hd hc2 hd2;subst hc hd hc2 hd2;have ea:ma.toArray ++ its2.toArray=(ma ++ its2).toArray:=by simp
 refine concat_meets ⟨_,ho,rfl⟩ ⟨_,ho2,rfl⟩ noFill_list_add seq_list_add PySem.F.slot_list_add PySem.F.entry_list_add (PySem.F.args_list_add_2 _ _) (list_addW l b ma.toArray its2.toArray n n2 dd dd2 sl sl2 (by simp only [ar];lia)) ⟨ho,ho2,?_⟩;rw [ea];exact ⟨.ref _,_,I.lnew (t':=s.toks) (r.append r2) (by rw [aM];lia),rfl,q _ I.fresh⟩
def OpR.wk {f:Ak} {r r':R2} (h:OpR X f r) (k:∀ x y H Q,r' x y H Q->r x y H Q):OpR X f r':=λ l8 s σ H x y v u Q I rx ry q=>h l8 s σ H x y v u Q I rx ry (k x y H Q q)
def Vq (K:A0):R2:=λ x y H Q=>match x,y with
 | .int i,.int j=>Q (.int (i + j)) H
 | .str i,.str j=>i.length + j.length<=sizeLine/\Q (.str (i ++ j)) H
 | x,y=>zdh K x y H Q
def zP:OpR X (binaryOp .Add) (Vq X.K):=(op_add.or (op_add_str.or zeL)).wk λ x y H Q h=>by
 unfold Vq at h
 split at h
 ·exact .inl h
 ·exact .inr (.inl ⟨_,_,rfl,rfl,h⟩)
 ·exact .inr (.inr h)
def rT (c:Int->Int->Prop) [∀ i j,Decidable (c i j)]:R2:=λ x y H Q=>iq x λ i=>iq y λ j=>if c i j then Q (.bl true) H else Q (.bl false) H
def zaZ {c:Prop} [Decidable c] {Q:VK} (h:if c then Q (.bl true) H else Q (.bl false) H):Q (.bl (decide c)) H:=by
 by_cases e:c
 ·rw [aA e] at h;rw [bF e];exact h
 ·rw [aq e] at h;rw [a4 e];exact h
def zbC {c:Prop} [Decidable c] {Q:VK} (h:if ¬ c then Q (.bl true) H else Q (.bl false) H):Q (.bl (!decide c)) H:=by
 by_cases e:c
 ·rw [aq (λ z=>z e)] at h;rw [bF e];exact h
 ·rw [aA e] at h;rw [a4 e];exact h
def OpR.t {f:Ak} {c:Int->Int->Prop} [∀ i j,Decidable (c i j)] (h:OpR X f (rI0 λ i j=>.bl (decide (c i j)))):OpR X f (rT c):=h.wk λ x y H Q q=>by
 obtain ⟨i,j,rfl,rfl,q⟩:=JA q;exact zaZ q
def Zg:OpR X (compareOp .Lt) (rT λ i j=>i < j):=op_lt.t
def jJ:OpR X (compareOp .LtE) (rT λ i j=>i<=j):=op_le.t
def Xs:OpR X (compareOp .Gt) (rT λ i j=>j < i):=op_gt.t
def qZ:OpR X (compareOp .Is) (λ x y H Q=>nq y (if x=.non then Q (.bl true) H else Q (.bl false) H)):=op_isN.wk λ x y H Q q=>by
 obtain ⟨rfl,q⟩:=zbt q;exact zaZ q
def zbs:OpR X (compareOp .IsNot) (λ x y H Q=>nq y (if ¬ x=.non then Q (.bl true) H else Q (.bl false) H)):=op_notN.wk λ x y H Q q=>by
 obtain ⟨rfl,q⟩:=zbt q;exact zbC q
def zaJ {op:Operator} {b:Expr} {y:V} {r:R2} (ho:OpR X (binaryOp op) r) (hb:PE X b (tC y)) {ta:TE} {r':V->Hp->VK->Prop} (k:∀ x H Q,r' x H Q->r x y H Q) {pos:Pos} (ha:PE X a ta):PE X (.BinOp a op b pos) (tUn r' ta):=by
 intro l8 s σ H Q I h;refine wpAny_BinOp (qp (ha l8 s σ H _ I h) λ v s1 x H1 I1 r1 q1=>thn (hb l8 s1 σ H1 (λ z H2=>z=y/\H2=H1) I1 ⟨rfl,rfl⟩) λ u s2 ⟨z,H2,I2,r2,e,e2⟩=>?_);subst e e2;exact ho l8 s2 σ H2 x z v u Q I2 r1 r2 (k x H2 Q q1)
def zO {k:Int} {j:Nat} {p2 pos:Pos} {ta:TE} (ha:PE X a ta) (h:decide (0 < k)=true:=by rfl):PE X (.BinOp a .Mod (.Constant (.int k) j p2) pos) (tUn (rU λ i=>.int (i % k)) ta) :=
 zaJ qa zd (λ x H Q q=>by obtain ⟨i,rfl,q⟩:=Zo q;exact ⟨br h,q⟩) ha
def zU {k:Int} {j:Nat} {p2 pos:Pos} {ta:TE} (ha:PE X a ta) (h:decide (0 < k/\k < 1073741824)=true:=by rfl):PE X (.BinOp a .FloorDiv (.Constant (.int k) j p2) pos) (tUn (rU λ i=>.int (i / k)) ta) :=
 zaJ zeK zd (λ x H Q q=>by obtain ⟨i,rfl,q⟩:=Zo q;have z:=br h;exact ⟨z,q⟩) ha
def zdk {b k:Int} {j j2:Nat} {p1 p2 pos:Pos} (h:decide (0<=k/\k<=1000000/\b.natAbs < 2 ^ 64)=true:=by rfl):PE X (.BinOp (.Constant (.int b) j p1) .Pow (.Constant (.int k) j2 p2) pos) (tC (.int (b ^ k.toNat))):=by
 intro l8 s σ H Q I q;have z:=br h;exact zw zfX zd zd l8 s σ H Q I ⟨z,q⟩
def zaK {b k:Int} {j j2:Nat} {p1 p2 p3 pos:Pos} {ta:TE} (ha:PE X a ta) (h:decide (0<=k/\k<=1000000/\b.natAbs < 2 ^ 64)=true:=by rfl) (h0:decide (0 < b)=true:=by rfl) :
  PE X (.BinOp a .Mod (.BinOp (.Constant (.int b) j p1) .Pow (.Constant (.int k) j2 p2) p3) pos) (tUn (rU λ i=>.int (i % b ^ k.toNat)) ta) :=
 zaJ qa (zdk h) (λ x H Q q=>by obtain ⟨i,rfl,q⟩:=Zo q;exact ⟨Int.pow_pos (br h0),q⟩) ha
structure MulOk (i j:Int):Prop where
 h:IntMulOk i j
def Ji:OpR X (binaryOp .Mult) (rI MulOk λ i j=>.int (i * j)):=opI λ _ _ _ _ _ _ _ hc q=>mul_int q hc.h
structure CFd (_ j:Int):Prop where
 a:j≠0
 b:j.natAbs.log2 < 9000
def zeN:OpR X (binaryOp .FloorDiv) (rI CFd λ i j=>.int (i.fdiv j)):=opI λ _ _ _ _ _ _ _ hc q=>floordiv_int hc.1 q (.inl (PyProof.noPylong_of_log2 hc.2))
def mul_okL {i j:Int} (h1:-(2 ^ 64) < i) (h2:i < 2 ^ 64):MulOk i j:=⟨PySem.IntMulOk.of_left (fg h1 h2)⟩
def mul_okR {i j:Int} (h1:-(2 ^ 64) < j) (h2:j < 2 ^ 64):MulOk i j:=⟨PySem.IntMulOk.of_right (fg h1 h2)⟩
def fd_ok {i j:Int} (h1:0 < j) (h2:j.natAbs < 2 ^ 8999):CFd i j:=⟨by lia,by
 have:=(Nat.log2_lt (n:=j.natAbs) (k:=8999) (by lia)).mpr h2
 lia⟩
def fdiv_pos {i j:Int} (h:0 < j):i.fdiv j=i / j:=eB i (cV h)
noncomputable def jU:List V->List V->Bool
 | [],[]=>true
 | x :: xs,y :: ys=>eqV x y && jU xs ys
 | _,_=>false
theorem xz:∀ {xs ys:Ao},xs.length≠ys.length->jU xs ys=false
 | [],[],h=>absurd rfl h
 | [],_ :: _,_=>rfl
 | _ :: _,[],_=>rfl
 | x :: xs,y :: ys,h=>by
  have:=xz (xs:=xs) (ys:=ys) (λ e=>h (by simp [e]));unfold jU;rw [this,bX]
theorem xA:∀ {xs ys:Ao},xs.length=ys.length->(List.range xs.length).all (λ j=>eqV (xs.getD j .non) (ys.getD j .non))=jU xs ys
 | [],[],_=>rfl
 | [],_ :: _,h=>by simp at h
 | _ :: _,[],h=>by simp at h
 | x :: xs,y :: ys,h=>by
  have ih:=xA (xs:=xs) (ys:=ys) (by simpa using h);unfold jU;rw [<- ih,bg,List.range_succ_eq_map,List.all_cons,List.all_map]
  rfl
theorem Vals.getD:∀ {xs:Ao} {us:A7} {j:Nat} (h:j < us.length),Vals xs us->RelV (xs.getD j .non) us[j]
 | _,_,0,_,.cons r _=>r
 | _,_,j + 1,h,.cons _ t=>Vals.getD (j:=j) (by simpa using h) t
def jB {xs:Ao} (f:xs.all xE=true) (j:Nat):xE (xs.getD j .non)=true:=by
 rw [aT];cases e:xs[j]? with
 | none=>rfl
 | some x=>exact dc.mp f x (ai e)
def zeC (K:A0) (neg:Bool):R2:=λ x y H Q=>∃ a b xs ys,x=.ref a/\y=.ref b/\((SqL K H a xs/\SqL K H b ys)\/(SqT K H a xs/\SqT K H b ys))/\xs.all xE=true/\ys.all xE=true/\Q (.bl (if neg then !jU xs ys else jU xs ys)) H
def Xt (hu:X.A.units < cLine):OpR X (compareOp .Eq) (zeC X.K false):=by
 intro l8 s σ H x y v u Q I rx ry h;obtain ⟨a,b,xs,ys,rfl,rfl,hq,fx,fy,q⟩:=h;cases rx;cases ry;have fin:EP X l8 σ Q (.bool (jU xs ys)) s:=⟨.bl (jU xs ys),H,I,rfl,q⟩;rcases hq with ⟨h1,h2⟩|⟨h1,h2⟩
 ·obtain ⟨ma,r,p,_⟩:=I.list h1;obtain ⟨its2,r2,p2,_⟩:=I.list h2;have e1:=r.length;have e2:=r2.length;by_cases hl:xs.length=ys.length
  ·refine eG (e:=λ j=>eqV (xs.getD j .non) (ys.getD j .non)) p.isList p2.isList (by simp only [ar];lia) hu (λ j h1 h2=>?_) _ _ _ _ ?_
   ·exact ZZ (Vals.getD (by simpa using h1) r) (Vals.getD (by simpa using h2) r2) (jB fx j) (jB fy j)
   ·rw [ar,<- e1,xA hl];exact fin
  ·rw [xz hl] at fin;exact dq p.isList p2.isList (by simp only [ar];simp;lia) hu _ _ _ _ fin
 ·obtain ⟨ma,r,p,_⟩:=I.tuple h1;obtain ⟨its2,r2,p2,_⟩:=I.tuple h2;have e1:=r.length;have e2:=r2.length;refine cP (e:=λ j=>eqV (xs.getD j .non) (ys.getD j .non)) p p2 hu (λ j h1 h2=>?_) _ _ _ _ ?_
  ·exact ZZ (Vals.getD (by simpa using h1) r) (Vals.getD (by simpa using h2) r2) (jB fx j) (jB fy j)
  ·by_cases hl:xs.length=ys.length
   ·have em:min ma.toArray.size its2.toArray.size=xs.length:=by simp only [ar];lia
    have es:(ma.toArray.size == its2.toArray.size)=true:=by simp only [ar];rw [bD];lia
    rw [em,es,xA hl,eH];exact fin
   ·have es:(ma.toArray.size == its2.toArray.size)=false:=by simp only [ar];rw [a8];lia
    rw [es,bX];rw [xz hl] at fin;exact fin
def zco (hu:X.A.units < cLine):OpR X (compareOp .NotEq) (zeC X.K true):=by
 intro l8 s σ H x y v u Q I rx ry h;obtain ⟨a,b,xs,ys,rfl,rfl,hq,fx,fy,q⟩:=h;cases rx;cases ry;have fin:EP X l8 σ Q (.bool (!jU xs ys)) s:=⟨.bl (!jU xs ys),H,I,rfl,q⟩;rcases hq with ⟨h1,h2⟩|⟨h1,h2⟩
 ·obtain ⟨ma,r,p,_⟩:=I.list h1;obtain ⟨its2,r2,p2,_⟩:=I.list h2;have e1:=r.length;have e2:=r2.length;by_cases hl:xs.length=ys.length
  ·refine SeqAt.RcNeAt.lists (e:=λ j=>eqV (xs.getD j .non) (ys.getD j .non)) p.isList p2.isList (by simp only [ar];lia) hu (λ j h1 h2=>?_) _ _ _ _ ?_
   ·exact ZZ (Vals.getD (by simpa using h1) r) (Vals.getD (by simpa using h2) r2) (jB fx j) (jB fy j)
   ·rw [ar,<- e1,xA hl];exact fin
  ·rw [xz hl] at fin;exact SeqAt.RcNeAt.lists_lengths p.isList p2.isList (by simp only [ar];simp;lia) hu _ _ _ _ fin
 ·obtain ⟨ma,r,p,_⟩:=I.tuple h1;obtain ⟨its2,r2,p2,_⟩:=I.tuple h2;have e1:=r.length;have e2:=r2.length;refine SeqAt.RcNeAt.tuples (e:=λ j=>eqV (xs.getD j .non) (ys.getD j .non)) p p2 hu (λ j h1 h2=>?_) _ _ _ _ ?_
  ·exact ZZ (Vals.getD (by simpa using h1) r) (Vals.getD (by simpa using h2) r2) (jB fx j) (jB fy j)
  ·by_cases hl:xs.length=ys.length
   ·have em:min ma.toArray.size its2.toArray.size=xs.length:=by simp only [ar];lia
    have es:(ma.toArray.size == its2.toArray.size)=true:=by simp only [ar];rw [bD];lia
    rw [em,es,xA hl,eH];exact fin
   ·have es:(ma.toArray.size == its2.toArray.size)=false:=by simp only [ar];rw [a8];lia
    rw [es,bX];rw [xz hl] at fin;exact fin
inductive DE (K:A0) (H:Hp):Nat->V->V->Bool->Prop
 | flat {n:Nat} {x y:V}:xE x=true->xE y=true->DE K H n x y (eqV x y)
 | same {n:Nat} {p:Addr}:DE K H n (.ref p) (.ref p) true
 | lists {n:Nat} {p q:Addr} {xs ys:Ao} {e:Nat->Bool}:p≠q->SqL K H p xs->SqL K H q ys->xs.length=ys.length->(∀ j x y,xs[j]?=some x->ys[j]?=some y->DE K H n x y (e j))->DE K H (n + 1) (.ref p) (.ref q) ((List.range xs.length).all e)
 | listsL {n:Nat} {p q:Addr} {xs ys:Ao}:p≠q->SqL K H p xs->SqL K H q ys->xs.length≠ys.length->DE K H (n + 1) (.ref p) (.ref q) false
 | tuples {n:Nat} {p q:Addr} {xs ys:Ao} {e:Nat->Bool}:p≠q->SqT K H p xs->SqT K H q ys->(∀ j x y,xs[j]?=some x->ys[j]?=some y->DE K H n x y (e j))->DE K H (n + 1) (.ref p) (.ref q) ((List.range (min xs.length ys.length)).all e && xs.length == ys.length)
 | nt {n:Nat} {p:Addr} {xs:Ao}:SqT K H p xs->DE K H n .non (.ref p) false
 | tn {n:Nat} {p:Addr} {xs:Ao}:SqT K H p xs->DE K H n (.ref p) .non false
def Vals.at_ {xs:Ao} {us:A7} (r:Vals xs us) {j:Nat} (h:j < us.toArray.size):∃ x,xs[j]?=some x/\RelV x us.toArray[j]:=by
 have h':j < us.length:=by simpa using h
 have hl:j < xs.length:=by rw [r.length];exact h'
 obtain ⟨u,hu,ru⟩:=r.get (ae hl);have e:us.toArray[j]=u:=by
  have:=aa.mp hu;obtain ⟨_,e⟩:=this;simpa using e
 exact ⟨xs[j],ae hl,e ▸ ru⟩
def zbO {σ:St} {n:Nat} {x y:V} {b:Bool} (I:Inv X l8 σ H s) (h:DE X.K H n x y b):∀ {u v:Al} {A:An},RelV x u->RelV y v->A.units + n < cLine->SeqAt.EqAt A s u v b:=by
 induction h with
 | flat fx fy=>intro u v A rx ry _;exact ZZ rx ry fx fy
 | same=>intro u v A rx ry _;cases rx;cases ry;exact dI _
 | lists hne h1 h2 hl _ ih =>
  intro u v A rx ry hu;cases rx;cases ry;obtain ⟨ma,r,p,_⟩:=I.list h1;obtain ⟨its2,r2,p2,_⟩:=I.list h2;have e1:=r.length;have e2:=r2.length;refine cG hne ?_;have:=eG (A:=A) (s:=s) p.isList p2.isList (by simp only [ar];lia) (by lia) (λ j h1 h2=>by
   obtain ⟨x,hx,rx⟩:=r.at_ h1;obtain ⟨y,hy,ry⟩:=r2.at_ h2;exact ih j x y hx hy rx ry (by show A.units + 1 + _ < _;lia))
  rw [ar,<- e1] at this;exact this
 | listsL hne h1 h2 hl =>
  intro u v A rx ry hu;cases rx;cases ry;obtain ⟨ma,r,p,_⟩:=I.list h1;obtain ⟨its2,r2,p2,_⟩:=I.list h2;have e1:=r.length;have e2:=r2.length;exact cG hne (dq p.isList p2.isList (by simp only [ar];simp;lia) (by lia))
 | tuples hne h1 h2 _ ih =>
  intro u v A rx ry hu;cases rx;cases ry;obtain ⟨ma,r,p,_⟩:=I.tuple h1;obtain ⟨its2,r2,p2,_⟩:=I.tuple h2;have e1:=r.length;have e2:=r2.length;refine cG hne ?_;have:=cP (A:=A) (s:=s) p p2 (by lia) (λ j h1 h2=>by
   obtain ⟨x,hx,rx⟩:=r.at_ h1;obtain ⟨y,hy,ry⟩:=r2.at_ h2;exact ih j x y hx hy rx ry (by show A.units + 1 + _ < _;lia))
  simp only [ar,<- e1,<- e2] at this;exact this
 | nt h1 =>
  intro u v A rx ry hu;cases rx;cases ry;obtain ⟨ma,r,p,_⟩:=I.tuple h1;exact SeqAt.EqAt.none_tuple p (by lia)
 | tn h1 =>
  intro u v A rx ry hu;cases rx;cases ry;obtain ⟨ma,r,p,_⟩:=I.tuple h1;exact SeqAt.EqAt.tuple_none p (by lia)
def zeD (K:A0) (neg:Bool):R2:=λ x y H Q=>∃ p q xs ys n e,x=.ref p/\y=.ref q/\n<=8/\(∀ j x y,xs[j]?=some x->ys[j]?=some y->DE K H n x y (e j)) /\
 ((SqL K H p xs/\SqL K H q ys/\xs.length=ys.length/\Q (.bl (if neg then !((List.range xs.length).all e) else (List.range xs.length).all e)) H) \/
   (SqT K H p xs/\SqT K H q ys/\Q (.bl (if neg then !((List.range (min xs.length ys.length)).all e && xs.length == ys.length) else ((List.range (min xs.length ys.length)).all e && xs.length == ys.length))) H))
def zaO (hu:X.A.units + 100 < cLine):OpR X (compareOp .Eq) (zeD X.K false):=by
 intro l8 s σ H x y v u Q I rx ry h;obtain ⟨p,q,xs,ys,n,e,rfl,rfl,hn,hde,h⟩:=h;cases rx;cases ry;rcases h with ⟨h1,h2,hl,q⟩|⟨h1,h2,q⟩
 ·obtain ⟨ma,r,p,_⟩:=I.list h1;obtain ⟨its2,r2,p2,_⟩:=I.list h2;have e1:=r.length;have e2:=r2.length;refine eG (e:=e) p.isList p2.isList (by simp only [ar];lia) (by lia) (λ j h1 h2=>?_) _ _ _ _ ?_
  ·obtain ⟨x,hx,rx⟩:=r.at_ h1;obtain ⟨y,hy,ry⟩:=r2.at_ h2;exact zbO I (hde j x y hx hy) rx ry (by show X.A.units + 1 + _ < _;lia)
  ·rw [ar,<- e1];exact ⟨.bl _,H,I,rfl,q⟩
 ·obtain ⟨ma,r,p,_⟩:=I.tuple h1;obtain ⟨its2,r2,p2,_⟩:=I.tuple h2;have e1:=r.length;have e2:=r2.length;refine cP (e:=e) p p2 (by lia) (λ j h1 h2=>?_) _ _ _ _ ?_
  ·obtain ⟨x,hx,rx⟩:=r.at_ h1;obtain ⟨y,hy,ry⟩:=r2.at_ h2;exact zbO I (hde j x y hx hy) rx ry (by show X.A.units + 1 + _ < _;lia)
  ·simp only [ar,<- e1,<- e2];exact ⟨.bl _,H,I,rfl,q⟩
def zaN (hu:X.A.units + 100 < cLine):OpR X (compareOp .NotEq) (zeD X.K true):=by
 intro l8 s σ H x y v u Q I rx ry h;obtain ⟨p,q,xs,ys,n,e,rfl,rfl,hn,hde,h⟩:=h;cases rx;cases ry;rcases h with ⟨h1,h2,hl,q⟩|⟨h1,h2,q⟩
 ·obtain ⟨ma,r,p,_⟩:=I.list h1;obtain ⟨its2,r2,p2,_⟩:=I.list h2;have e1:=r.length;have e2:=r2.length;refine SeqAt.RcNeAt.lists (e:=e) p.isList p2.isList (by simp only [ar];lia) (by lia) (λ j h1 h2=>?_) _ _ _ _ ?_
  ·obtain ⟨x,hx,rx⟩:=r.at_ h1;obtain ⟨y,hy,ry⟩:=r2.at_ h2;exact zbO I (hde j x y hx hy) rx ry (by show X.A.units + 1 + _ < _;lia)
  ·rw [ar,<- e1];exact ⟨.bl _,H,I,rfl,q⟩
 ·obtain ⟨ma,r,p,_⟩:=I.tuple h1;obtain ⟨its2,r2,p2,_⟩:=I.tuple h2;have e1:=r.length;have e2:=r2.length;refine SeqAt.RcNeAt.tuples (e:=e) p p2 (by lia) (λ j h1 h2=>?_) _ _ _ _ ?_
  ·obtain ⟨x,hx,rx⟩:=r.at_ h1;obtain ⟨y,hy,ry⟩:=r2.at_ h2;exact zbO I (hde j x y hx hy) rx ry (by show X.A.units + 1 + _ < _;lia)
  ·simp only [ar,<- e1,<- e2];exact ⟨.bl _,H,I,rfl,q⟩
def Q5 (K:A0):R2:=λ x y H Q=>match x,y with
 | .int i,.int j=>Q (.bl (decide (i=j))) H
 | .str i,.str j=>Q (.bl (decide (i=j))) H
 | .bl i,.bl j=>Q (.bl (decide (i=j))) H
 | x,y=>rEq x y H Q\/zeC K false x y H Q\/zeD K false x y H Q
def Vp (K:A0):R2:=λ x y H Q=>match x,y with
 | .int i,.int j=>Q (.bl (!decide (i=j))) H
 | .str i,.str j=>Q (.bl (!decide (i=j))) H
 | .bl i,.bl j=>Q (.bl (!decide (i=j))) H
 | x,y=>rNe x y H Q\/zeC K true x y H Q\/zeD K true x y H Q
def zci (K:A0):R2:=λ x y H Q=>match x,y with
 | .int i,.int j=>if i=j then Q (.bl true) H else Q (.bl false) H
 | .str i,.str j=>if i=j then Q (.bl true) H else Q (.bl false) H
 | .bl i,.bl j=>if i=j then Q (.bl true) H else Q (.bl false) H
 | x,y=>Q5 K x y H Q
def zch (K:A0):R2:=λ x y H Q=>match x,y with
 | .int i,.int j=>if ¬ i=j then Q (.bl true) H else Q (.bl false) H
 | .str i,.str j=>if ¬ i=j then Q (.bl true) H else Q (.bl false) H
 | .bl i,.bl j=>if ¬ i=j then Q (.bl true) H else Q (.bl false) H
 | x,y=>Vp K x y H Q
def Vy (hu:X.A.units + 100 < cLine):OpR X (compareOp .Eq) (Q5 X.K):=(op_eq.or ((Xt (by lia)).or (zaO hu))).wk λ x y H Q h=>by
 unfold Q5 at h
 split at h <;> first|exact h|exact .inl ⟨rfl,by simpa using h⟩
def zgP (hu:X.A.units + 100 < cLine):OpR X (compareOp .NotEq) (Vp X.K):=(op_ne.or ((zco (by lia)).or (zaN hu))).wk λ x y H Q h=>by
 unfold Vp at h
 split at h <;> first|exact h|exact .inl ⟨rfl,by simpa using h⟩
def qA (hu:X.A.units + 100 < cLine):OpR X (compareOp .Eq) (zci X.K):=(Vy hu).wk λ x y H Q h=>by
 unfold zci at h
 split at h <;> first|exact h|exact zaZ (Q:=Q) h
def Zf (hu:X.A.units + 100 < cLine):OpR X (compareOp .NotEq) (zch X.K):=(zgP hu).wk λ x y H Q h=>by
 unfold zch at h
 split at h <;> first|exact h|exact zbC (Q:=Q) h
def Room.units1 {k:Nat} {A:An} (r:Room k A):A.units + 100 < cLine:=by have:=r.un;lia
noncomputable def ze7:V->Option Value
 | .ty n=>some (.type n)
 | .ref a=>some (.ref a)
 | _=>none
def zJ:bootBuiltins "len"=some (.builtin "len"):=by decide +kernel
def zr:bootBuiltins "isinstance"=some (.builtin "isinstance"):=by decide +kernel
def zeb:bootBuiltins "max"=some (.builtin "max"):=by decide +kernel
def zgr:bootBuiltins "all"=some (.builtin "all"):=by decide +kernel
def zcK:bootBuiltins "sorted"=some (.builtin "sorted"):=by decide +kernel
def zgq:bootBuiltins "int"=some (.type "int"):=by decide +kernel
def xq:bootBuiltins "list"=some (.type "list"):=by decide +kernel
def jm:bootBuiltins "tuple"=some (.type "tuple"):=by decide +kernel
def ze8:bootBuiltins "bool"=some (.type "bool"):=by decide +kernel
def Xi:bootBuiltins "ValueError"=some (.type "ValueError"):=by decide +kernel
def Z7:kitOne K (.type "int") (.type "int")=some true:=by rfl
def Zk:kitOne K (.type "int") (.type "bool")=some false:=by rfl
def vm:kitOne K (.type "bool") (.type "bool")=some true:=by rfl
def Z6:kitOne K (.type "str") (.type "str")=some true:=by rfl
def VQ:kitOne K (.type "tuple") (.type "tuple")=some true:=by rfl
def zgg:IxR X (rIx X.K):=zgf
def zN:CallR X (.builtin "len") (λ xs H Q=>lq xs λ x=>∃ n,zg8 X.K x H n/\Q (.int n) H):=λ l8 s σ H xs us Q I r h=>let ⟨x,e,n,h⟩:=zdC h;zd4 l8 s σ H xs us Q I r ⟨x,n,e,h⟩
def zf5 {xs:Ao} {P:Int->Prop} (h:lq xs λ v=>iq v P):∃ i,xs=[.int i]/\P i:=by
 obtain ⟨v,rfl,h⟩:=zdC h;obtain ⟨i,rfl,h⟩:=Zo h;exact ⟨i,rfl,h⟩
end
abbrev bmV:List Value:=[.type "ValueError",.type "Exception",.type "BaseException",.type "object"]
structure XC (K:A0) (C:Addr):Prop where
 q:excIn K C bmV "ValueError.__new__"=true
def zfv {C:Addr} {h₀:Heap} (X:K.In h₀) (x:XC K C):∃ bm N nm q bs hdct sn sub ab col dd k0 k1 k2 k3 k5 mN,h₀.get? C=some (excClassObj nm q C N bs bm hdct sn sub ab col dd k0 k1 k2 k3 k5 "ValueError.__new__")/\h₀.Ns N mN/\mN "__init__"=none/\OwnTail h₀ bmV bm:=by
 have q:=x.q;unfold excIn at q
 split at q
 ·rename_i dd cd sl ho
  split at q
  ·rename_i C' bm k0 k1 k2 k3 n k5 hm hs;simp only [cK,bD,Bool.not_eq_true'] at q;obtain ⟨⟨⟨⟨⟨rfl,rfl⟩,hdel⟩,ht⟩,hok⟩,hni⟩:=q;obtain ⟨nm,bs,mro,ns,qn,hd,sn,sub,ab,col,del⟩:=cd;dsimp only at hm hdel hok hni;subst hm hdel;have hsl:sl=#[k0,k1,k2,k3,some (.builtin "ValueError.__new__"),k5]:=by
    obtain ⟨l⟩:=sl;simp only at hs;rw [hs]
   subst hsl;exact ⟨bm,ns,nm,qn,bs,hd,sn,sub,ab,col,dd,k0,k1,k2,k3,k5,_,X _ _ ho,.of_isNs (PySem.W.isNs_of_in X hok),PySem.W.nsMap_none_of_in X hok hni,PySem.W.tail_of_in X ht⟩
  ·cases q
 ·cases q
section
variable {X:Cx} {G:GK} {x n:Str} {np cpos pos hpos:Pos} {e₀:Expr} {es:List Expr} {t:TA}
def tRaise (X:Cx) (x:Str) (G:GK) (t:TA):TS:=λ _ σ H=>∃ C,X.mg x=some (.ref C)/\XC X.K C/\t σ H λ vs H1=>szl vs (G (.ref C) σ H1)
def qI (B:Bod X) (hc:X.calm=true) (ha:PA (X.exg G) (e₀ :: es) t) (hg:Gl X x:=by rfl) (hdb:(x == ("__debug__":Str))=false:=by decide)
  (he:starEach (e₀ :: es) X.env=(false,eval e₀ X.env) :: starEach es X.env:=by rfl) (hpl:(backTo cpos (starEach es X.env)).any (·.1)=false:=by rfl) :
  PS (X.exg G) (.Raise (some (.Call (.Name x np) (e₀ :: es) [] cpos)) none pos) (tRaise X x G t):=by
 intro l8 s σ H D I h;obtain ⟨C,hm,xc,h⟩:=h;obtain ⟨tl,N,nm,q,bs,hdct,sn,sub,ab,col,dd,k0,k1,k2,k3,k5,mN,hC,hN,hni,T⟩:=zfv I.ok.mod.kin xc;refine wpAny_Raise_call_subT (C:=C) (nm:=nm) (q:=q) (N:=N) (bs:=bs) (bm:=tl) (hdct:=hdct) (sn:=sn) (sub:=sub) (ab:=ab) (col:=col) (dd:=dd) (k0:=k0) (k1:=k1) (k2:=k2) (k3:=k3) (k5:=k5)
  F.excBase_ValueError (mN:=mN) (T.hasType F.excBase_ValueError.hasBase) (I.ok.hd hc) (by rw [he];show (false || (backTo cpos (starEach es X.env)).any (·.1))=false;rw [hpl];rfl) hni (jw I hg hm ⟨rfl,?_⟩ hdb)
 have hA:=ha cpos l8 s σ H _ I h;rw [he] at hA ⊢;refine Calls.evalArgs_plain (thn hA λ us s2 ⟨vs,H2,I2,r,g⟩=>?_);obtain ⟨hl,g⟩:=zae g;exact ⟨rfl,by rw [<- r.length];exact hl,I2.bk _ _ hC,hN.keeps I2.bk,T.keeps I2.bk,λ h' a hm=>V9 B I2.unwish hm g⟩
end
noncomputable def zba (a:Addr) (cls:Al):HO:=.ext λ h=>∃ o vs,h.get? a=some o/\o.cls=cls/\o.dict=none/\o.data=.fields vs
def Exc.obj {g h:Heap} {pn:A2} {a:Addr} (x:Exc g h H pn a cls):∃ o vs,h.get? a=some o/\o.cls=cls/\o.dict=none/\o.data=.fields vs:=by
 obtain ⟨oe,vs,_,_,_,h1,h2,h3,h4,_⟩:=x.ex;exact ⟨oe,vs,h1,h2,h3,h4⟩
section
variable {X:Cx} {l8:A2} {σ:St} {H:Hp} {s:Am}
def Inv.track {a:Addr} {u:HO} (I:Inv X l8 σ H s) (Ha:H a=none) (ga:X.s₀.heap.get? a=none) (hrec:∃ o vs,s.heap.get? a=some o/\o.data=.fields vs) (pa:∀ p∈X.pn ++ l8,p.1≠a)
  (new:ObjOk X.prog X.w (upd H a u) s.heap a u):Inv X l8 σ (upd H a u) s:=by
 obtain ⟨o,vs,ho,hd⟩:=hrec;have neL:X.env.locals≠a:=λ z=>by
  obtain ⟨m,⟨o',es,ep,ho',hd',_⟩,_⟩:=I.loc;rw [z,ho] at ho';cases ho';rw [hd'] at hd;cases hd
 have neC:∀ x c,X.env.cells.lookup x=some c->c≠a:=λ x c e z=>by
  obtain ⟨v,o',ho',hd'⟩:=I.cell x c e;rw [z,ho] at ho';cases ho';rw [hd'] at hd;cases hd
 have keep:∀ b v,H b=some v->upd H a u b=some v:=λ b v e=>by
  rw [mw (my e Ha)];exact e
 refine ⟨I.ok,I.os,I.bare,⟨I.base.keep,I.base.slot,λ b o' e n hx=>?_,I.base.there,λ b xs e=>keep b _ (I.base.tups b xs e),λ b o' v e=>keep b _ (I.base.frzs b o' v e),λ b ps e=>?_⟩,I.loc,I.cell,?_,λ x c e=>?_,λ p hp=>?_,λ b v e=>?_,I.len⟩
 ·have:b≠a:=λ z=>by rw [z,ga] at e;cases e
  rw [mw this];exact I.base.free b o' e n hx
 ·obtain ⟨more,q⟩:=I.base.tbls b ps e;exact ⟨more,keep b _ q⟩
 ·rw [mw neL];exact I.free
 ·rw [mw (neC x c e)];exact I.freeC x c e
 ·obtain ⟨e,n,ne,nf,d⟩:=I.pin p hp;exact ⟨e,by rw [mw (pa p hp)];exact n,ne,nf,d⟩
 ·by_cases hb:b=a
  ·subst hb;rw [mv] at e;cases e;exact new
  ·rw [mw hb] at e;exact (I.hok b v e).stay (λ _ _ _ q=>q) (λ c q=>keep c _ q) λ c xs q=>keep c _ q
def ze3 {a:Addr} {h:Heap} (x:∃ o vs,h.get? a=some o/\o.cls=cls/\o.dict=none/\o.data=.fields vs) {H:Hp}:ObjOk P w H h a (zba a cls):=by
 refine ⟨x,let ⟨o,_,e,_⟩:=x;⟨o,e⟩,λ h1 h2 p k=>?_⟩;obtain ⟨o,vs,e,r⟩:=p;exact ⟨o,vs,k o e,r⟩
def JD {M:Model} {A:An} {E:A3} {a:Addr} (I:Inv X l8 σ H s) (x:Exc X.s₀.heap s.heap H (X.pn ++ l8) a cls)
  (hQ:∀ s',Inv X l8 σ H s'->Exc X.s₀.heap s'.heap H (X.pn ++ l8) a cls->Q () s'):wpAny M A (setFlight (.ref a) none) Q E s:=by
 obtain ⟨⟨oe,vs,T,oT,ts,h1,h2,h3,h4,h5,h6,h7,h8,h9,h10,h11,h12⟩,ga,Ha,pa⟩:=x;have h3s:3 < ts.size:=(be.mp h9).1;refine wpAny_setFlight_none h1 h4 h5 h7 h8 h3s ?_;have hT:=bh (Obj.mapFields (·.setIfInBounds 3 Value.none)) h7 (cT (bT h8 _));have other:∀ b,b≠T->(s.heap.update T (Obj.mapFields (·.setIfInBounds 3 Value.none))).get? b=s.heap.get? b:=λ b hb=>a9 _ _ (aZ hb);refine hQ _ (I.stepx (ch:=[T]) (λ b hb=>?_) (λ b hb=>?_) (λ b o _ hc q=>(other b (λ z=>hc (by simp [z]))).trans q) (λ b o hc q=>⟨o.slots,(other b (λ z=>hc (by simp [z]))).trans q⟩) λ b hb=>?_)
  ⟨⟨oe,vs,T,_,_,(other a (aZ h6)).trans h1,h2,h3,h4,h5,h6,hT,bT h8 _,by simp [h3s],h10,h11,h12⟩,ga,Ha,pa⟩
 ·obtain rfl:b=T:=by simpa using hb
  exact ⟨h10,h11,h12⟩
 ·obtain rfl:b=T:=by simpa using hb
  exact ⟨oT,ts,h7,h8⟩
 ·obtain rfl:b=T:=by simpa using hb
  exact ⟨_,hT⟩
end
noncomputable abbrev Cx.suite (X:Cx) (pn:A2) (a:Addr):Cx:={ X with pn:=pn,A:=X.A.mark (some (.ref a)),calm:=false,xe:=λ _ _=>False }
noncomputable abbrev Cx.pinned (X:Cx) (pn:A2):Cx:={ X with pn:=pn }
section
variable {X:Cx} {l8:A2} {σ:St} {H:Hp} {s:Am}
def Inv.topn (I:Inv X l8 σ H s):Inv (X.pinned (X.pn ++ l8)) [] σ H s :=
 ⟨⟨I.ok.mod,I.ok.kind,I.ok.glob,I.ok.blt,I.ok.above,I.ok.inj,I.ok.has,I.ok.cab,I.ok.hd,I.ok.frames,I.ok.stk,I.ok.exf,I.ok.bs,I.ok.bsz,I.ok.noex,I.ok.exfs,I.ok.funs,I.ok.frf⟩,
  I.os,I.bare,I.base,I.loc,I.cell,I.free,I.freeC,λ p hp=>I.pin p (by rwa [bH] at hp),I.hok,I.len⟩
def Inv.ofpn (I:Inv (X.pinned (X.pn ++ l8)) [] σ H s):Inv X l8 σ H s :=
 ⟨⟨I.ok.mod,I.ok.kind,I.ok.glob,I.ok.blt,I.ok.above,I.ok.inj,I.ok.has,I.ok.cab,I.ok.hd,I.ok.frames,I.ok.stk,I.ok.exf,I.ok.bs,I.ok.bsz,I.ok.noex,I.ok.exfs,I.ok.funs,I.ok.frf⟩,
  I.os,I.bare,I.base,I.loc,I.cell,I.free,I.freeC,λ p hp=>I.pin p (by rw [bH];exact hp),I.hok,I.len⟩
def Inv.tosuite {pn:A2} {a:Addr} (I:Inv (X.pinned pn) [] σ H s):Inv (X.suite pn a) [] σ H s :=
 ⟨⟨I.ok.mod,I.ok.kind,I.ok.glob,I.ok.blt,I.ok.above,I.ok.inj,I.ok.has,I.ok.cab,λ h=>Bool.noConfusion h,I.ok.frames,I.ok.stk,I.ok.exf,I.ok.bs,I.ok.bsz,I.ok.noex,I.ok.exfs,I.ok.funs,I.ok.frf⟩,
  I.os,I.bare,I.base,I.loc,I.cell,I.free,I.freeC,I.pin,I.hok,I.len⟩
def Inv.ofsuite {pn:A2} {a:Addr} (hd:X.calm=true->X.A.handled=none) (I:Inv (X.suite pn a) [] σ H s):Inv (X.pinned pn) [] σ H s :=
 ⟨⟨I.ok.mod,I.ok.kind,I.ok.glob,I.ok.blt,I.ok.above,I.ok.inj,I.ok.has,I.ok.cab,hd,I.ok.frames,I.ok.stk,I.ok.exf,I.ok.bs,I.ok.bsz,I.ok.noex,I.ok.exfs,I.ok.funs,I.ok.frf⟩,
  I.os,I.bare,I.base,I.loc,I.cell,I.free,I.freeC,I.pin,I.hok,I.len⟩
def wS {M:Model} {A:An} {E:A3} {i:Nat} {n:Str} {pos:Pos} (I:Inv X l8 σ H s) (hN:X.N.Nodup) (hi:X.N[i]?=some n) (hlo:X.env.kindOf n=some .local)
  (hQ:∀ s',Inv X l8 (σ.set i none) H s'->Q () s'):wpAny M A (do bindName X.env n .none;unbindBehindTheSuite X.env n pos) Q E s:=by
 obtain ⟨m,hn,hl⟩:=id I.loc;have hcls:(X.env.scope.kind == .class || (X.env.scope.kind == .module && X.env.locals != X.env.globals))=false:=by rw [I.ok.kind];rfl
 refine wpAny_nameGoes_keeps hlo hn hcls λ h' v hn' hs=>?_;have iσ:i < σ.length:=by rw [I.len];exact (aa.mp hi).1
 obtain ⟨oL,_,_,hoL,_⟩:=id hn;have cne:=I.cne;refine hQ _ ⟨I.ok,I.os,I.bare,⟨λ b o e n hb hx=>?_,λ b o e n hb hx=>?_,I.base.free,λ b o e hx=>?_,I.base.tups,I.base.frzs,I.base.tbls⟩,⟨_,hn',λ j y v' e1 e2 e3=>?_⟩,λ y c e=>?_,I.free,I.freeC,λ p hp=>?_,λ b ob e=>?_,by simpa using I.len⟩
 ·exact (hs.2 b (aI (aG (av e) I.ok.above))).trans (I.base.keep b o e n hb hx)
 ·obtain ⟨sl,e1⟩:=I.base.slot b o e n hb hx;exact ⟨sl,(hs.2 b (aI (aG (av e) I.ok.above))).trans e1⟩
 ·obtain ⟨o',e1⟩:=I.base.there b o e hx;exact ⟨o',(hs.2 b (aI (aG (av e) I.ok.above))).trans e1⟩
 ·by_cases hj:j=i
  ·subst hj;rw [bx iσ] at e2;cases e2
  ·rw [bM (aZ hj)] at e2;obtain ⟨u',r',q⟩:=hl j y v' e1 e2 e3;refine ⟨u',r',?_⟩;rcases q with ⟨k,e⟩|⟨k,c,e,z⟩
   ·refine .inl ⟨k,?_⟩;have:y≠n:=λ e=>hj (Jj hN e1 (e ▸ hi));simp [this,e]
   ·exact .inr ⟨k,c,e,z.sameBut hs (cne y c e)⟩
 ·obtain ⟨w',z⟩:=I.cell y c e;exact ⟨w',z.sameBut hs (cne y c e)⟩
 ·obtain ⟨e,n,ne,nf,d⟩:=I.pin p hp;exact ⟨(hs.2 p.1 ne).trans e,n,ne,nf,d⟩
 ·refine (I.hok b ob e).stay (λ c w' hc q=>(hs.2 c ?_).trans q) (λ _ q=>q) λ _ _ q=>q;rintro rfl;rcases hc with z|hc
  ·rw [<- z] at e;rw [I.free] at e;cases e
  ·rw [I.free] at hc;cases hc
end
def Qa {M:Model} {A:An} {E:A3} {e C D:Addr} {b:Bool} {Q:Bool->Shared->Prop} (X:K.In s.heap) (he:s.heap.get? e=some oe) (hcls:oe.cls=.ref C)
  (k1:kitCls K (.ref C) (.ref D)=some b) (k2:subIn K (.ref D) (.type "BaseException")=some true) (hq:Q b s):wpAny M A (excMatches (.ref e) (.ref D)) Q E s:=by
 obtain ⟨L1,L2,L3⟩:=PySem.W.kit_cls (M:=M) X k1;have L4:=fi (M:=M) X k2;have f:=tc_notTuple;obtain ⟨hp,g,d,tk,os⟩:=s;unfold excMatches
 repeat (first|(with_reducible refine wpAny_loadPart_at he ?_;rw [hcls])|with_reducible refine L1.at ?_|with_reducible refine L2.at ?_|with_reducible refine L3.at ?_|with_reducible refine L4.at ?_|wp_step)
 cases b
 ·wp_walk
  exact hq
 ·wp_walk
  exact hq
section
variable {X:Cx} {G:GK} {x n:Str} {np pos hpos:Pos} {i:Nat} {body suite:List Stmt} {b₀:Stmt} {tb:List (Addr × Obj)->GK->TS} {th:List (Addr × Obj)->Addr->TS}
def tTryAs (X:Cx) (i:Nat) (x:Str) (tb:List (Addr × Obj)->GK->TS) (th:List (Addr × Obj)->Addr->TS):TS:=λ D σ H=>∃ Dc,X.mg x=some (.ref Dc)/\subIn X.K (.ref Dc) (.type "BaseException")=some true /\
 ∀ pn,tb pn (λ cls σ' H'=>∃ C,cls=.ref C/\kitCls X.K (.ref C) (.ref Dc)=some true/\∀ a,H' a=none ->
  th pn a { nx:=λ σ2 H2=>D.nx (σ2.set i none) H2,rt:=D.rt,bk:=λ σ2 H2=>D.bk (σ2.set i none) H2,ct:=λ σ2 H2=>D.ct (σ2.set i none) H2 } (σ'.set i (some (.ref a))) (upd H' a (zba a (.ref C)))) D σ H
theorem zcj (B:Bod X) (hc:X.calm=true) (hN:X.N.Nodup) (hi:X.N[i]?=some n) (hlo:X.env.kindOf n=some .local)
  (hb:∀ pn G',PSs ((X.pinned pn).exg G') body (tb pn G')) (hs:∀ pn a,PSs (X.suite pn a) (b₀ :: suite) (th pn a)) (hg:Gl X x:=by rfl) (hdb:(x == ("__debug__":Str))=false:=by decide) :
  PS (X.exg G) (.Try body [.ExceptHandler (some (.Name x np)) (some n) (b₀ :: suite) hpos] [] [] pos) (tTryAs X i x tb th):=by
 intro l8 s σ H D I h;obtain ⟨Dc,hm,hsub,h⟩:=h;have I1:=I.unwish.topn;refine wpAny_Try_except (aQ (hb (X.pn ++ l8) _ [] s σ H D (I1.wish _) (h (X.pn ++ l8))) (λ f s1 q=>?_) λ e s1 q=>?_)
 ·cases f with
  | next =>
   obtain ⟨σ',H',J,q⟩:=q;exact cD ⟨σ',H',J.unwish.ofpn.wish _,q⟩
  | brk=>obtain ⟨σ',H',J,q⟩:=q;exact ⟨σ',H',J.unwish.ofpn.wish _,q⟩
  | cont=>obtain ⟨σ',H',J,q⟩:=q;exact ⟨σ',H',J.unwish.ofpn.wish _,q⟩
  | ret u=>obtain ⟨v,σ',H',J,r,q⟩:=q;exact ⟨v,σ',H',J.unwish.ofpn.wish _,r,q⟩
 ·refine aQ (show wpAny _ _ _ _ _ _ from q) (λ _ s2 q2=>aQ q2 (λ _ s3 q3=>?_) λ _ _ z=>z.elim) λ _ _ z=>z.elim;obtain ⟨a,cls,σ',H',rfl,J,xx,C,rfl,hk,hth⟩:=q3;have J2:Inv (X.suite (X.pn ++ l8) a) [] σ' H' s3:=J.tosuite;obtain ⟨oe,vs,he,hcls,_,_⟩:=xx.obj;refine wpAny_handleBy_cons (codeAny_handlers_test (jw J2 hg hm (Qa J2.kIn he hcls hk hsub ?_) hdb)) (by intro z;cases z);refine codeAny_handlers_suite_as ?_;refine JD J2 (xx.less λ p hp=>by rwa [bH] at hp) λ s4 J4 x4=>?_;have J5:=J4.track (u:=zba a (.ref C)) x4.Ha x4.ga (let ⟨o,vs,e,_,_,d⟩:=x4.obj;⟨o,vs,e,d⟩) x4.pa (ze3 x4.obj);refine QK (X:=X.suite (X.pn ++ l8) a) (v:=.ref a) J5 hN hi (Or.inl hlo) rfl (λ s5 J6=>?_) (Or.inr hlo);refine aQ (hs (X.pn ++ l8) a [] s5 _ _ _ J6 (hth a xx.Ha)) (λ f s6 q6=>?_) λ _ _ z=>False.elim z;cases f with
  | next =>
   obtain ⟨σ7,H7,J7,q7⟩:=q6;exact wS (X:=X.suite (X.pn ++ l8) a) J7 hN hi hlo λ s8 J8=>⟨_,H7,(J8.ofsuite I.ok.hd).ofpn.wish _,q7⟩
  | brk =>
   obtain ⟨σ7,H7,J7,q7⟩:=q6;exact wS (X:=X.suite (X.pn ++ l8) a) J7 hN hi hlo λ s8 J8=>⟨_,H7,(J8.ofsuite I.ok.hd).ofpn.wish _,q7⟩
  | cont =>
   obtain ⟨σ7,H7,J7,q7⟩:=q6;exact wS (X:=X.suite (X.pn ++ l8) a) J7 hN hi hlo λ s8 J8=>⟨_,H7,(J8.ofsuite I.ok.hd).ofpn.wish _,q7⟩
  | ret u =>
   obtain ⟨v,σ7,H7,J7,r7,q7⟩:=q6;exact wS (X:=X.suite (X.pn ++ l8) a) J7 hN hi hlo λ s8 J8=>⟨v,_,H7,(J8.ofsuite I.ok.hd).ofpn.wish _,r7,q7⟩
end
structure FA (K:A0) (mg:A4) (x:Str) (st:Stmt) (ps:A8):Prop where
 ex:∃ f fd,Fun K x x st f fd/\mg x=some (.ref f)/\Binds K fd ps []
def FA.cal {st:Stmt} {k:Nat} (h:FA K mg x st ps) (ok:∀ {f fd},Fun K x x st f fd->FnOk P w K mg base (CXr P w) k f fd ps sp) :
  Cal P w K mg base x k ps [] sp:=by
 obtain ⟨f,fd,F,m,b⟩:=h.ex;exact ⟨f,fd,[],ok F,m,F.kp,b,.nil⟩
def zg1 {h:Heap} {st:Stmt} {f:Addr} {oc:Al} {od an:Aa} {osl:Ae} {kV doc pm cdv ct:Al} (X:K.In h) (G:h.Ns mainGlobals mg)
  (a:nsIn K mainGlobals x=some (some (.ref f))) (l:K.lookup f=some ⟨oc,od,.func (fnOf x x (zS st) (zI st) (ze st) .none kV doc pm an cdv ct),osl⟩)
  (c:codeIn K cdv x=true) (k:keepIn K (.ref f)=true)
  (hb:∀ (kV doc pm:Al) (an:Aa) (cdv ct:Al) (us:A7),us.length=ps.length->bindArgs (fnOf x x (zS st) (zI st) (ze st) .none kV doc pm an cdv ct) ⟨us,[]⟩=pure (ps.zip us)):FA K mg x st ps :=
 ⟨f,_,xX l c k,b0 X G a,(xX l c k).binds hb⟩
def zcA {e:Al} {s':Am} (h:CXr P w [] H s (λ _ _ _=>False) e s'):False:=by
 obtain ⟨_,_,_,_,_,_,_,_,_,z⟩:=h;exact z
end L2
namespace L2
open PySem PySem.Spec PySem.Calls PyProof.Rows
variable {K:A0} {C:Addr} {st:Stmt} {ps:A8}
structure XI (K:A0) (C:Addr):Prop where
 ga:findIn K (.ref C) "__getattribute__"=some (some (.builtin "BaseException.__getattribute__"))
 gt:findIn K (.ref C) "__getattr__"=some none
 cl:findIn K (.ref C) "__class__"=some (some (.builtin "object.__class__"))
 hd:hasDictIn K C=true
 gn:specialIn K (.builtin "object.__class__") "__get__"=some (some (.builtin "getset_descriptor.__get__"))
 tk:takesIn K (.builtin "object.__class__")=some true
 mo:mroIn K C (.type "object")=some true
 mb:subIn K (.ref C) (.type "BaseException")=some true
section
variable {prog:Af} {w:World} {A:An} {E:A3} {s:Am} {K:A0} {a C:Addr} {o:Obj} {vs:Ac}
def VS {hp:Heap} (hx:hp.get? a=some o) (hc:o.cls=.ref C) (hd:o.dict=none) (hv:o.data=.fields vs):PySem.W.InstAt hp a o C none:=by
 refine ⟨hx,hc,?_,?_⟩
 ·obtain ⟨c,d,dt,sl⟩:=o;simp only at hv;subst hv
  rfl
 ·rw [hd]
  trivial
def zcz {Q:Option Value->Shared->Prop} (X:K.In s.heap) (f:XI K C) (hx:s.heap.get? a=some o) (hc:o.cls=.ref C) (hd:o.dict=none) (hv:o.data=.fields vs)
  (h:Q (some (.ref C)) { s with toks:=s.toks + 1 }):wpAny (model prog w) A (getAttr? (.ref a) "__class__") Q E s:=by
 have I:=VS hx hc hd hv;have hf:PySem.W.findObj K C none "__class__"=some (.bind (.builtin "getset_descriptor.__get__") (.builtin "object.__class__")):=by
   obtain ⟨cd,hcd,_⟩:=fB f.hd;simp [PySem.W.findObj,hcd,f.cl,f.gn,f.tk]
 obtain ⟨hh,g,d,t,os⟩:=s;have T0:=I.type (M:=model prog w);have T1:=looks_findIn (M:=model prog w) X f.ga;have T2:=PySem.W.looks_find (M:=model prog w) X I hf;have T3:=looks_findIn (M:=model prog w) X f.gt;have T4:=fi (M:=model prog w) X f.mb;have f3:=F.attr_ValueError.ga.bind (.ref a);unfold getAttr? getAttrBy? getAttrBy;refine af (wpAny_mkText (af (wpAny_attempt (bY (af (T0.at (af (T1.at ?_))))))));dsimp only;have nga:(onTheHeap (Value.ref C) && Value.builtin "BaseException.__getattribute__" == Value.builtin "object.__getattribute__")=false:=by
  have z:(Value.builtin "BaseException.__getattribute__" == Value.builtin "object.__getattribute__")=false:=by decide +kernel
  rw [z,bX]
 rw [nga,aq aE];unfold getAttrByItsOwn
 repeat (any_goals (first|assumption|with_reducible refine T0.at ?_|with_reducible refine T3.at ?_|with_reducible refine T1.at ?_|wp_step))
 refine codeAny_call_builtin F.attr_ValueError.ga.plain F.entry_bexc_ga ?_;have hk:builtinKind "BaseException.__getattribute__"=some .slot:=by decide +kernel
 have hsp:splitId "BaseException.__getattribute__"=some ("BaseException","__getattribute__"):=by decide +kernel
 have hav:=F.args_bexc_ga (.ref a) (Value.str (Str.ofString "__class__") t);simp only [checkBuiltinCall,hk,hsp];refine af ?_;unfold isInstance
 repeat (first|with_reducible refine T2.at ?_|with_reducible refine T0.at ?_|with_reducible refine T4.at ?_|wp_step)
 refine PySem.W.class_get (s:=⟨hh,g,d,t + 1,os⟩) (ox:=o) (od:=none) X I f.mo ?_;refine ao ?_;refine PySem.W.handed_on rfl ?_;exact ao h
def zdJ {vs:Ac} (f:XI K C):PySem.W.KitX K (.ref a) (.ref C) (λ h=>∃ o vs,h.get? a=some o/\o.cls=.ref C/\o.dict=none/\o.data=.fields vs) where
 ty:=λ M h _ ⟨o,vs,e,c,d,v⟩=>(VS e c d v).type
 it:=λ _ _ X _=>by
  obtain ⟨cd,hcd,_⟩:=fB f.hd;unfold PySem.W.clsIn at hcd
  split at hcd
  ·rename_i c' d' cd' sl' ho;intro A' Q' E' s' k q;unfold isType loadHead;exact af (wpAny_loadPart (k _ _ (X _ _ ho)) (ao q))
  ·cases hcd
 ne:=λ h tp dd ma n sl X htp=>by
  obtain ⟨cd,hcd,_⟩:=fB f.hd;refine Bool.eq_false_iff.mpr λ q=>?_;have e:C=tp:=Value.ref.inj (bD.mp q);subst e;unfold PySem.W.clsIn at hcd
  split at hcd
  ·rename_i ho;have z:=(X _ _ ho).symm.trans htp;cases z
  ·cases hcd
 ca:=λ X ⟨o,vs,e,c,d,v⟩ k=>zcz X f e c d v k
end
inductive TyX (K:A0) (H:Hp):V->Value->Prop where
 | old {x:V} {t:Al} (h:TyOf K H x t):TyX K H x t
 | exc {a C:Addr} (h:H a=some (zba a (.ref C))) (f:XI K C):TyX K H (.ref a) (.ref C)
noncomputable def zbS:List V->Option A7
 | []=>some []
 | c :: r=>match ze7 c,zbS r with
  | some u,some us=>some (u :: us)
  | _,_=>none
def zbT {c:V} {u v:Al} (h:ze7 c=some u) (r:RelV c v):v=u:=by
 cases c with
 | ty n=>cases r;exact aU h
 | ref a=>cases r;exact aU h
 | _=>cases h
theorem VY:∀ {cs:Ao} {us vs:A7},zbS cs=some us->Vals cs vs->vs=us
 | [],_,_,h,.nil=>aU h
 | c :: r,us,v :: vs,h,.cons rc rr=>by
  unfold zbS at h
  split at h
  ·rename_i u us' h1 h2;cases h;rw [zbT h1 rc,VY h2 rr]
  ·cases h
theorem zf8 {X:Cx} {l8:A2} {σ:St} {H:Hp} {s:Am} {x:V} {u t:Al} (I:Inv X l8 σ H s) (rx:RelV x u) (ty:TyX X.K H x t) :
  ∃ Hx:Heap->Prop,PySem.W.KitX X.K u t Hx/\Hx s.heap/\u≠.builtin "__main__.__loader__#opaque":=by
 cases ty with
 | @exc a C ea f =>
  cases (show u=Value.ref a from rx);obtain ⟨p,_⟩:=(show ObjOk X.prog X.w H s.heap a (zba a (.ref C)) from I.hok a _ ea);exact ⟨_,zdJ (vs:=#[]) f,p,λ z=>nomatch z⟩
 | old ty =>
  cases ty with
  | non=>cases (show u=Value.none from rx);exact ⟨_,PySem.W.kitx_none,True.intro,λ z=>nomatch z⟩
  | bl y=>cases (show u=Value.bool y from rx);exact ⟨_,PySem.W.kitx_bool,True.intro,λ z=>nomatch z⟩
  | int i=>obtain ⟨t,q⟩:=(show ∃ t,u=Value.int i t from rx);cases q;exact ⟨_,PySem.W.kitx_int,True.intro,λ z=>nomatch z⟩
  | str y=>obtain ⟨t,q⟩:=(show ∃ t,u=Value.str y t from rx);cases q;exact ⟨_,PySem.W.kitx_str,True.intro,λ z=>nomatch z⟩
  | flt y=>obtain ⟨t,q⟩:=(show ∃ t,u=Value.float y t from rx);cases q;exact ⟨_,PySem.W.kitx_float,True.intro,λ z=>nomatch z⟩
  | @lst a xs ea =>
   cases (show u=Value.ref a from rx);obtain ⟨_,_,n,_,h1⟩:=(show ObjOk X.prog X.w H s.heap a (.lst xs) from I.hok a _ ea);exact ⟨_,PySem.W.kitx_list,⟨_,h1,rfl⟩,λ z=>nomatch z⟩
  | @frz a ob xs ea =>
   cases (show u=Value.ref a from rx);obtain ⟨_,_,_,n,_,h1⟩:=(show ObjOk X.prog X.w H s.heap a (.frz ob (.lst xs)) from I.hok a _ ea);exact ⟨_,PySem.W.kitx_list,⟨_,h1,rfl⟩,λ z=>nomatch z⟩
  | @tup a xs ea =>
   cases (show u=Value.ref a from rx);obtain ⟨_,_,_,p⟩:=(show ObjOk X.prog X.w H s.heap a (.tup xs) from I.hok a _ ea);obtain ⟨o,h1,h2,_⟩:=p;exact ⟨_,PySem.W.kitx_tuple,⟨o,h1,h2⟩,λ z=>nomatch z⟩
  | @dK a me ea =>
   cases (show u=Value.ref a from rx);obtain ⟨_,_,vs,_,p⟩:=(show ObjOk X.prog X.w H s.heap a (.dK me) from I.hok a _ ea);obtain ⟨o,es,ep,h1,h2,_⟩:=p;exact ⟨_,PySem.W.kitx_dict,⟨o,h1,h2.1⟩,λ z=>nomatch z⟩
  | @dT a me ea =>
   cases (show u=Value.ref a from rx);obtain ⟨_,_,xs,_,o,es,ep,h1,h2,_⟩:=(show ObjOk X.prog X.w H s.heap a (.dT me) from I.hok a _ ea);exact ⟨_,PySem.W.kitx_dict,⟨o,h1,h2.1⟩,λ z=>nomatch z⟩
  | @ins a C dx fs ea cl ha hn htk hm =>
   cases (show u=Value.ref a from rx);obtain ⟨mA,O,_⟩:=QE I.hok ea;obtain ⟨od,J,_⟩:=O.look;exact ⟨_,PySem.W.kitx_own (cl.get _) cl.hd ha hn htk hm,J,λ z=>nomatch z⟩
def zaH (K:A0):List V->Hp->VK->Prop:=λ xs H Q=>∃ x c t b,xs=[x,c]/\TyX K H x t/\((∃ u,ze7 c=some u/\kitOne K t u=some b)\/(∃ p cs us,c=.ref p/\H p=some (.tup cs)/\zbS cs=some us/\PySem.W.kitAny K t us=some b))/\Q (.bl b) H
def qr {X:Cx}:CallR X (.builtin "isinstance") (zaH X.K):=by
 intro l8 s σ H xs us Q I r h;obtain ⟨x,c,t,b,rfl,ty,hc,q⟩:=h;obtain ⟨v,v2,rfl,rx,rc⟩:=r.two;obtain ⟨Hx,Z,p,nx⟩:=zf8 I rx ty;rcases hc with ⟨u,hu,e⟩|⟨pt,cs,us,rfl,hp,hu,e⟩
 ·obtain rfl:=zbT hu rc;exact PySem.W.kia_one Z I.kIn p e nx λ tk=>⟨.bl b,H,I.tok tk,rfl,q⟩
 ·cases rc;obtain ⟨_,ma,rv,o,h1,h2,n,h3⟩:=(show ObjOk X.prog X.w H s.heap pt (.tup cs) from I.hok pt _ hp);obtain rfl:=VY hu rv;obtain ⟨cl,dd,dt,sl⟩:=o;simp only at h2 h3;subst h2 h3;exact PySem.W.kia_tup Z I.kIn p h1 e nx λ tk=>⟨.bl b,H,I.tok tk,rfl,q⟩
def XD {t:Al} {D:Addr} {b:Bool} (h1:hasDictIn K D=true) (h2:typeIn K (.ref D)=some (.type "type")) (h3:subIn K t (.ref D)=some b):kitCls K t (.ref D)=some b:=by
 obtain ⟨cd,hcd,_⟩:=fB h1;simp [kitCls,hcd,h2,h3]
structure FK (K:A0) (C:Addr) (qual:Str) (st:Stmt) (ps:A8):Prop where
 ex:∃ f fd,Fun K "__init__" qual st f fd/\Mk K C f/\Binds K fd ps []
structure FM (K:A0) (C:Addr) (m qual:Str) (st:Stmt) (ps:A8):Prop where
 ex:∃ f fd,Fun K m qual st f fd/\Meth K C m f/\Binds K fd ps []
def FK.cal {P:Af} {w:World} {mg:A4} {base:Heap} {x:Str} {qual:Str} {k:Nat} {sp:Sp} (h:FK K C qual st ps) (gl:mg x=some (.ref C))
  (ok:∀ {f fd},Fun K "__init__" qual st f fd->FnOk P w K mg base (CXr P w) k f fd ps sp):KCal P w K mg base x C k ps [] sp:=by
 obtain ⟨f,fd,F,m,b⟩:=h.ex;exact ⟨gl,f,fd,[],ok F,m,b,.nil⟩
def FM.cal {P:Af} {w:World} {mg:A4} {base:Heap} {m qual:Str} {k:Nat} {sp:Sp} (h:FM K C m qual st ps) (cl:Cls K C)
  (ok:∀ {f fd},Fun K m qual st f fd->FnOk P w K mg base (CXr P w) k f fd ps sp):MCal P w K mg base C m k ps [] sp:=by
 obtain ⟨f,fd,F,mm,b⟩:=h.ex;exact ⟨cl,f,fd,[],ok F,mm,b,.nil⟩
def zgX {qual:Str} {f:Addr} {oc:Al} {od an:Aa} {osl:Ae} {kV doc pm cdv ct:Al} (mk:makesIn K C=true) (kc:keepIn K (.ref C)=true)
  (a:findIn K (.ref C) "__init__"=some (some (.ref f))) (i:isFn K (.ref f)=true) (l:K.lookup f=some ⟨oc,od,.func (fnOf "__init__" qual (zS st) (zI st) (ze st) .none kV doc pm an cdv ct),osl⟩)
  (c:codeIn K cdv qual=true) (k:keepIn K (.ref f)=true)
  (hb:∀ (kV doc pm:Al) (an:Aa) (cdv ct:Al) (us:A7),us.length=ps.length->bindArgs (fnOf "__init__" qual (zS st) (zI st) (ze st) .none kV doc pm an cdv ct) ⟨us,[]⟩=pure (ps.zip us)):FK K C qual st ps :=
 ⟨f,_,xX l c k,⟨mk,a,i,kc⟩,(xX l c k).binds hb⟩
def zgW {m qual:Str} {f:Addr} {oc:Al} {od an:Aa} {osl:Ae} {kV doc pm cdv ct:Al}
  (a:findIn K (.ref C) m=some (some (.ref f))) (i:isFn K (.ref f)=true) (l:K.lookup f=some ⟨oc,od,.func (fnOf m qual (zS st) (zI st) (ze st) .none kV doc pm an cdv ct),osl⟩)
  (c:codeIn K cdv qual=true) (k:keepIn K (.ref f)=true)
  (hb:∀ (kV doc pm:Al) (an:Aa) (cdv ct:Al) (us:A7),us.length=ps.length->bindArgs (fnOf m qual (zS st) (zI st) (ze st) .none kV doc pm an cdv ct) ⟨us,[]⟩=pure (ps.zip us)):FM K C m qual st ps :=
 ⟨f,_,xX l c k,⟨a,i,k⟩,(xX l c k).binds hb⟩
structure WI (K:A0) (C:Addr):Prop where
 c:findIn K (.ref C) "__class__"=some (some (.builtin "object.__class__"))
 m:mroIn K C (.type "object")=some true
 g:specialIn K (.builtin "object.__class__") "__get__"=some (some (.builtin "getset_descriptor.__get__"))
 t:takesIn K (.builtin "object.__class__")=some true
def WI.ty {H:Hp} {a C dx:Addr} {fs:Aq} (f:WI K C) (cl:Cls K C) (h:H a=some (.ins C dx fs)):TyX K H (.ref a) (.ref C):=.old (.ins h cl f.c f.g f.t f.m)
section
variable {prog:Af} {w:World} {A:An} {E:A3} {s:Am}
end
section
variable {X:Cx} {a e:Expr} {ta:TA} {te:TE} {pos p kp:Pos}
def vA:SlR X (zfM X.K):=zer
def wW:CallR X (.type "list") (λ xs H Q=>∃ p ys,xs=[.ref p]/\(SqL X.K H p ys\/SqT X.K H p ys)/\∀ l,H l=none->Q (.ref l) (upd H l (.lst ys))):=WA
end
section
variable {X:Cx} {v v1 v2:Expr} {es:List Expr} {te:TE} {pos p:Pos}
def zgD (t u:TS):TS:=λ D σ H=>∃ M:St->Hp->Prop,t { D with nx:=M } σ H/\∀ σ' H',M σ' H'->u D σ' H'
def zQ {st:Stmt} {rest:List Stmt} {t u:TS} (h1:PS X st t) (h2:PSs X rest u):PSs X (st :: rest) (zgD t u):=by
 intro l8 s σ H D I ⟨M,ht,hu⟩;refine eF (thn (h1 l8 s σ H _ I ht) λ f s1 q=>?_);cases f with
 | next=>exact let ⟨σ',H',I',q⟩:=q;h2 l8 s1 σ' H' D I' (hu σ' H' q)
 | _=>exact q
def zfh (t u:TS):TS:=λ D σ H=>tSeq t u D σ H
def zg {st:Stmt} {rest:List Stmt} {t u:TS} (h1:PS X st t) (h2:PSs X rest u):PSs X (st :: rest) (zfh t u):=show PSs X (st :: rest) (tSeq t u) from zh h1 h2
structure Nx (N:St->Hp->Prop) (u:TS) (D:Ends):Prop where
 h:∀ σ H,u D σ H->N σ H
def nxt {t u:TS} {D:Ends} {σ:St} {H:Hp} (k:∀ N,Nx N u D->t { D with nx:=N } σ H):zfh t u D σ H:=k (u D) ⟨λ _ _ h=>h⟩
def useN {N:St->Hp->Prop} {u:TS} {D:Ends} {σ:St} {H:Hp} (n:Nx N u D) (q:u D σ H):N σ H:=n.h σ H q
def cut {t u:TS} {D:Ends} {σ:St} {H:Hp} (M:St->Hp->Prop) (h1:t { D with nx:=M } σ H) (h2:∀ σ' H',M σ' H'->u D σ' H'):zgD t u D σ H:=⟨M,h1,h2⟩
end
section
variable {X:Cx} {k:Nat} {x m:Str} {p pos apos:Pos} {e o:Expr} {es:List Expr} {ta:TE} {t:TA}
def passF:zbj (CXr X.prog X.w) X (λ _ _ _=>False):=λ _ _ _ _ _ _ _ h=>let ⟨_,_,_,_,_,_,_,_,_,z⟩:=h;z.elim
def tClN (X:Cx) (k:Nat) (x:Str) (t:TA):TE:=λ σ H Q=>∃ ps dvs sp,Cal X.prog X.w X.K X.mg X.base x k ps dvs sp/\t σ H λ vs H1=>sp (vs ++ dvs) H1 Q (λ _ _ _=>False)
def ZW (hr:Room k X.A) (ha:PA X (e :: es) t) (hg:Gl X x:=by rfl) (hdb:(x == ("__debug__":Str))=false:=by decide)
  (he:starEach (e :: es) X.env=(false,eval e X.env) :: starEach es X.env:=by rfl) (hpl:(backTo pos (starEach es X.env)).any (·.1)=false:=by rfl) :
  PE X (.Call (.Name x p) (e :: es) [] pos) (tClN X k x t):=by
 intro l8 s σ H Q I h;obtain ⟨ps,dvs,sp,⟨f,fd,ds,F,hm,hk,hb,hd⟩,h⟩:=h;refine bI (jw I hg hm ?_ hdb);refine dh (h₀:=X.base) I.ok.mod.kin hk (we (ha pos l8 s σ H _ I h) λ us s1 vs H1 I1 r q=>⟨I1.kIn,?_⟩) he hpl;exact zde F hr hb hd passF I1 r q
def tMkN (X:Cx) (k:Nat) (x:Str) (t:TA):TE:=λ σ H Q=>∃ C ps dvs sp,KCal X.prog X.w X.K X.mg X.base x C k ps dvs sp/\t σ H λ vs H1=>∀ y dx,H1 y=none->H1 dx=none->dx≠y ->
 sp (.ref y :: (vs ++ dvs)) (upd (upd H1 dx (.own y)) y (.ins C dx [])) (λ v H2=>v=.non/\Q (.ref y) H2) (λ _ _ _=>False)
def zfU (hr:Room (k + 1) X.A) (ha:PA X (e :: es) t) (hg:Gl X x:=by rfl) (hdb:(x == ("__debug__":Str))=false:=by decide)
  (he:starEach (e :: es) X.env=(false,eval e X.env) :: starEach es X.env:=by rfl) (hpl:(backTo pos (starEach es X.env)).any (·.1)=false:=by rfl) :
  PE X (.Call (.Name x p) (e :: es) [] pos) (tMkN X k x t):=by
 intro l8 s σ H Q I h;obtain ⟨C,ps,dvs,sp,⟨hm,f,fd,ds,F,M,hb,hd⟩,h⟩:=h;refine bI (jw I hg hm ?_ hdb);refine dh (h₀:=X.base) I.ok.mod.kin M.kp (we (ha pos l8 s σ H _ I h) λ us s1 vs H1 I1 r q=>⟨I1.kIn,?_⟩) he hpl;exact zdd M F hr hb hd passF I1 r q
def tMthN (X:Cx) (k:Nat) (m:Str) (ta:TE) (t:TA):TE:=λ σ H Q=>ta σ H λ y H1=>∃ a C dx fs ps dvs sp,y=.ref a/\H1 a=some (.ins C dx fs)/\fs.lookup m=none /\
 MCal X.prog X.w X.K X.mg X.base C m k ps dvs sp/\t σ H1 λ vs H2=>sp (.ref a :: (vs ++ dvs)) H2 Q (λ _ _ _=>False)
def zdl {pl:Sem Bool} (hr:Room k X.A) (he:PE X o ta)
  (ht:eval (.Call (.Attribute o m apos) [] [] pos) X.env=(do
   let ov <- eval o X.env
   standAt apos.atName
   let (f,first) <- holding [ov] (getMethod ov m pl)
   callWith pos f first (backTo pos (starEach [] X.env)) (backToKw pos (keywordEach [] X.env))):=by rfl) :
  PE X (.Call (.Attribute o m apos) [] [] pos) (tMthN X k m ta tNil):=by
 intro l8 s σ H Q I h;refine ee (pl:=pl) (thn (he l8 s σ H _ I h) λ u s1 hz=>?_) ht;obtain ⟨x,H1,I1,rx,a,C,dx,fs,ps,dvs,sp,ex,ea,l,⟨c,f,fd,ds,F,hm,hb,hd⟩,q⟩:=hz;subst ex;obtain rfl:u=Value.ref a:=rx;refine vN I1 ea c hm l ?_;exact fj (first:=[.ref a]) I1.kIn hm.kp (zde (us:=[.ref a]) (vs:=[.ref a]) F hr hb hd passF I1 (.cons rfl .nil) q)
end
noncomputable def qL (cells:List (Str × Addr)):List (Str × NameKind)->List (Str × Addr)->List (Str × Addr)
 | [],cs=>cs
 | (n,k) :: r,cs=>if k=.free then qL cells r ((n,(cells.lookup n).getD 0) :: cs) else qL cells r cs
def zcC (cells:List (Str × Addr)) (ns:List (Str × NameKind)):Prop:=∀ y∈ns,y.2=.free->∃ c,cells.lookup y.1=some c
def vp {scope:Scope} {env:Env} (h:zcC env.cells scope.names):closureFor scope env=pure (qL env.cells scope.names []):=by
 simp only [closureFor];have key:∀ (ns:List (Str × NameKind)) (cs:List (Str × Addr)),zcC env.cells ns ->
   (forIn ns cs λ x r=>if (x.2 == NameKind.free)=true then do let c <- cellOf env x.1;pure (ForInStep.yield ((x.1,c) :: r)) else pure (ForInStep.yield r):Sem (List (Str × Addr)))=pure (qL env.cells ns cs):=by
  intro ns
  induction ns with
  | nil=>intro cs _;rfl
  | cons y r ih =>
   intro cs hc;obtain ⟨n,k⟩:=y;have hr:zcC env.cells r:=λ z hz=>hc z (aB _ hz);rw [List.forIn_cons];by_cases hk:k=.free
   ·subst hk;obtain ⟨c,e⟩:=hc (n,.free) bw rfl;have e':cellOf env n=pure c:=by unfold cellOf;simp only at e;rw [e]
    simp only [cg,dU,e',pure_bind];rw [ih _ hr];simp only at e;simp [qL,e]
   ·have hb:(k == NameKind.free)=false:=by simpa using hk
    simp only [hb,aO,bE,pure_bind];rw [ih _ hr];simp [qL,hk]
 have:=key scope.names [] h
 first
  | exact this
  | (simp only [bind_pure] at *;exact this)
theorem vP {cells:List (Str × Addr)} {x:Str} {c:Addr}:∀ {ns:List (Str × NameKind)} {cs:List (Str × Addr)},zcC cells ns->(∀ c,cs.lookup x=some c->cells.lookup x=some c)->(qL cells ns cs).lookup x=some c->cells.lookup x=some c
 | [],_,_,hs,h=>hs c h
 | (n,k) :: r,cs,hc,hs,h=>by
  have hr:zcC cells r:=λ z hz=>hc z (aB _ hz);unfold qL at h
  split at h
  ·rename_i hk;obtain ⟨d,e⟩:=hc (n,k) bw hk;refine vP hr (λ c' hc'=>?_) h;rw [cF] at hc'
   split at hc'
   ·rename_i hx;have hx:x=n:=by simpa using hx
    subst hx;simp only at e;rw [e] at hc' ⊢;exact hc'
   ·exact hs c' hc'
  ·exact vP hr hs h
theorem wG {cells:List (Str × Addr)} {x:Str}:∀ {ns:List (Str × NameKind)} {cs:List (Str × Addr)},(∃ c,cs.lookup x=some c)->∃ c,(qL cells ns cs).lookup x=some c
 | [],_,h=>h
 | (n,k) :: r,cs,h=>by
  unfold qL
  split
  ·refine wG ?_;rw [cF]
   split
   ·exact ⟨_,rfl⟩
   ·exact h
  ·exact wG h
theorem vO {cells:List (Str × Addr)} {x:Str}:∀ {ns:List (Str × NameKind)} {cs:List (Str × Addr)},(x,NameKind.free)∈ns->∃ c,(qL cells ns cs).lookup x=some c
 | [],_,h=>by simp at h
 | (n,k) :: r,cs,h=>by
  unfold qL;rcases az.mp h with h|h
  ·cases h;rw [aA rfl];exact wG ⟨(cells.lookup x).getD 0,by rw [cF];simp⟩
  ·split <;> exact vO h
noncomputable def zdf (scope osc:Scope):Scope :=
 { scope with names:=scope.names.map λ (n,k)=>if (k == .free && osc.kind == .function && osc.names.lookup n == some .cell) then (n,.cell) else (n,k) }
def zaG {scope osc:Scope} {x:Str} (hcell:∀ y∈scope.names,y.2≠.cell) (h:(zdf scope osc).names.lookup x=some .cell\/(zdf scope osc).names.lookup x=some .free):(x,NameKind.free)∈scope.names:=by
 have key:∀ k,(k=.cell\/k=.free)->(zdf scope osc).names.lookup x=some k->(x,NameKind.free)∈scope.names:=λ k hk hl=>by
  have hm:=bL hl;obtain ⟨⟨n,k'⟩,hm',e⟩:=aP.mp hm;simp only at e
  split at e
  ·rename_i hc;simp only [cK,bD] at hc;cases e;rw [<- hc.1.1];exact hm'
  ·cases e;rcases hk with rfl|rfl
   ·exact absurd rfl (hcell _ hm')
   ·exact hm'
 rcases h with h|h
 ·exact key _ (.inl rfl) h
 ·exact key _ (.inr rfl) h
noncomputable def cxC (X:Cx) (N:A8) (scope:Scope) (s:Am) (H:Hp) (fp:Ab) (l8:A2):Cx where
 prog:=X.prog
 w:=X.w
 K:=X.K
 mg:=X.mg
 base:=X.base
 A:=X.A
 N:=N
 s₀:=s
 H₀:=H
 env:=compEnvC scope (qL X.env.cells scope.names []) s.heap.objs.size X.env
 outer:=X.stack
 stack:=X.stack
 ex:=fp
 fn:=λ _=>false
 calm:=X.calm
 pn:=X.pn ++ l8
 xe:=λ _ _=>False
noncomputable def stC (nv:Nat) (caps:Ai) (σ:St):St:=List.replicate nv none ++ caps.map λ k=>(σ[k]?).getD none
structure CompOk (osc scope:Scope) (ON:A8) (vars:A8) (caps:Ai):Prop where
 kind:scope.kind=.function
 cell:∀ y∈scope.names,y.2≠.cell
 loc:∀ y∈scope.names,y.2=.local->scope.names.lookup y.1=some .local
 free:∀ y∈scope.names,y.2=.free->osc.names.lookup y.1=some .cell\/osc.names.lookup y.1=some .free
 caps:∀ k∈caps,k < ON.length/\scope.names.lookup (ON.getD k Str.empty)=some .free
noncomputable def zbR (osc scope:Scope) (ON:A8) (caps:Ai):Bool :=
 scope.kind == .function && scope.names.all (λ y=>y.2 != .cell) && scope.names.all (λ y=>y.2 != .local || scope.names.lookup y.1 == some .local) &&
 scope.names.all (λ y=>y.2 != .free || (osc.names.lookup y.1 == some .cell || osc.names.lookup y.1 == some .free)) && caps.all λ k=>decide (k < ON.length) && scope.names.lookup (ON.getD k Str.empty) == some .free
def VW {osc scope:Scope} {ON vars:A8} {caps:Ai} (h:zbR osc scope ON caps=true):CompOk osc scope ON vars caps:=by
 simp only [zbR,cK,dc,bD,bne_iff_ne,Bool.or_eq_true,bJ] at h;obtain ⟨⟨⟨⟨h1,h2⟩,h3⟩,h4⟩,h5⟩:=h;refine ⟨h1,h2,λ y hy e=>(h3 y hy).resolve_left (λ z=>z e),λ y hy e=>(h4 y hy).resolve_left (λ z=>z e),λ k hk=>h5 k hk⟩
theorem Q4 {osc:Scope} {x:Str}:∀ {ns:List (Str × NameKind)},ns.lookup x=some .free ->
  (ns.map λ (n,k)=>if (k == NameKind.free && osc.kind == .function && osc.names.lookup n == some .cell) then (n,NameKind.cell) else (n,k)).lookup x=some .cell \/
  (ns.map λ (n,k)=>if (k == NameKind.free && osc.kind == .function && osc.names.lookup n == some .cell) then (n,NameKind.cell) else (n,k)).lookup x=some .free
 | [],h=>by simp at h
 | (n,k) :: r,h=>by
  have ih:=@Q4 osc x r;rw [b5];show List.lookup x ((if (k == NameKind.free && osc.kind == .function && osc.names.lookup n == some .cell)=true then (n,NameKind.cell) else (n,k)) :: _)=_\/List.lookup x ((if (k == NameKind.free && osc.kind == .function && osc.names.lookup n == some .cell)=true then (n,NameKind.cell) else (n,k)) :: _)=_
  cases hx:x == n with
  | true =>
   simp only [cF,hx] at h;cases h
   split
   ·exact .inl (by simp [cF,hx])
   ·exact .inr (by simp [cF,hx])
  | false =>
   simp only [cF,hx] at h
   split <;> (simp only [cF,hx];exact ih h)
section
variable {X:Cx} {l8:A2} {σ:St} {H:Hp} {s:Am} {fp:Ab} {N vars:A8} {caps:Ai} {scope osc:Scope}
theorem zdN (I:Inv X l8 σ H s) (hosc:X.env.scope=osc) (C:CompOk osc scope X.N vars caps) (hN:N=vars ++ caps.map λ k=>X.N.getD k Str.empty)
  (hf:∀ b∈fp,Z2 X l8 H b) (hfo:∀ b∈fp,∃ o,s.heap.get? b=some o)
  {h':Heap} {tk:Nat} {mm:A4} (hns:h'.Ns s.heap.objs.size mm) (hk:∀ b o,s.heap.get? b=some o->h'.get? b=some o) :
  Inv (cxC X N scope s H fp l8) [] (stC vars.length caps σ) H { s with heap:=h',toks:=tk }:=by
 have hkf:∀ y∈scope.names,y.2=.free->X.env.kindOf y.1=some .cell\/X.env.kindOf y.1=some .free:=λ y hy e=>by
  have z:=C.free y hy e;rw [<- hosc] at z;exact z
 have hcl:zcC X.env.cells scope.names:=λ y hy e=>I.ok.has y.1 (hkf y hy e);have get:∀ x c,(qL X.env.cells scope.names []).lookup x=some c->X.env.cells.lookup x=some c:=λ x c h=>vP hcl (λ c h=>by simp at h) h;refine ⟨⟨I.ok.mod,C.kind,I.ok.glob,I.ok.blt,ap _,λ x y c h1 h2=>I.ok.inj x y c (get x c h1) (get y c h2),λ x hx=>vO (zaG (osc:=X.env.scope) C.cell hx),λ _ _ h _=>Bool.noConfusion h,I.ok.hd,I.ok.frames,.inl rfl,
   λ b hb=>⟨?_,λ x c h=>(hf b hb).2.2.2.2.1 x c (get x c h)⟩,I.bs,bc I.ok.bsz I.sz,λ b o e hb=>?_,λ b hb z=>(az.mp (I.stkSub b z)).elim (hf b hb).2.1 (hf b hb).2.2.1,I.stack,I.stkFree⟩,
  rfl,I.bare,Un.kept hk,⟨_,hns,λ i x v e1 e2 e3=>?_⟩,λ x c h=>?_,I.hok.fresh (ap _),λ x c h=>I.freeC x c (get x c h),λ p hp=>?_,I.hok.kept hk,?_⟩
 ·obtain ⟨o,e⟩:=hfo b hb;exact aI (av e)
 ·rcases (hf b hb).2.2.2.1 with z|z
  ·exact I.ok.noex b o e z
  ·exact absurd (aG (av (I.ok.bs b o e).1) z) (cm _)
 ·have hi:¬ i < vars.length:=λ hi=>by
   unfold stC at e2;rw [aY (by simpa using hi),eO] at e2
   split at e2 <;> cases e2
  have e1':(vars ++ caps.map λ k=>X.N.getD k Str.empty)[i]?=some x:=by rw [<- hN];exact e1
  unfold stC at e2;rw [aS (by simpa using hi),bR,au] at e2;rw [aS (by lia),au] at e1';cases ek:caps[i - vars.length]? with
  | none=>rw [ek] at e2;cases e2
  | some k =>
   rw [ek] at e1' e2;obtain ⟨hkl,hlk⟩:=C.caps k (ai ek);have ex:X.N.getD k Str.empty=x:=by simpa using e1'
   have es:σ[k]?.getD none=some v:=by simpa using e2
   have es':σ[k]?=some (some v):=by
    cases q:σ[k]? with
    | none=>rw [q] at es;cases es
    | some z=>rw [q] at es;simp only [ci] at es;rw [es]
   have eN:X.N[k]?=some x:=by
    rw [<- ex,aT,ae hkl];rfl
   rw [ex] at hlk;have hm:(x,NameKind.free)∈scope.names:=bL hlk;have hkx:=hkf _ hm rfl;obtain ⟨m,_,hl⟩:=I.loc;obtain ⟨u,r,L⟩:=hl k x v eN es' (hkx.elim (λ z=>.inr (.inl z)) λ z=>.inr (.inr z));refine ⟨u,r,.inr ⟨Q4 (osc:=X.env.scope) hlk,?_⟩⟩;obtain ⟨c',ec⟩:=vO (cells:=X.env.cells) (cs:=[]) hm;rcases L with ⟨z,_⟩|⟨_,c,ec2,o,ho,hd⟩
   ·rcases hkx with y|y <;> (simp only at y;rw [y] at z;cases z)
   ·have z:=get x c' ec;rw [ec2] at z;obtain rfl:c=c':=aU z;exact ⟨c,ec,o,hk _ _ ho,hd⟩
 ·obtain ⟨v,o,ho,hd⟩:=I.cell x c (get x c h);exact ⟨v,o,hk _ _ ho,hd⟩
 ·have hp':p∈X.pn ++ l8:=by simpa [cxC] using hp
  obtain ⟨e,n,ne,nf,d⟩:=I.pin p hp';exact ⟨hk _ _ e,n,aI (av e),λ z=>(az.mp (I.stkSub _ z)).elim ne nf,d⟩
 ·show (stC vars.length caps σ).length=N.length
  rw [hN];simp [stC]
def za1 {σ':St} {H':Hp} {s':Am} (I:Inv X l8 σ H s) (hf:∀ b∈fp,Z2 X l8 H b) (I':Inv (cxC X N scope s H fp l8) [] σ' H' s'):Inv X l8 σ H' s' :=
 I.call' (ch:=fp) I'.os I'.base I'.hok I'.bare λ b hb=>⟨(hf b hb).2.2.2.1,(hf b hb).2.1,(hf b hb).2.2.2.2.1,(hf b hb).2.2.2.2.2⟩
end
section
variable {prog:Af} {w:World} {A:An} {R:Result->Shared->Prop} {s:Am}
abbrev NoX:Value->Shared->Prop:=λ _ _=>False
theorem zcB {elt target iter:Expr} {ifs:List Expr} {scope:Scope} {pos:Pos} {it mf:Al} {env:Env} (I:Nat->Shared->Prop)
  (turn:∀ n s,I n s->wpAny (model prog w) A (pyNext it) (λ r s₁=>match r with
   | none=>R (.ok .next) s₁
   | some v=>wpAny (model prog w) A (letOwnedTupleGo target it v) (λ _ s₁'=>wpAny (model prog w) A (assign target env v) (λ _ s₂ =>
     wpAny (model prog w) A (forIn ifs true λ c r=>if r=true then do let ok <- isTrue c env (eval c env);pure (ForInStep.yield ok) else pure (ForInStep.yield r)) (λ ok s₃ =>
      if ok=true then wpAny (model prog w) A (eval elt env) (λ x s₄ =>
       wpAny (model prog w) A (call (.builtin "list.append") [mf,x]) (λ _ s₅=>∃ m,m < n/\I m s₅) NoX s₄) NoX s₃
      else ∃ m,m < n/\I m s₃) NoX s₂) NoX s₁') NoX s₁) NoX s)
  (n:Nat) (h:I n s) :
  codeAny (model prog w) A (.compLoop (.ListComp elt [⟨target,iter,ifs,0⟩] scope pos) 0 it mf env) R s:=by
 refine codeAny_loop rfl I (λ n s hI=>?_) n h;show wpAny _ A ((compTurn (.ListComp elt [⟨target,iter,ifs,0⟩] scope pos) 0 it mf env).onRaise (λ x=>do noteFrame x env;theTreesLotGoes x)) _ _ s
 refine wpAny_noted ?_;rw [compTurn_list];refine af (fq (af (aQ (turn n s hI) (λ r s₁ h₁=>?_) λ _ _ h'=>h'.elim)));cases r with
 | none=>exact ao h₁
 | some v =>
  refine af (aQ h₁ (λ _ s₁' h₁'=>?_) λ _ _ h'=>h'.elim);refine af (aQ h₁' (λ _ s₂ h₂=>af (aQ h₂ (λ ok s₃ h₃=>?_) λ _ _ h'=>h'.elim)) λ _ _ h'=>h'.elim);cases ok with
  | false=>exact ao ⟨rfl,h₃⟩
  | true =>
   exact af (af (aQ h₃ (λ x s₄ h₄=>af (aQ h₄ (λ _ s₅ h₅=>ao (ao ⟨rfl,h₅⟩)) λ _ _ h'=>h'.elim)) λ _ _ h'=>h'.elim))
end
def zeg (X:Cx) (ifs:List Expr) (t:TT):Prop :=
 ∀ (l8:A2) (s:Am) (σ:St) (H:Hp) (Q:Bool->Hp->Prop),Inv X l8 σ H s->t σ H Q ->
  wpAny (model X.prog X.w) X.A (forIn ifs true λ c r=>if r=true then do let ok <- isTrue c X.env (eval c X.env);pure (ForInStep.yield ok) else pure (ForInStep.yield r)) (TP X l8 σ Q) X.xe s
def tYes:TT:=λ _ H Q=>Q true H
def z6 {X:Cx}:zeg X [] tYes:=λ _ _ _ H _ I h=>wpAny_tests_nil ⟨H,I,h⟩
def zbo {X:Cx} {c:Expr} {t:TT} (h:PT X c t):zeg X [c] t:=λ l8 s σ H Q I hw=>wpAny_tests_one (h l8 s σ H Q I hw)
abbrev CB (α:Type):=Shared->Hp->List Addr->List (Addr × Obj)->α
def tLc (wi:TI) (nv:Nat) (caps:Ai) (g:CB TG) (tt:CB TT) (te:CB TE):TE:=λ σ H Q=>wi σ H λ J H1=>∀ (s3:Am) (H3:Hp) (fp:Ab) (pns:A2) mf,H1 mf=none ->
 ∃ W:Nat->Nat->St->Hp->Prop,(∃ m,W 0 m (stC nv caps σ) (upd H1 mf (.lst [])))/\∀ i m σ' H',W i m σ' H' ->
  (J.stop i H'/\Q (.ref mf) H')\/(J.go i H'/\∃ N:St->Hp->Prop,(∀ σ'' H'',N σ'' H''->∃ m',m' < m/\W (i + 1) m' σ'' H'')/\∀ x H'',J.yld i H' x H''->g s3 H3 fp pns x σ' H'' λ σ2 H2=>tt s3 H3 fp pns σ2 H2 λ b H5 =>
   if b=true then te s3 H3 fp pns σ2 H5 λ y H4=>∃ ys,H4 mf=some (.lst ys)/\ys.length < sizeLine/\N σ2 (upd H4 mf (.lst (ys ++ [y]))) else N σ2 H5)
section
variable {X:Cx} {elt target iter:Expr} {ifs:List Expr} {scope osc:Scope} {pos:Pos} {wi:TI} {g:CB TG} {tt:CB TT} {te:CB TE} {N vars:A8} {caps:Ai}
theorem JE {l8:A2} {σ:St} {H2:Hp} {s2:Am} {it:Addr} {fp:Ab} {tn:Nat->Heap->Prop} {J:It} {Q:VK} {RR:Value->Addr->Result->Shared->Prop} {E:A3}
  (hosc:X.env.scope=osc) (C:CompOk osc scope X.N vars caps) (hN:N=vars ++ caps.map λ k=>X.N.getD k Str.empty) (hc:X.calm=true)
  (hg:∀ s H fp l8,PG (cxC X N scope s H fp l8) target (g s H fp l8)) (ht:∀ s H fp l8,zeg (cxC X N scope s H fp l8) ifs (tt s H fp l8)) (he:∀ s H fp l8,PE (cxC X N scope s H fp l8) elt (te s H fp l8))
  (I2:Inv X l8 σ H2 s2) (T:Turn X.prog X.w X.K target J fp it tn) (st2:tn 0 s2.heap) (hf:∀ b∈fp,Z2 X l8 H2 b)
  (h:∀ (s3:Am) (H3:Hp) (fp:Ab) (pns:A2) mf,H2 mf=none->∃ W:Nat->Nat->St->Hp->Prop,(∃ m,W 0 m (stC vars.length caps σ) (upd H2 mf (.lst [])))/\∀ i m σ' H',W i m σ' H' ->
   (J.stop i H'/\Q (.ref mf) H')\/(J.go i H'/\∃ N:St->Hp->Prop,(∀ σ'' H'',N σ'' H''->∃ m',m' < m/\W (i + 1) m' σ'' H'')/\∀ x H'',J.yld i H' x H''->g s3 H3 fp pns x σ' H'' λ σ2 H2=>tt s3 H3 fp pns σ2 H2 λ b H5 =>
    if b=true then te s3 H3 fp pns σ2 H5 λ y H4=>∃ ys,H4 mf=some (.lst ys)/\ys.length < sizeLine/\N σ2 (upd H4 mf (.lst (ys ++ [y]))) else N σ2 H5))
  (hRR:∀ mf C s' H' m,Inv X l8 σ H' s'->Q (.ref mf) H'->s'.heap.Ns C m->H' C=none->C≠X.env.locals->X.s₀.heap.objs.size<=C->(∀ x c,X.env.cells.lookup x=some c->c≠C)->(∀ p∈X.pn ++ l8,p.1≠C)->RR (.ref mf) C (.ok .next) s') :
  wpAny (model X.prog X.w) X.A (newList []) (λ mf s₃=>wpAny (model X.prog X.w) X.A (newFunctionEnv scope X.env.globals (qL X.env.cells scope.names []) [] X.env.qual none .none (some X.env)) (λ cenv s₄ =>
   codeAny (model X.prog X.w) X.A (.compStart (.ListComp elt [⟨target,iter,ifs,0⟩] scope pos) 0 (.ref it) mf { cenv with scope:=relabel scope X.env }) (RR mf cenv.locals) s₄) E s₃) E s2:=by
 refine wpAny_newObj_type (wpAny_newFunctionEnv C.cell (by intro y hy;simp at hy) (λ h₁ hns₁ hsb₁=>?_) C.kind);obtain ⟨W,⟨m0,w0⟩,turn⟩:=h { s2 with heap:=s2.heap.push { cls:=.type "list",dict:=none,data:=.seq ([]:A7).toArray } } (upd H2 s2.heap.objs.size (.lst [])) fp l8 s2.heap.objs.size I2.fresh;have I3:Inv X l8 σ (upd H2 s2.heap.objs.size (.lst [])) { s2 with heap:=s2.heap.push { cls:=.type "list",dict:=none,data:=.seq ([]:A7).toArray } }:=I2.lnew (ma:=[]) (t':=s2.toks) .nil (by decide);dsimp only at hns₁ hsb₁ ⊢;have hfo:∀ b∈fp,∃ o,s2.heap.get? b=some o:=λ b hb=>let ⟨o,e,_⟩:=T.obj _ _ st2 b hb;⟨o,e⟩
 have hf3:∀ b∈fp,Z2 X l8 (upd H2 s2.heap.objs.size (.lst [])) b:=λ b hb=>by
  refine ⟨?_,(hf b hb).2⟩;obtain ⟨o,e⟩:=hfo b hb;rw [mw (aI (av e))];exact (hf b hb).1
 generalize hs3:({ s2 with heap:=s2.heap.push { cls:=.type "list",dict:=none,data:=.seq ([]:A7).toArray } }:Am)=s3 at I3 turn;have eh:s2.heap.push { cls:=.type "list",dict:=none,data:=.seq ([]:A7).toArray }=s3.heap:=by rw [<- hs3]
 have old:∀ b o,s2.heap.get? b=some o->s3.heap.get? b=some o:=λ b o e=>by rw [<- eh];exact aj _ e
 rw [eh] at hns₁ hsb₁ ⊢;have es:({ s2 with heap:=h₁,toks:=s2.toks + ([]:List (Str × Value)).length }:Am)={ s3 with heap:=h₁,toks:=s2.toks }:=by rw [<- hs3];rfl
 rw [es];generalize hH3:upd H2 s2.heap.objs.size (.lst [])=H3 at *;have hk:∀ b o,s3.heap.get? b=some o->h₁.get? b=some o:=λ b o e=>hsb₁.extBut b o (aI (av e)) (aj _ e);have I4:Inv (cxC X N scope s3 H3 fp l8) [] (stC vars.length caps σ) H3 { s3 with heap:=h₁,toks:=s2.toks }:=zdN I3 hosc C hN hf3 (λ b hb=>let ⟨o,e⟩:=hfo b hb;⟨o,old b o e⟩) hns₁ hk;have st4:tn 0 h₁:=T.keep _ _ _ st2 λ b hb o e=>hk b o (old b o e);have stat:∀ {H':Hp},(∀ b∈fp,H' b=none)->∀ b∈fp,Z2 (cxC X N scope s3 H3 fp l8) [] H' b:=λ hn b hb =>
  ⟨hn b hb,(I4.ok.exf b hb).1,I4.ok.exfs b hb,.inl hb,(I4.ok.exf b hb).2,λ p hp=>(hf b hb).2.2.2.2.2 p (by simpa [cxC] using hp)⟩
 have loop:∀ s4:Shared,s4={ s3 with heap:=h₁,toks:=s2.toks } ->
   codeAny (model X.prog X.w) X.A (.compLoop (.ListComp elt [⟨target,iter,ifs,0⟩] scope pos) 0 (.ref it) (.ref s2.heap.objs.size) (cxC X N scope s3 H3 fp l8).env) (RR (.ref s2.heap.objs.size) s3.heap.objs.size) s4:=by
  rintro s4 rfl;refine zcB (λ n s'=>∃ i σ' H',Inv (cxC X N scope s3 H3 fp l8) [] σ' H' s'/\tn i s'.heap/\(∀ b∈fp,H' b=none)/\W i n σ' H') ?_ m0 ⟨0,_,H3,I4,st4,λ b hb=>(hf3 b hb).1,w0⟩;rintro n s5 ⟨i,σ5,H5,I5,st5,fr5,w5⟩;rcases turn i n σ5 H5 w5 with ⟨stop,qn⟩|⟨go,NN,hNN,step⟩
  ·refine thn (T.done (cxC X N scope s3 H3 fp l8) rfl rfl rfl hc i [] s5 σ5 H5 NoX I5 (stat fr5) st5 stop) λ r s6 ⟨hr,I6⟩=>?_;subst hr;obtain ⟨m,hn,_⟩:=I6.loc;have hlt:∀ b o,s3.heap.get? b=some o->b≠s3.heap.objs.size:=λ b o e=>aI (av e);obtain ⟨m3,⟨oL,_,_,hoL,_⟩,_⟩:=I3.loc;refine hRR _ _ s6 H5 m (za1 I3 hf3 I6) qn hn I6.free (λ z=>hlt _ _ hoL z.symm) I3.sz (λ x c ec z=>?_) λ p hp z=>hlt _ _ (I3.pin p hp).1 z;obtain ⟨v,o,ho,_⟩:=I3.cell x c ec;exact hlt _ _ ho z
  ·refine thn (T.item (cxC X N scope s3 H3 fp l8) rfl rfl rfl hc i [] s5 σ5 H5 NoX I5 (stat fr5) st5 go) λ r s6 ⟨u,hr,h6⟩=>?_;subst hr;refine thn h6 λ _ s7 ⟨x,H7,I7,r7,y7,st7,fr7⟩=>?_;have I7':=I7.pinned (stat fr7) (T.obj _ _ st7);have again:∀ {σ8:St} {H8:Hp} {s8:Am},Inv (cxC X N scope s3 H3 fp l8) ([] ++ Q9 fp s7.heap) σ8 H8 s8->NN σ8 H8->∃ m,m < n/\∃ i σ' H',Inv (cxC X N scope s3 H3 fp l8) [] σ' H' s8/\tn i s8.heap/\(∀ b∈fp,H' b=none)/\W i m σ' H':=λ {σ8 H8 s8} I8 n8=>by
    obtain ⟨m',hm,w8⟩:=hNN σ8 H8 n8;refine ⟨m',hm,i + 1,σ8,H8,I8.unpinned,T.keep _ _ _ st7 λ b hb o e=>(I8.pin (b,o) (a5 _ (a5 _ (xV hb e)))).1,λ b hb=>?_,w8⟩;obtain ⟨o,e,d⟩:=T.obj _ _ st7 b hb;exact (I8.pin (b,o) (a5 _ (a5 _ (xV hb e)))).2.1
   refine thn (hg s3 H3 fp l8 _ s7 σ5 H7 x u _ I7' r7 (step x H7 y7)) λ _ s8 ⟨σ8,H8,I8,q8⟩=>?_;refine thn (ht s3 H3 fp l8 _ s8 σ8 H8 _ I8 q8) λ b s9 ⟨H9,I9,q9⟩=>?_;cases b with
   | false=>exact again I9 q9
   | true =>
    refine qp (he s3 H3 fp l8 _ s9 σ8 H9 _ I9 q9) λ v s10 y H10 I10 r10 qq_=>?_;obtain ⟨ys,ea,hz,q10⟩:=qq_;refine thn (zE (X:=cxC X N scope s3 H3 fp l8) _ s10 σ8 H10 (.ref s2.heap.objs.size) [y] (.ref s2.heap.objs.size) [v] (λ _ H'=>NN σ8 H') I10 rfl (.cons r10 .nil) ⟨_,ys,y,rfl,rfl,ea,hz,q10⟩) λ _ s11 ⟨_,H11,I11,_,q11⟩=>?_;exact again I11 q11
 exact codeAny_compStart_list (loop _ rfl) (T.self X.A 0 _ _ _ st4 (loop _ rfl))
def xb {ON:A8} (hosc:X.env.scope=osc) (hON:X.N=ON) (hB:zbR osc scope ON caps=true) (hN:N=vars ++ caps.map λ k=>ON.getD k Str.empty) (hc:X.calm=true) (hi:PI X target iter wi)
  (hg:∀ s H fp l8,PG (cxC X N scope s H fp l8) target (g s H fp l8)) (ht:∀ s H fp l8,zeg (cxC X N scope s H fp l8) ifs (tt s H fp l8)) (he:∀ s H fp l8,PE (cxC X N scope s H fp l8) elt (te s H fp l8))
  (hs:∀ x,foldedSetIterable iter X.env x=pure x:=by intro _;rfl):PE X (.ListComp elt [⟨target,iter,ifs,0⟩] scope pos) (tLc wi vars.length caps g tt te):=by
 subst hON;intro l8 s σ H Q I h;have C:CompOk osc scope X.N vars caps:=VW hB;have hclos:closureFor scope X.env=pure (qL X.env.cells scope.names []):=vp λ y hy e=>I.ok.has y.1 (by have z:=C.free y hy e;rw [<- hosc] at z;exact z);rw [eval_ListComp];refine ft (use:=none) rfl hs hclos C.kind C.loc (thn (hi l8 s σ H _ I h) λ v s1 h1=>thn h1 λ itv s2 h2=>?_);obtain ⟨it,fp,tn,J,H2,e,I2,T,st2,f2,hw⟩:=h2;subst e;refine JE (N:=N) (RR:=λ mf Cc=>compPost (model X.prog X.w) X.A X.xe none (EP X l8 σ Q) mf Cc) hosc C hN hc hg ht he I2 T st2 f2 hw λ mf Cc s' H' m I' q hn hC hL hsz hcc hpp=>?_;refine ⟨m,hn,λ h' hs'=>⟨.ref mf,H',?_,rfl,q⟩⟩;exact I'.turned (t':=s'.toks) (it:=Cc) (λ b o hb e=>(hs'.2 b hb).trans e) hC (λ z=>hL z) (.inr hsz) hcc hpp
def Q6 {ON:A8} {i:Nat} {x:Str} {pos' spos:Pos} (hNd:X.N.Nodup) (hix:X.N[i]?=some x) (hx:Loc X.env.scope x)
  (hosc:X.env.scope=osc) (hON:X.N=ON) (hB:zbR osc scope ON caps=true) (hN:N=vars ++ caps.map λ k=>ON.getD k Str.empty) (hc:X.calm=true) (hi:PI X target iter wi)
  (hg:∀ s H fp l8,PG (cxC X N scope s H fp l8) target (g s H fp l8)) (ht:∀ s H fp l8,zeg (cxC X N scope s H fp l8) ifs (tt s H fp l8)) (he:∀ s H fp l8,PE (cxC X N scope s H fp l8) elt (te s H fp l8))
  (hsw:swapsWith (.ListComp elt [⟨target,iter,ifs,0⟩] scope pos) (some (.Name x pos')) spos.line X.env=pure true:=by rfl)
  (hf:X.fn x=true\/X.env.scope.names.lookup x=some .local:=by walk_at "p")
  (hs:∀ x,foldedSetIterable iter X.env x=pure x:=by intro _;rfl):PS X (.Assign [.Name x pos'] (.ListComp elt [⟨target,iter,ifs,0⟩] scope pos) spos) (tAsg (tLc wi vars.length caps g tt te) (gName i)):=by
 subst hON;intro l8 s σ H D I h;have C:CompOk osc scope X.N vars caps:=VW hB;have hclos:closureFor scope X.env=pure (qL X.env.cells scope.names []):=vp λ y hy e=>I.ok.has y.1 (by have z:=C.free y hy e;rw [<- hosc] at z;exact z);rw [exec_Assign_Name_used _ _ _ _ hsw];refine af (fq (af ?_));show wpAny _ X.A (do let _ <- comprehension (.ListComp elt [⟨target,iter,ifs,0⟩] scope pos) scope X.env _ (newList []) false (eval iter X.env) (some (assign (.Name x pos') X.env))) _ _ s
 refine af (aQ (ft (use:=some (assign (.Name x pos') X.env)) (Q:=λ _ s'=>SP X l8 D .next s') rfl hs hclos C.kind C.loc (thn (hi l8 s σ H _ I h) λ v s1 h1=>thn h1 λ itv s2 h2=>?_)) (λ _ s' hq=>ao (ao hq)) λ _ _ e=>e);obtain ⟨it,fp,tn,J,H2,e,I2,T,st2,f2,hw⟩:=h2;subst e;refine JE (N:=N) (Q:=λ v H1=>gName i v σ H1 D.nx) (RR:=λ mf Cc=>compPost (model X.prog X.w) X.A X.xe (some (assign (.Name x pos') X.env)) (λ _ s'=>SP X l8 D .next s') mf Cc) hosc C hN hc hg ht he I2 T st2 f2 hw λ mf Cc s' H' m I' q hn hC hL hsz hcc hpp=>?_;refine wpAny_assign_Name (Xl I' hNd hix hx (v:=.ref mf) rfl (λ s3 I3 ⟨a,sb,ha⟩=>?_) hf);have hne:Cc≠a:=λ z=>by
  rcases ha with e|e
  ·exact hL (z.trans e)
  ·exact hcc x a e z.symm
 refine ⟨m,hn.sameBut sb hne,λ h' hs'=>⟨_,H',?_,q⟩⟩;exact I3.turned (t':=s3.toks) (it:=Cc) (λ b o hb e=>(hs'.2 b hb).trans e) hC (λ z=>hL z) (.inr hsz) hcc hpp
end
variable {b:Bool}
section
variable {X:Cx} {l8:A2} {σ:St} {H:Hp} {s:Am} {h':Heap} {ch:Ab}
def Inv.turnNew {T:Addr} {o:HO} {t':Nat} (I:Inv X l8 σ H s) (hch:∀ b∈ch,Z2 X l8 H b) (hT:s.heap.objs.size<=T) (keep:∀ b o,b ∉ ch->s.heap.get? b=some o->h'.get? b=some o)
  (new:ObjOk X.prog X.w (upd H T o) h' T o):Inv X l8 σ (upd H T o) { s with heap:=h',toks:=t' }:=by
 have hn:H T=none:=I.hok.fresh hT;have lt:∀ b u,s.heap.get? b=some u->b≠T:=λ b u e=>aI (aG (av e) hT);have nch:∀ b u,H b=some u->b ∉ ch:=λ b u e z=>by rw [(hch b z).1] at e;cases e
 refine I.step (g':=s.gens) (d':=s.drawn) (ch:=ch) (λ b hb=>⟨(hch b hb).2.2.2.1,(hch b hb).2.1,(hch b hb).2.2.2.2.1,(hch b hb).2.2.2.2.2⟩) (λ b o _ _ hc e _=>keep b o hc e) (λ b o _ _ hc e _=>⟨o.slots,keep b o hc e⟩)
  (λ b o _ e n=>by rw [mw (lt b o e)];exact n) (λ b o hc e=>⟨o,keep b o hc e⟩) (λ b xs e=>by rw [mw (my e hn)];exact e) (λ b o u e=>by rw [mw (my e hn)];exact e)
  (λ b ps e=>⟨#[],by rw [mw (my e hn),e];simp⟩) (λ m hm=>?_) (λ b u e=>?_) I.bare
 ·obtain ⟨o,es,ep,ho,r⟩:=hm;exact ⟨o,es,ep,keep _ o (λ z=>(hch _ z).2.1 rfl) ho,r⟩
 ·by_cases hb:b=T
  ·subst hb;rw [mv] at e;cases e;exact new
  ·rw [mw hb] at e;refine (I.hok b u e).stay (λ c v hc q=>keep c v ?_ q) (λ c q=>by rw [mw (my q hn)];exact q) λ c xs q=>by rw [mw (my q hn)];exact q
   rcases hc with z|z
   ·rw [z];exact nch b u e
   ·exact nch c _ z
def Inv.turnL {t':Nat} (I:Inv X l8 σ H s) (hch:∀ b∈ch,Z2 X l8 H b) (keep:∀ b o,b ∉ ch->s.heap.get? b=some o->h'.get? b=some o):Inv X l8 σ H { s with heap:=h',toks:=t' }:=by
 have nch:∀ b u,H b=some u->b ∉ ch:=λ b u e z=>by rw [(hch b z).1] at e;cases e
 refine I.step (g':=s.gens) (d':=s.drawn) (ch:=ch) (λ b hb=>⟨(hch b hb).2.2.2.1,(hch b hb).2.1,(hch b hb).2.2.2.2.1,(hch b hb).2.2.2.2.2⟩) (λ b o _ _ hc e _=>keep b o hc e) (λ b o _ _ hc e _=>⟨o.slots,keep b o hc e⟩)
  (λ _ _ _ _ n=>n) (λ b o hc e=>⟨o,keep b o hc e⟩) (λ _ _ e=>e) (λ _ _ _ e=>e) (λ b ps e=>⟨#[],by rw [e];simp⟩) (λ m hm=>?_) (λ b u e=>?_) I.bare
 ·obtain ⟨o,es,ep,ho,r⟩:=hm;exact ⟨o,es,ep,keep _ o (λ z=>(hch _ z).2.1 rfl) ho,r⟩
 ·refine (I.hok b u e).stay (λ c v hc q=>keep c v ?_ q) (λ _ q=>q) λ _ _ q=>q;rcases hc with z|z
  ·rw [z];exact nch b u e
  ·exact nch c _ z
end
noncomputable def Ite (K:A0) (a:Addr):It :=
 ⟨λ i H=>∃ xs x,SqL K H a xs/\xs[i]?=some x,λ i H v H'=>∃ t x,H t=none/\v=.ref t/\(∀ xs,SqL K H a xs->xs[i]?=some x)/\H'=upd H t (.tup [.int i,x]),λ i H=>∃ xs,SqL K H a xs/\xs.length<=i⟩
def zb1 {P:Af} {w:World} {K:A0} {elts:List Expr} {x1} {pos:Pos} (a e it:Addr) (hne:e≠it) :
  Turn P w K (.Tuple elts x1 pos) (Ite K a) [e,it] e (λ i h=>(∃ old,IsEnum h e it i old)/\h.IsListIter it a i) where
 mem:=by simp
 obj:=λ i h st b hb=>by
  obtain ⟨⟨old,he⟩,o,ho,c,d⟩:=st;rcases az.mp hb with rfl|hb
  ·exact ⟨_,he,λ v z=>by cases z⟩
  ·obtain rfl:b=it:=by simpa using hb
   exact ⟨o,ho,λ v z=>by rw [d] at z;cases z⟩
 keep:=λ i h h' st k=>by
  obtain ⟨⟨old,he⟩,hi⟩:=st;exact ⟨⟨old,k e (by simp) _ he⟩,hi.at λ o z=>k it (by simp) o z⟩
 item:=by
  intro X hP hw hK hc i l8 s σ H E I hf st hg;subst hP hw hK;obtain ⟨⟨old,he⟩,hi⟩:=st;obtain ⟨xs,x,hq,hx⟩:=hg;obtain ⟨ma,rv,p,hz⟩:=I.list hq;obtain ⟨u,hu,ru⟩:=rv.get hx;refine wpAny_pyNext_enum_item he hi p.isList (x:=u) (by simpa using hu) hne λ h' he' hi' hT hsz hk=>?_;refine ⟨_,rfl,?_⟩;have I1:Inv X l8 σ (upd H s.heap.objs.size (.tup [.int i,x])) { s with heap:=h',toks:=s.toks + 1 }:=I.turnNew hf (ap _) (λ b o hb q=>hk b o (λ z=>hb (by simp [z])) (λ z=>hb (by simp [z])) q)
   ⟨by show 2<=sizeLine;decide,[.int i s.toks,u],.cons ⟨_,rfl⟩ (.cons ru .nil),⟨_,hT,rfl,_,rfl⟩⟩
  have hn:H s.heap.objs.size=none:=I.hok.fresh (ap _);have ne:∀ b∈[e,it],b≠s.heap.objs.size:=λ b hb=>by
   rcases az.mp hb with rfl|hb
   ·exact aI (av he)
   ·obtain rfl:b=it:=by simpa using hb
    obtain ⟨o,ho,_⟩:=hi;exact aI (av ho)
  have fr:∀ b∈[e,it],(upd H s.heap.objs.size (.tup [.int i,x])) b=none:=λ b hb=>by rw [mw (ne b hb)];exact (hf b hb).1
  refine wpAny_letOwnedTupleGo_enum he' λ h'' he'' hs''=>?_;refine ⟨.ref s.heap.objs.size,_,I1.turnL (t':=s.toks + 1) (ch:=[e]) (λ b hb=>?_) (λ b o hb q=>(hs''.2 b (λ z=>hb (by simp [z]))).trans q),rfl,
   ⟨s.heap.objs.size,x,hn,rfl,λ ys hy=>by rw [I.list_inj hy hq];exact hx,rfl⟩,⟨⟨u,?_⟩,hi'.extBut hs''.extBut (aZ hne)⟩,fr⟩
  ·obtain rfl:b=e:=by simpa using hb
   exact ⟨fr b (by simp),(hf b (by simp)).2⟩
  ·exact he''
 done:=by
  intro X hP hw hK hc i l8 s σ H E I hf st hg;subst hP hw hK;obtain ⟨⟨old,he⟩,hi⟩:=st;obtain ⟨xs,hq,hx⟩:=hg;obtain ⟨ma,rv,p,hz⟩:=I.list hq;have hl:=rv.length;exact wpAny_pyNext_enum_end (I.ok.hd hc) he hi p.isList (by simp;lia) λ h' eb=>⟨rfl,I.turnL (t':=s.toks) hf λ b o hb q=>eb b o (λ z=>hb (by simp [z])) q⟩
 self:=λ _ _ _ _ _ st h=>by
  obtain ⟨⟨old,he⟩,_⟩:=st;exact wpAny_pyIter_enum he h
def WF:bootBuiltins "enumerate"=some (.type "enumerate"):=by decide +kernel
def iEnum (X:Cx) (ta:TA):TI:=λ σ H R=>X.mg "enumerate"=none/\ta σ H λ vs H1=>∃ a xs,vs=[.ref a]/\H1 a=some (.lst xs)/\R (Ite X.K a) H1
def qQ {X:Cx} {a:Expr} {elts:List Expr} {x1} {tp p pos:Pos} {ta:TA} (ha:PA X [a] ta) (hg:Gl X "enumerate":=by rfl)
  (hs:starEach [a] X.env=(false,eval a X.env) :: starEach [] X.env:=by rfl) (hpl:(backTo pos (starEach [] X.env)).any (·.1)=false:=by rfl) :
  PI X (.Tuple elts x1 tp) (.Call (.Name "enumerate" p) [a] [] pos) (iEnum X ta):=by
 intro l8 s σ H R I h;refine bI (xW I hg h.1 WF ?_);refine ba (we (ha pos l8 s σ H _ I h.2) λ us s1 vs H1 I1 r1 q1=>?_) hs hpl;obtain ⟨l,xs,rfl,hq,hR⟩:=q1;obtain ⟨u,rfl,rx⟩:=vb r1;cases rx;obtain ⟨hz,ma,n,rv,hl,e⟩:=I1.lstM hq;refine call_enumerate_1 e λ h' he hi hsz hk=>wpAny_pyIter_enum he ?_;refine ⟨s1.heap.objs.size + 1,[s1.heap.objs.size + 1,s1.heap.objs.size],_,_,H1,rfl,I1.kept (t':=s1.toks) hk,zb1 l _ _ (Nat.succ_ne_self _),⟨⟨_,he⟩,hi⟩,λ b hb=>?_,hR⟩;rcases az.mp hb with rfl|hb
 ·exact I1.fpOk (bZ _) (I1.hok.fresh (bZ _))
 ·obtain rfl:b=s1.heap.objs.size:=by simpa using hb
  exact I1.fpOk (ap _) (I1.hok.fresh (ap _))
def ItAt (b:Bool) (h:Heap) (it a:Addr) (i:Nat):Prop:=if b=true then h.IsListIter it a i else h.IsTupleIter it a i
def SqAt (b:Bool) (h:Heap) (a:Addr) (items:Ac):Prop:=if b=true then h.IsList a items else h.IsTuple a items
noncomputable def zdM (b:Bool):String:=if b=true then "list_iterator" else "tuple_iterator"
def ItAt.at' {h h':Heap} {it a:Addr} {i:Nat} (x:ItAt b h it a i) (hk:∀ o,h.get? it=some o->h'.get? it=some o):ItAt b h' it a i:=by
 cases b <;> exact let ⟨o,ho,r⟩:=x;⟨o,hk o ho,r⟩
def ItAt.obj {h:Heap} {it a:Addr} {i:Nat} (x:ItAt b h it a i):∃ o,h.get? it=some o/\∀ v,o.data≠.cell v:=by
 cases b <;> exact let ⟨o,ho,_,hd⟩:=x;⟨o,ho,λ v z=>by rw [hd] at z;cases z⟩
def SqAt.at' {h h':Heap} {a:Addr} {items:Ac} (x:SqAt b h a items) (hk:∀ o,h.get? a=some o->h'.get? a=some o):SqAt b h' a items:=by
 cases b <;> exact let ⟨o,ho,r⟩:=x;⟨o,hk o ho,r⟩
section
variable {prog:Af} {w:World} {A:An} {E:A3} {s:Am}
end
section
variable {prog:Af} {w:World} {A:An} {E:A3} {s:Am}
def ItAt.new {h:Heap} {it l:Addr} (e:h.get? it=some { cls:=.type (zdM b),data:=.fields #[.ref l,.int 0 0] }):ItAt b h it l 0:=by
 cases b <;> exact ⟨_,e,rfl,rfl⟩
end
def SqB (b:Bool) (K:A0) (H:Hp) (a:Addr) (xs:Ao):Prop:=if b=true then SqL K H a xs else SqT K H a xs
def Inv.sqB {X:Cx} {l8:A2} {σ:St} {H:Hp} {s:Am} {a:Addr} {xs:Ao} (I:Inv X l8 σ H s) (h:SqB b X.K H a xs):∃ ma:List Value,Vals xs ma/\SqAt b s.heap a ma.toArray:=by
 cases b
 ·obtain ⟨ma,r,p,_⟩:=I.tuple (show SqT X.K H a xs from h);exact ⟨ma,r,p⟩
 ·obtain ⟨ma,r,p,_⟩:=I.list (show SqL X.K H a xs from h);exact ⟨ma,r,p.isList⟩
def SqB.there {X:Cx} {l8:A2} {σ:St} {H:Hp} {s:Am} {a:Addr} {xs:Ao} (I:Inv X l8 σ H s) (h:SqB b X.K H a xs):∃ o,s.heap.get? a=some o/\(o.cls=.type "list"\/o.cls=.type "tuple")/\∃ ma n,o.data=.seq ma n:=by
 obtain ⟨ma,_,p⟩:=I.sqB h;cases b
 ·obtain ⟨o,e,c,n,d⟩:=p;exact ⟨o,e,.inr c,_,n,d⟩
 ·obtain ⟨o,e,c,n,d⟩:=p;exact ⟨o,e,.inl c,_,n,d⟩
section
variable {K:A0} {σ:St} {H:Hp}
def XH {a:Addr} {xs:Ao} {DN:St->Hp->Prop} {B:(St->Hp->Prop)->V->St->Hp->Prop} (Pv:Nat->St->Hp->Prop) (h0:Pv 0 σ H) (hl:∀ i σ H,i<=xs.length->Pv i σ H->SqL K H a xs)
  (hs:∀ i x t σ H,xs[i]?=some x->H t=none->Pv i σ H->B (Pv (i + 1)) (.ref t) σ (upd H t (.tup [.int i,x]))) (hd:∀ σ H,Pv xs.length σ H->DN σ H) :
  ∃ W:Nat->Nat->St->Hp->Prop,(∃ m,W 0 m σ H)/\∀ i m σ H,W i m σ H ->
   ((Ite K a).stop i H/\DN σ H)\/((Ite K a).go i H/\∃ N:St->Hp->Prop,(∀ σ' H',N σ' H'->∃ m',m' < m/\W (i + 1) m' σ' H')/\∀ x H',(Ite K a).yld i H x H'->B N x σ H'):=by
 refine ⟨λ i m σ H=>m=xs.length - i/\i<=xs.length/\Pv i σ H,⟨xs.length,by simp,bU _,h0⟩,?_⟩;rintro i m σ H ⟨rfl,hi,p⟩;have q:=hl i σ H hi p;by_cases hlt:i < xs.length
 ·refine .inr ⟨⟨xs,xs[i],q,by simp [hlt]⟩,Pv (i + 1),λ σ' H' p'=>⟨xs.length - (i + 1),by lia,rfl,hlt,p'⟩,λ v H' y=>?_⟩;obtain ⟨t,x,ht,rfl,hx,rfl⟩:=y;exact hs i x t σ _ (hx xs q) ht p
 ·have e:i=xs.length:=by lia
  subst e;exact .inl ⟨⟨xs,q,ap _⟩,hd σ H p⟩
end
section
variable {X:Cx} {N:A8} {scope:Scope} {s:Am} {H:Hp} {fp:Ab} {l8:A2}
theorem cxC_K:(cxC X N scope s H fp l8).K=X.K:=rfl
theorem cxC_mg:(cxC X N scope s H fp l8).mg=X.mg:=rfl
theorem cxC_prog:(cxC X N scope s H fp l8).prog=X.prog:=rfl
theorem cxC_w:(cxC X N scope s H fp l8).w=X.w:=rfl
theorem cxC_base:(cxC X N scope s H fp l8).base=X.base:=rfl
end
structure BCal (P:Af) (w:World) (K:A0) (mg:A4) (base:Heap) (x m:Str) (k:Nat) (ps:A8) (dvs:Ao) (sp:Sp):Prop where
 ex:∃ C f fd ds,mg x=some (.ref C)/\specialIn K (.ref C) "__getattribute__"=some (some (.builtin "type.__getattribute__"))/\readsIn K C (.type "type")=true /\
  findCls K (.ref C) (.type "type") m=some (.val (.ref f))/\handedIn (.ref f)=true/\FnOk P w K mg base (CXr P w) k f fd ps sp/\keepIn K (.ref f)=true/\Binds K fd ps ds/\Vals dvs ds
def BCal.mono {P:Af} {w:World} {K:A0} {mg:A4} {base:Heap} {x m:Str} {j k:Nat} {ps:A8} {dvs:Ao} {sp:Sp} (c:BCal P w K mg base x m j ps dvs sp) (h:j<=k:=by decide):BCal P w K mg base x m k ps dvs sp:=by
 obtain ⟨C,f,fd,ds,a,b,c,d,e,g,r⟩:=c.ex;exact ⟨C,f,fd,ds,a,b,c,d,e,g.mono h,r⟩
section
variable {X:Cx} {G:GK} {k:Nat} {x m:Str} {p pos apos:Pos} {e:Expr} {es:List Expr} {t:TA}
def tBase (X:Cx) (k:Nat) (x m:Str) (G:GK) (t:TA):TE:=λ σ H Q=>∃ ps dvs sp,BCal X.prog X.w X.K X.mg X.base x m k ps dvs sp/\t σ H λ vs H1=>sp (vs ++ dvs) H1 Q (λ cls _ H'=>G cls σ H')
def wR {pl:Sem Bool} (B:Bod X) (hr:Room k X.A) (ha:PA (X.exg G) (e :: es) t) (hg:Gl X x:=by rfl) (hdb:(x == ("__debug__":Str))=false:=by decide)
  (hst:starEach (e :: es) X.env=(false,eval e X.env) :: starEach es X.env:=by rfl) (hpl:(backTo pos (starEach es X.env)).any (·.1)=false:=by rfl)
  (ht:eval (.Call (.Attribute (.Name x p) m apos) (e :: es) [] pos) X.env=(do
   let ov <- eval (.Name x p) X.env
   standAt apos.atName
   let (f,first) <- holding [ov] (getMethod ov m pl)
   callWith pos f first (backTo pos (starEach (e :: es) X.env)) (backToKw pos (keywordEach [] X.env))):=by rfl) :
  PE (X.exg G) (.Call (.Attribute (.Name x p) m apos) (e :: es) [] pos) (tBase X k x m G t):=by
 intro l8 s σ H Q I h;obtain ⟨ps,dvs,sp,⟨C,f,fd,ds,hm,hga,hrd,hfc,hhd,F,hk,hb,hd⟩,h⟩:=h;refine ee (pl:=pl) (jw I hg hm ?_ hdb) ht;refine PySem.W.method_cls I.kIn hga (PySem.W.cls_value I.kIn hrd hfc hhd ?_);have I0:=I.tok (s.toks + 1);refine dh (first:=[]) (h₀:=X.base) I.ok.mod.kin hk (we (ha pos l8 _ σ H _ I0 h) λ us s1 vs H1 I1 r q=>⟨I1.kIn,?_⟩) hst hpl;exact Qy B F hr hb hd I1 r q
end
structure FB (K:A0) (mg:A4) (x m qual:Str) (st:Stmt) (ps:A8):Prop where
 ex:∃ C f fd,mg x=some (.ref C)/\specialIn K (.ref C) "__getattribute__"=some (some (.builtin "type.__getattribute__"))/\readsIn K C (.type "type")=true /\
  findCls K (.ref C) (.type "type") m=some (.val (.ref f))/\Fun K m qual st f fd/\keepIn K (.ref f)=true/\Binds K fd ps []
def FB.cal {P:Af} {w:World} {K:A0} {mg:A4} {base:Heap} {x m qual:Str} {st:Stmt} {ps:A8} {k:Nat} {sp:Sp} (h:FB K mg x m qual st ps)
  (ok:∀ {f fd},Fun K m qual st f fd->FnOk P w K mg base (CXr P w) k f fd ps sp):BCal P w K mg base x m k ps [] sp:=by
 obtain ⟨C,f,fd,a,b,c,d,F,kp,bi⟩:=h.ex;exact ⟨C,f,fd,[],a,b,c,d,rfl,ok F,kp,bi,.nil⟩
def zgZ {K:A0} {mg:A4} {C:Addr} {x m qual:Str} {st:Stmt} {ps:A8} {f:Addr} {oc:Al} {od an:Aa} {osl:Ae} {kV doc pm cdv ct:Al} (gl:mg x=some (.ref C))
  (ga:specialIn K (.ref C) "__getattribute__"=some (some (.builtin "type.__getattribute__"))) (rd:readsIn K C (.type "type")=true) (fc:findCls K (.ref C) (.type "type") m=some (.val (.ref f)))
  (l:K.lookup f=some ⟨oc,od,.func (fnOf m qual (zS st) (zI st) (ze st) .none kV doc pm an cdv ct),osl⟩)
  (c:codeIn K cdv qual=true) (k:keepIn K (.ref f)=true)
  (hb:∀ (kV doc pm:Al) (an:Aa) (cdv ct:Al) (us:A7),us.length=ps.length->bindArgs (fnOf m qual (zS st) (zI st) (ze st) .none kV doc pm an cdv ct) ⟨us,[]⟩=pure (ps.zip us)):FB K mg x m qual st ps :=
 ⟨C,f,_,gl,ga,rd,fc,xX l c k,k,(xX l c k).binds hb⟩
section
variable {X:Cx} {a b:Expr} {ta:TA} {p pos lp lpos:Pos}
noncomputable def rgL (lo:Int) (n:Nat):List V:=(List.range n).map λ (i:Nat)=>V.int (lo + (i:Int))
def zab {lo:Int} {n:Nat} {mf:Ac} (h:ItemsOf (λ i v=>∃ t,v=.int (lo + i * 1) t) mf n):Vals (rgL lo n) mf.toList:=by
 have key:∀ (k:Nat) (l:A7) (m:Nat),l.length=m->(∀ i v,l[i]?=some v->∃ t,v=Value.int (lo + ((k + i:Nat):Int)) t)->Vals ((List.range' k m).map λ (i:Nat)=>V.int (lo + (i:Int))) l:=by
  intro k l
  induction l generalizing k with
  | nil=>intro m hm _;simp at hm;subst hm;exact .nil
  | cons x r ih =>
   intro m hm hv;obtain ⟨m,rfl⟩:∃ m',m=m' + 1:=⟨r.length,by simpa using hm.symm⟩;rw [List.range'_succ,b5];refine .cons ?_ (ih (k + 1) m (by simpa using hm) λ i v e=>?_)
   ·obtain ⟨t,e⟩:=hv 0 x rfl;exact ⟨t,by simpa using e⟩
   ·obtain ⟨t,e'⟩:=hv (i + 1) v (by simpa using e);exact ⟨t,by rw [e'];congr 2;lia⟩
 have:=key 0 mf.toList n (by simpa using h.1) λ i v e=>by
  obtain ⟨t,e'⟩:=h.2 i v (by simpa using e);exact ⟨t,by rw [e'];simp⟩
 rw [rgL,List.range_eq_range'];exact this
def tRg1 (X:Cx) (ta:TA):TE:=λ σ H Q=>X.mg "range"=none/\ta σ H λ vs H1=>lq vs λ v=>iq v λ j=>∀ p,H1 p=none->Q (.ref p) (upd H1 p (.rng 0 j))
def zfT (ha:PA X [a] ta) (hg:Gl X "range":=by rfl) (hs:starEach [a] X.env=[(false,eval a X.env)]:=by rfl):PE X (.Call (.Name "range" p) [a] [] pos) (tRg1 X ta):=by
 intro l8 s σ H Q I h;refine Call_ (xW I hg h.1 boot_range (ba (we (ha pos l8 s σ H _ I h.2) λ us s1 vs H1 I1 r1 q1=>?_) hs rfl));obtain ⟨j,e,q⟩:=zf5 q1;subst e;cases r1 with
 | cons r rr =>
  cases rr;obtain ⟨t,rfl⟩:=r;exact call_range_1 ⟨.ref _,_,I1.laid (o:=.rng 0 j) (λ b o e=>aj _ e) (ap _) ⟨_,_,_,aJ _ rfl⟩,rfl,q _ I1.fresh⟩
def zaE {lo:Int} {n:Nat}:(rgL lo n).length=n:=by simp [rgL]
def zd9 (hc:X.calm=true):CallR X (.type "list") (λ xs H Q=>∃ p lo hi,xs=[.ref p]/\H p=some (.rng lo hi)/\(-(2 ^ 62)<=lo/\lo < 2 ^ 62/\-(2 ^ 62)<=hi/\hi < 2 ^ 62/\(hi - lo).toNat<=1000)/\∀ l,H l=none->Q (.ref l) (upd H l (.lst (rgL lo (hi - lo).toNat)))):=by
 intro l8 s σ H xs us Q I r h;obtain ⟨p,lo,hi,rfl,hq,⟨h1,h2,h3,h4,h5⟩,q⟩:=h;obtain ⟨u,rfl,rx⟩:=vb r;cases rx;obtain ⟨t,u,v,e⟩:=I.hok p _ hq;refine call_list_range (n:=(hi - lo).toNat) (I.ok.hd hc) e (small_one h1 h2 h3 h4) (by rw [rangeSize_one];split <;> lia) (by lia) λ h' tk acc' c' hk hS hit=>?_;exact ⟨.ref _,_,I.laid (o:=.lst (rgL lo (hi - lo).toNat)) (t':=tk) hk (ap _) ⟨by rw [zaE];exact bV (zi h5),acc'.toList,c',zab hit,by simpa using hS⟩,rfl,q _ I.fresh⟩
end
end L2
namespace L2
open PySem PySem.Spec PyProof.Rows
noncomputable def Itd (lo:Int) (n:Nat):It:=⟨λ i _=>i < n,λ i H x H'=>H'=H/\x=.int (lo - i),λ i _=>n<=i⟩
def zb2 {P:Af} {w:World} {K:A0} {tg:Expr} (it:Addr) (lo:Int) (n:Nat):Turn P w K tg (Itd lo n) [it] it (λ i h=>IsRangeIter h it (lo + (i:Nat) * (-1)) ((n:Int) - (i:Nat)) (-1)) where
 mem:=by simp
 obj:=λ i h st b hb=>by
  have e:b=it:=by simpa using hb
  subst e;exact ⟨_,st,λ v z=>by
   have z':Data.fields _=Data.cell v:=z;cases z'⟩
 keep:=λ i h h' st k=>k it (by simp) _ st
 item:=by
  intro X hP hw hK hc i l8 s σ H E I hf st hg;subst hP hw hK;obtain ⟨f0,f1,f2,f3,f4,f5⟩:=hf it (by simp);have W:=Walks.range (prog:=X.prog) (w:=X.w) (I.ok.hd hc) it lo (-1) n;refine W.item i s _ _ hg st λ v h' tk hv st' kk=>?_;obtain ⟨t,rfl⟩:=hv;have I1:Inv X l8 σ H { s with heap:=h',toks:=tk }:=I.turned (λ b o hb e=>kk b o (by simpa using hb) e) f0 f1 f3 f4 f5;refine ⟨_,rfl,zbD (s:={ s with heap:=h',toks:=tk }) (n:="range_iterator") st' rfl rfl (by decide) ⟨.int (lo - i),H,I1,⟨t,?_⟩,⟨rfl,rfl⟩,st',λ b hb=>(hf b hb).1⟩⟩
  congr 1;lia
 done:=by
  intro X hP hw hK hc i l8 s σ H E I hf st hg;subst hP hw hK;obtain ⟨f0,f1,f2,f3,f4,f5⟩:=hf it (by simp);exact wpAny_pyNext_range_end (I.ok.hd hc) st (by have:n<=i:=hg;lia) λ h' eb=>⟨rfl,I.turned (t':=s.toks) (λ b o hb e=>eb b o hb e) f0 f1 f3 f4 f5⟩
 self:=λ _ _ _ _ _ st h=>wpAny_pyIter_rangeiter st h
def wq (a b:Int):Builtin.Range.rangeSize a b (-1)=((a - b).toNat:Int):=by
 unfold Builtin.Range.rangeSize;rw [aq (by decide),show (- (-1:Int))=1 from rfl,Int.ediv_one]
 split <;> lia
def zak {a b:Int} (ha:-(2 ^ 62)<=a) (ha':a < 2 ^ 62) (hb:-(2 ^ 62)<=b) (hb':b < 2 ^ 62):Builtin.Range.small a b (-1)=true:=by
 unfold Builtin.Range.small;rw [wq];simp only [Builtin.Range.rangeFitsLong,cK,Bool.or_eq_true,bJ,bD,show ¬ ((-1:Int) > 0) by decide,bE]
 lia
section
variable {X:Cx} {tg:Expr}
def ze5 {l8:A2} {σ:St} {H:Hp} {s:Am} {R:It->Hp->Prop} {E:A3} {lo hi:Int} {t u v:Tok} {tk:Nat} (I:Inv X l8 σ H s) (h1:-(2 ^ 62)<=lo) (h2:lo < 2 ^ 62) (h3:-(2 ^ 62)<=hi) (h4:hi < 2 ^ 62)
  (q:R (Itd lo (lo - hi).toNat) H):wpAny (model X.prog X.w) X.A (pyIter (.ref s.heap.objs.size)) (PIE X l8 σ tg R) E { s with heap:=s.heap.push { cls:=.type "range",data:=.fields #[.int lo t,.int hi u,.int (-1) v] },toks:=tk }:=by
 refine wpAny_pyIter_range (IsRange.new ..) (zak h1 h2 h3 h4) ?_;have I1:Inv X l8 σ H { s with heap:=s.heap.push { cls:=.type "range",data:=.fields #[.int lo t,.int hi u,.int (-1) v] },toks:=tk }:=I.kept λ b o e=>aj _ e;refine ⟨(s.heap.push { cls:=.type "range",data:=.fields #[.int lo t,.int hi u,.int (-1) v] }).objs.size,[(s.heap.push { cls:=.type "range",data:=.fields #[.int lo t,.int hi u,.int (-1) v] }).objs.size],_,_,H,rfl,
  I1.kept (t':=tk) λ b o e=>aj _ e,zb2 _ lo (lo - hi).toNat,?_,λ b hb=>?_,q⟩
 ·have e1:lo + ((0:Nat):Int) * (-1)=lo:=by simp
  have e2:(((lo - hi).toNat:Nat):Int) - ((0:Nat):Int)=Builtin.Range.rangeSize lo hi (-1):=by rw [wq];lia
  show IsRangeIter _ _ (lo + ((0:Nat):Int) * (-1)) ((((lo - hi).toNat:Nat):Int) - ((0:Nat):Int)) (-1)
  rw [e1,e2];exact aJ _ rfl
 ·have e:b=(s.heap.push { cls:=.type "range",data:=.fields #[.int lo t,.int hi u,.int (-1) v] }).objs.size:=by simpa using hb
  subst e;exact I1.fpOk (ap _) (I1.hok.fresh (ap _))
def iRng3 (X:Cx) (ta:TA):TI:=λ σ H R=>X.mg "range"=none/\ta σ H λ vs H1=>∃ i j:Int,vs=[.int i,.int j,.int (-1)]/\(-1000<=i/\i < 1000/\-1000<=j/\j < 1000)/\R (Itd i (i - j).toNat) H1
theorem zfR {a b c:Expr} {ta:TA} {p pos:Pos} (ha:PA X [a,b,c] ta) (hg:Gl X "range":=by rfl) (hs:starEach [a,b,c] X.env=[(false,eval a X.env),(false,eval b X.env),(false,eval c X.env)]:=by rfl) (hs2:starEach [b,c] X.env=[(false,eval b X.env),(false,eval c X.env)]:=by rfl) :
  PI X tg (.Call (.Name "range" p) [a,b,c] [] pos) (iRng3 X ta):=by
 intro l8 s σ H R I h;refine Call_ (xW I hg h.1 boot_range (ba (we (ha pos l8 s σ H _ I h.2) λ us s1 vs H1 I1 r1 q1=>?_) (by rw [hs,hs2]) (by rw [hs2];rfl)));obtain ⟨i,j,e,⟨q1,q2,q3,q4⟩,q⟩:=q1;subst e;cases r1 with
 | cons r rr =>
  cases rr with
  | cons r' rr =>
   cases rr with
   | cons r'' rr =>
    cases rr;obtain ⟨t,rfl⟩:=r;obtain ⟨t',rfl⟩:=r';obtain ⟨t'',rfl⟩:=r'';exact call_range_3 (by decide) (ze5 I1 (by lia) (by lia) (by lia) (by lia) q) (Or.inl (eQ (by lia)))
def zgV {K:A0} {σ:St} {H:Hp} {lo:Int} {n:Nat} {DN:St->Hp->Prop} {B:(St->Hp->Prop)->V->St->Hp->Prop} (Pv:Nat->St->Hp->Prop) (h0:Pv 0 σ H)
  (hs:∀ i σ H,i < n->Pv i σ H->B (Pv (i + 1)) (.int (lo - i)) σ H) (hd:∀ σ H,Pv n σ H->DN σ H) :
  ∃ W:Nat->Nat->St->Hp->Prop,(∃ m,W 0 m σ H)/\∀ i m σ H,W i m σ H ->
   ((Itd lo n).stop i H/\DN σ H)\/((Itd lo n).go i H/\∃ N:St->Hp->Prop,(∀ σ' H',N σ' H'->∃ m',m' < m/\W (i + 1) m' σ' H')/\∀ x H',(Itd lo n).yld i H x H'->B N x σ H'):=by
 refine ⟨λ i m σ H=>m=n - i/\i<=n/\Pv i σ H,⟨n,by simp,bU _,h0⟩,?_⟩;rintro i m σ H ⟨rfl,hi,p⟩;by_cases hlt:i < n
 ·refine .inr ⟨hlt,Pv (i + 1),λ σ' H' p'=>⟨n - (i + 1),by lia,rfl,hlt,p'⟩,λ x H' y=>?_⟩;obtain ⟨e,y⟩:=y;subst e y;exact hs i σ _ hlt p
 ·have e:i=n:=by lia
  subst e;exact .inl ⟨ap _,hd σ H p⟩
end
section
variable {X:Cx} {tg:Expr}
def zgt (hc:X.calm=true):CallR X (.builtin "all") (λ xs H Q=>∃ p,∃ bs:List Bool,xs=[.ref p]/\H p=some (.lst (bs.map V.bl))/\Q (.bl (bs.all id)) H):=by
 intro l8 s σ H xs us Q I r h;obtain ⟨p,bs,rfl,hp,q⟩:=h;obtain ⟨u,rfl,rx⟩:=vb r;cases rx;obtain ⟨ma,rv,hl,hz⟩:=I.list (SqL.of (K:=X.K) hp);have hl':=hl.isList;have hlt:p < s.heap.objs.size:=by obtain ⟨_,e,_⟩:=hl';exact av e
 have hlen:ma.length=bs.length:=by have:=rv.length;rw [ah] at this;exact this.symm
 refine call_all_walk (et hl' ?_);refine ⟨s.heap.objs.size,[s.heap.objs.size,p],[s.heap.objs.size],ma.toArray.size,_,_,λ i=>(bs[i]?).getD true,rfl,Walks.list (A:=X.A.in1) (I.ok.hd hc) _ p (aI hlt) ma.toArray,
  ⟨⟨_,aJ _ rfl,rfl,rfl⟩,hl'.push _⟩,λ i v s' Q' E' hP hQ=>?_,λ h' tk hk=>?_⟩
 ·have hP:ma[i]?=some v:=by simpa using hP
  have hib:i < bs.length:=by rw [<- hlen];exact (aa.mp hP).1
  obtain ⟨u,hu,ru⟩:=rv.get (i:=i) (x:=.bl bs[i]) (by rw [au,ae hib];rfl);rw [hu] at hP;cases hP;cases ru;have e:(bs[i]?).getD true=bs[i]:=by rw [ae hib];rfl
  simp only [e] at hQ;exact bA hQ
 ·have e:((List.range ma.toArray.size).all λ i=>(bs[i]?).getD true)=bs.all id:=by
   rw [ar,hlen];cases hb:bs.all id with
   | true =>
    rw [dc] at hb ⊢;intro i hi;have hi:=bu.mp hi;rw [ae hi];exact hb _ (dR hi)
   | false =>
    rw [List.all_eq_false] at hb ⊢;obtain ⟨b,hbm,hbf⟩:=hb;obtain ⟨i,hi,rfl⟩:=fm hbm;exact ⟨i,bu.mpr hi,by rw [ae hi];exact hbf⟩
  rw [e];refine ⟨.bl (bs.all id),H,I.kept (t':=tk) (λ b o eb=>hk b o (λ hm=>?_) (aj _ eb)),rfl,q⟩;rw [ay.mp hm] at eb;exact cm _ (av eb)
end
end L2
namespace L2
open PySem PySem.Spec PySem.Calls PyProof.Rows
variable {st:Stmt}
theorem vU:∀ {us:A7} {ns:A6},IntsAre us ns->Vals (ns.map V.int) us
 | _,_,.nil=>.nil
 | _,_,.cons n t h=>.cons ⟨t,rfl⟩ (vU h)
section
variable {X:Cx}
def zcL:CallR X (.builtin "sorted") (λ xs H Q=>∃ p,∃ ns:List Int,xs=[.ref p]/\SqL X.K H p (ns.map V.int)/\ns.length < 64 /\
  ∀ (ms:A6) l,ms.Perm ns->ms.Pairwise (·<=·)->H l=none->Q (.ref l) (upd H l (.lst (ms.map V.int)))):=by
 intro l8 s σ H xs us Q I r h;obtain ⟨p,ns,rfl,hp,h64,q⟩:=h;obtain ⟨u,rfl,rx⟩:=vb r;cases rx;obtain ⟨ma,rv,hl,hz⟩:=I.list hp;have hlen:ma.length=ns.length:=by have:=rv.length;rw [ah] at this;exact this.symm
 refine sorted_ints hl.isList (za2 rv) (by lia) λ out ms a1 a2 a3=>?_;obtain ⟨e,he⟩:=sortedAll_at s.heap ma out;exact ⟨.ref _,_,I.laid (a:=s.heap.objs.size + 1) (o:=.lst (ms.map V.int)) (t':=s.toks) (λ b o h=>sortedAll_old h) (bZ _) ⟨by rw [ah,a2.length_eq];exact bV (zi (by lia)),out.toList,e,vU a1,by simpa using he⟩,rfl,q ms _ a2 a3 (I.hok.fresh (bZ _))⟩
end
structure FunD (K:A0) (x qual:Str) (st:Stmt) (f:Addr) (fd:FuncData):Prop where
 ex:∃ (oc:Al) (od:Aa) (dV kV doc pm:Al) (an:Aa) (cdv ct:Al) (osl:Ae),
  fd=fnOf x qual (zS st) (zI st) (ze st) dV kV doc pm an cdv ct/\K.lookup f=some ⟨oc,od,.func fd,osl⟩/\codeIn K cdv qual=true
 kp:keepIn K (.ref f)=true
section
variable {P:Af} {w:World} {K:A0} {mg:A4} {base:Heap}
def FunD.okx {x qual:Str} {f:Addr} {fd:FuncData} {N ps:A8} {k:Nat} {sp:Sp} (F:FunD K x qual st f fd) (S:FnScope N ps (ze st)) (len:∀ vs H Q E,sp vs H Q E->vs.length=ps.length)
  (hbody:∀ (cdv:Al) (A:An) (outer:List Env) (s:Am) (H:Hp) (vs:Ao) (Q:VK) (E:XK),Room k (A.deeper (envOfC qual (ze st) s.heap.objs.size f cdv))->sp vs H Q E ->
   ∃ t,PSs ((cxR P w K mg base N qual (ze st) f cdv A outer s H E).exg λ cls _ H'=>E cls none H') (zI st) t/\t { nx:=λ _ H'=>Q .non H',rt:=Q } (start N vs) H):FnOk P w K mg base (CXr P w) (k + 1) f fd ps sp:=by
 obtain ⟨oc,od,dV,kV,doc,pm,an,cdv,ct,osl,rfl,lk,hcd⟩:=F.ex;refine zdX lk hcd S len λ A outer s H vs Q E hr hsp=>?_;obtain ⟨t,h,q⟩:=hbody cdv A outer s H vs Q E hr hsp;refine ⟨t,λ l8 s σ H' D I hw=>?_,q⟩;refine aQ (h l8 s σ H' D (I.wish _) hw) (λ _ _ z=>z.unwish) λ e s' z=>?_;refine af (aQ (show wpAny _ _ _ _ _ _ from z) (λ _ s1 y1=>aQ y1 (λ _ s'' y=>?_) λ _ _ y=>y.elim) λ _ _ y=>y.elim);obtain ⟨a,cls,σ2,H2,rfl,J,xx,g⟩:=y;exact ⟨a,cls,H2,rfl,J.os,J.bare,J.base,J.hok,xx.less (λ p hp=>absurd hp (by simp)),g⟩
structure FD (K:A0) (mg:A4) (x:Str) (st:Stmt) (ps:A8) (dvs:Ao):Prop where
 ex:∃ f fd ds,FunD K x x st f fd/\mg x=some (.ref f)/\Binds K fd ps []/\Binds K fd ps ds/\Vals dvs ds
def FD.cal {x:Str} {ps:A8} {dvs:Ao} {k:Nat} {sp:Sp} (h:FD K mg x st ps dvs) (ok:∀ {f fd},FunD K x x st f fd->FnOk P w K mg base (CXr P w) k f fd ps sp) :
  Cal P w K mg base x k ps [] sp:=by
 obtain ⟨f,fd,_,F,m,b,_⟩:=h.ex;exact ⟨f,fd,[],ok F,m,F.kp,b,.nil⟩
def FD.cald {x:Str} {ps:A8} {dvs:Ao} {k:Nat} {sp:Sp} (h:FD K mg x st ps dvs) (ok:∀ {f fd},FunD K x x st f fd->FnOk P w K mg base (CXr P w) k f fd ps sp) :
  Cal P w K mg base x k ps dvs sp:=by
 obtain ⟨f,fd,ds,F,m,_,b,v⟩:=h.ex;exact ⟨f,fd,ds,ok F,m,F.kp,b,v⟩
def zgY {h:Heap} {x:Str} {ps:A8} {dvs:Ao} {f dT:Addr} {oc toc:Al} {od an tod:Aa} {osl tsl:Ae} {items:Ac} {tn:Nat} {kV doc pm cdv ct:Al} (X:K.In h) (G:h.Ns mainGlobals mg)
  (a:nsIn K mainGlobals x=some (some (.ref f))) (l:K.lookup f=some ⟨oc,od,.func (fnOf x x (zS st) (zI st) (ze st) (.ref dT) kV doc pm an cdv ct),osl⟩)
  (c:codeIn K cdv x=true) (k:keepIn K (.ref f)=true) (lt:K.lookup dT=some ⟨toc,tod,.seq items tn,tsl⟩) (hv:Vals dvs items.toList)
  (hb:∀ (s:Am) (us:A7),K.In s.heap->us.length=ps.length->BindsTo s (fnOf x x (zS st) (zI st) (ze st) (.ref dT) kV doc pm an cdv ct) ⟨us,[]⟩ (ps.zip us))
  (hd:∀ (s:Am) (us:A7),K.In s.heap->(us ++ items.toList).length=ps.length->BindsTo s (fnOf x x (zS st) (zI st) (ze st) (.ref dT) kV doc pm an cdv ct) ⟨us,[]⟩ (ps.zip (us ++ items.toList))):FD K mg x st ps dvs :=
 ⟨f,_,items.toList,⟨⟨oc,od,.ref dT,kV,doc,pm,an,cdv,ct,osl,rfl,l,c⟩,k⟩,b0 X G a,(λ s us hK hl=>by rw [bH] at hl ⊢;exact hb s us hK hl),hd,hv⟩
end
variable {items:Ac}
def zaV:typeLookup (.type "list_reverseiterator") "__len__"=pure none:=by rw [typeLookup_type,builtinLookup_eq_fast];kernel_rfl
def zdB:typeLookup (.type "list_reverseiterator") "__length_hint__"=pure (some (.builtin "list_reverseiterator.__length_hint__")):=by rw [typeLookup_type,builtinLookup_eq_fast];kernel_rfl
def X2:isSubtype (.type "list_reverseiterator") (.type "list_reverseiterator")=pure true:=by rw [isSubtype_type];kernel_rfl
section
variable {prog:Af} {w:World} {A:An} {E:A3} {s:Am} {R:Result->Shared->Prop}
def zdP {D l:Addr} {i:Int} {Q:Bool->Shared->Prop} (hit:s.heap.IsRevIter D l i) (h:Q false s):wpAny (model prog w) A (Builtin.List.listLengthHint (.ref D)) Q E s:=by
 unfold Builtin.List.listLengthHint;refine af (cZ hit.typeIs zaV ?_);show wpAny _ _ (specialOf (Value.ref D) (Str.ofString "__length_hint__") >>= _) _ _ _
 refine af (cZ hit.typeIs zdB ?_);generalize hid:("list_reverseiterator.__length_hint__":String)=id0
 wp_delta
 rw [show splitId id0=some ("list_reverseiterator","__length_hint__") from by subst hid;decide +kernel];subst hid;refine af (eE (T:="list_reverseiterator") (b:=true) hit.typeIs X2 ?_);refine dG (λ hab=>absurd hab (by decide)) (λ _=>?_);refine dG (λ _=>?_) (λ hab=>absurd (by decide +kernel) hab);exact dG (λ hab=>absurd hab (by decide +kernel)) (λ _=>ao h)
def za9 {D l:Addr} (hh:A.handled=none) (hne:l≠D) (hn:items.size<=sizeLine) (S:Addr) (res:Al) (c₀:Nat) (hit:s.heap.IsRevIter D l ((items.size:Int) - 1)) (hl:s.heap.IsList l items) (hSD:S≠D) (hSl:S≠l)
  (hS:s.heap.get? S=some { cls:=.type "list",data:=.seq #[] c₀ })
  (hR:∀ h' tk acc' c',(∀ b o,b≠S->b≠D->s.heap.get? b=some o->h'.get? b=some o)->h'.get? S=some { cls:=.type "list",dict:=none,data:=.seq acc' c',slots:=#[] }->ItemsOf (λ i v=>items[items.size - 1 - i]?=some v) acc' items.size->R (.ok (.ret res)) { s with heap:=h',toks:=tk }) :
  wpAny (model prog w) A.in1 (Builtin.List.listExtendWith (.ref S) (.ref D) res)
   (λ fin s'=>match fin with | .done f=>R (.ok f) s' | .again c'=>c'.quiet=true/\codeAny (model prog w) A c' R s') (λ e s'=>R (.error e) s') s:=by
 have W:=(Walks.listRev (prog:=prog) (w:=w) (A:=A.in1) hh D l hne items).toS;have hSf:S ∉ [D,l]:=λ hm=>by
  rcases az.mp hm with e|hm
  ·exact hSD e
  ·exact hSl (ay.mp hm)
 unfold Builtin.List.listExtendWith;refine af (wpAny_typeOf hit.typeIs ?_);have h1:Builtin.List.listSameRef (.ref S) (.ref D)=false:=by simp [Builtin.List.listSameRef,hSD]
 have h2:(Value.type "list_reverseiterator" == Value.type "list")=false:=by decide
 have h3:(Value.type "list_reverseiterator" == Value.type "tuple")=false:=by decide
 simp only [h1,h2,h3,Bool.or_false,aO,bE];refine af (wpAny_pyIter_revIter hit ?_);refine af (bY (zdP hit ?_));refine dG (λ hab=>absurd hab (by decide)) (λ _=>ao ⟨fv F.plain_extend_loop _,?_⟩);have hit0:s.heap.IsRevIter D l ((items.size:Int) - 1 - ((0:Nat):Int)):=by simpa using hit
 refine codeAny_extend_loopS W hn S hSf res items.size 0 _ #[] c₀ rfl (bU _) ⟨bU _,hit0,hl⟩ hS (ItemsOf.nil _) λ s' acc' c' hm hS' hacc=>?_;rw [Moved.eq_with hm];refine hR s'.heap s'.toks acc' c' (λ b o hb hd e=>hm.heap b o (λ hmem=>?_) e) hS' hacc;rcases az.mp hmem with e'|hmem
 ·exact hb e'
 ·exact hd (ay.mp hmem)
def Xd {D l:Addr} (hh:A.handled=none) (hne:l≠D) (hn:items.size<=sizeLine) (S:Addr) (hit:s.heap.IsRevIter D l ((items.size:Int) - 1)) (hl:s.heap.IsList l items) (hSD:S≠D) (hSl:S≠l)
  (hS:s.heap.get? S=some { cls:=.type "list",data:=.seq #[] })
  (hR:∀ h' tk acc' c',(∀ b o,b≠S->b≠D->s.heap.get? b=some o->h'.get? b=some o)->h'.get? S=some { cls:=.type "list",dict:=none,data:=.seq acc' c',slots:=#[] }->ItemsOf (λ i v=>items[items.size - 1 - i]?=some v) acc' items.size->R (.ok (.ret .none)) { s with heap:=h',toks:=tk }) :
  wpAny (model prog w) A.in1 (Builtin.«list.__init__» ⟨[.ref S,.ref D],[]⟩)
   (λ fin s'=>match fin with | .done f=>R (.ok f) s' | .again c'=>c'.quiet=true/\codeAny (model prog w) A c' R s') (λ e s'=>R (.error e) s') s:=by
 show wpAny _ A.in1 (do let old <- Builtin.List.listItems (.ref S);Builtin.List.listUpdate (.ref S) (λ _=>#[]);letGo old.toList.reverse;Builtin.List.listExtendWith (.ref S) (.ref D) .none) _ _ s
 refine af ?_;unfold Builtin.List.listItems;refine af (dS hS rfl (ao ?_));show wpAny _ A.in1 (updateSeq S (λ _=>#[]) >>= λ _=>letGo (#[]:Ac).toList.reverse >>= λ _=>Builtin.List.listExtendWith (.ref S) (.ref D) .none) _ _ s
 refine af (wpAny_updateSeq hS rfl ?_);have hS₂:=bh (Obj.mapSeq (λ _=>(#[]:Ac))) hS rfl;have oth:∀ b o,b≠S->s.heap.get? b=some o->(s.heap.update S (Obj.mapSeq (λ _=>(#[]:Ac)))).get? b=some o :=
  λ b o hb e=>(a9 _ _ (aZ hb)).trans e
 refine af (wpAny_letGo ?_);refine za9 (items:=items) (l:=l) hh hne hn S .none _ (hit.at λ o e=>oth _ _ (aZ hSD) e) (hl.at λ o e=>oth _ _ (aZ hSl) e) hSD hSl hS₂ λ h' tk acc' c' hk hS' hacc=>?_;exact hR h' tk acc' c' (λ b o hb hd e=>hk b o hb hd (oth b o hb e)) hS' hacc
def Xh {D l:Addr} {Q:A3} (hh:A.handled=none) (hne:l≠D) (hn:items.size<=sizeLine) (hit:s.heap.IsRevIter D l ((items.size:Int) - 1)) (hl:s.heap.IsList l items)
  (hQ:∀ h' tk acc' c',(∀ b o,b≠D->s.heap.get? b=some o->h'.get? b=some o)->h'.get? s.heap.objs.size=some { cls:=.type "list",dict:=none,data:=.seq acc' c',slots:=#[] }->ItemsOf (λ i v=>items[items.size - 1 - i]?=some v) acc' items.size->Q (.ref s.heap.objs.size) { s with heap:=h',toks:=tk }) :
  wpAny (model prog w) A (call (.type "list") [.ref D]) Q E s:=by
 have hlD:D < s.heap.objs.size:=by obtain ⟨o,e,_⟩:=hit;exact av e
 have hll:l < s.heap.objs.size:=by obtain ⟨o,e,_⟩:=hl;exact av e
 refine callType_codes (Q₁:=λ obj s₁=>obj=.ref s.heap.objs.size/\s₁={ s with heap:=s.heap.push { cls:=.type "list",data:=.seq #[] } }) F.called_list (F.typeCall_list_1 _) F.entry_list_init
  (code_list_new _ ⟨rfl,rfl⟩) λ obj s₁ h₁=>?_
 obtain ⟨rfl,rfl⟩:=h₁;have hS:(s.heap.push { cls:=.type "list",data:=.seq #[] }).get? s.heap.objs.size=some { cls:=.type "list",data:=.seq #[] }:=aJ _ rfl;refine ⟨⟨_,hS,rfl⟩,F.args_list_init_2 _ _,Xd (A:=A.in1) (l:=l) hh hne hn _ (hit.at λ o e=>aj _ e) (hl.at λ o e=>aj _ e) (cU hlD) (cU hll) hS λ h' tk acc' c' hk hS' hacc=>?_⟩;exact ⟨rfl,hQ h' tk acc' c' (λ b o hb e=>hk b o (aI (av e)) hb (aj _ e)) hS' hacc⟩
end
section
variable {X:Cx} {a:Expr} {ta:TA} {p p2 pos pos2:Pos}
def zcT {xs:Ao} {ma:A7} {mf:Ac} (r:Vals xs ma) (h:ItemsOf (λ i v=>ma.toArray[ma.toArray.size - 1 - i]?=some v) mf ma.toArray.size):Vals xs.reverse mf.toList:=by
 have e:mf.toList=ma.reverse:=by
  apply List.ext_getElem?;intro i;have hsz:mf.toList.length=ma.length:=by simpa using h.1
  by_cases hi:i < ma.length
  ·have hi':i < mf.toList.length:=by lia
   rw [ae hi',eC hi];have:=h.2 i (mf.toList[i]) (by rw [<- bB,ae hi']);simp at this;exact this.symm
  ·rw [cR (by lia),cR (by simp;lia)]
 rw [e];exact r.reverse
def zgC (X:Cx) (ta:TA):TE:=λ σ H Q=>X.mg "list"=none/\X.mg "reversed"=none/\ta σ H λ vs H1=>∃ l xs,vs=[.ref l]/\SqL X.K H1 l xs/\∀ q,H1 q=none->Q (.ref q) (upd H1 q (.lst xs.reverse))
def V5:bootBuiltins "reversed"=some (.type "reversed"):=by decide +kernel
def zeJ (hc:X.calm=true) (ha:PA X [a] ta) (hg:Gl X "list":=by rfl) (hg2:Gl X "reversed":=by rfl)
  (hs:starEach [Expr.Call (.Name "reversed" p2) [a] [] pos2] X.env=[(false,eval (Expr.Call (.Name "reversed" p2) [a] [] pos2) X.env)]:=by rfl) (hs2:starEach [a] X.env=[(false,eval a X.env)]:=by rfl) :
  PE X (.Call (.Name "list" p) [.Call (.Name "reversed" p2) [a] [] pos2] [] pos) (zgC X ta):=by
 intro l8 s σ H Q I h;refine Call_ (xW I hg h.1 xq (ba ?_ hs rfl));rw [hs];refine Calls.spliced_cons (Call_ (xW I hg2 h.2.1 V5 (ba (we (ha pos2 l8 s σ H _ I h.2.2) λ us s1 vs H1 I1 r1 q1=>?_) hs2 rfl)));obtain ⟨l,xs,e,hq,q⟩:=q1;subst e;obtain ⟨u,rfl,rx⟩:=vb r1;cases rx;obtain ⟨ma,rv,hl,hz⟩:=I1.list hq;have hll:l < s1.heap.objs.size:=by obtain ⟨o,e,_⟩:=hl.isList;exact av e
 have hlen:=rv.length;refine call_reversed_list hl.isList ?_;refine Calls.spliced_nil ?_;refine Xh (l:=l) (items:=ma.toArray) (I1.ok.hd hc) (aI hll) (by rw [ar,<- hlen];exact hz) ⟨_,aJ _ rfl,rfl,rfl⟩ (hl.isList.push _) λ h' tk acc' c' hk hS hit=>?_;refine ⟨.ref _,_,I1.laid (o:=.lst xs.reverse) (t':=tk) (λ b o e=>hk b o (aI (av e)) (aj _ e)) ?_ ⟨?_,acc'.toList,c',zcT rv hit,by simpa using hS⟩,rfl,q _ (I1.hok.fresh ?_)⟩
 ·simp only [de];exact bZ _
 ·rw [dQ];exact hz
 ·simp only [de];exact bZ _
end
section
variable {X:Cx}
end
end L2
namespace L2
open PySem PySem.Spec PyProof.Rows
variable {H:Hp} {v:V} {me:Ar} {b l:Addr} {i:Nat}
inductive D where
 | non|bl (b:Bool)|int (i:Int)|str (x:Str)|lst (xs:List D)|tup (xs:List D)|ob (C:Addr) (fs:List (Str × D))
inductive Rep (H:Hp) (p:A5):V->D->Prop where
 | non:Rep H p .non .non
 | bl {b:Bool}:Rep H p (.bl b) (.bl b)
 | int {i:Int}:Rep H p (.int i) (.int i)
 | str {x:Str}:Rep H p (.str x) (.str x)
 | lst {l:Addr} {vs:Ao} {ds:List D}:p l->H l=some (.lst vs)->vs.length=ds.length->(∀ (i:Nat) v d,vs[i]?=some v->ds[i]?=some d->Rep H p v d)->Rep H p (.ref l) (.lst ds)
 | tup {l:Addr} {vs:Ao} {ds:List D}:p l->H l=some (.tup vs)->vs.length=ds.length->(∀ (i:Nat) v d,vs[i]?=some v->ds[i]?=some d->Rep H p v d)->Rep H p (.ref l) (.tup ds)
 | ob {l C dx:Addr} {fs:Aq} {ds:List (Str × D)}:p l->H l=some (.ins C dx fs)->fs.map (·.1)=ds.map (·.1)->(∀ (i:Nat) f g,fs[i]?=some f->ds[i]?=some g->Rep H p f.2 g.2)->Rep H p (.ref l) (.ob C ds)
def Rep.keep {H H':Hp} {p q:A5} (s:∀ b o,p b->H b=some o->q b/\H' b=some o) {d:D} (h:Rep H p v d):Rep H' q v d:=by
 induction h with
 | non=>exact .non
 | bl=>exact .bl
 | int=>exact .int
 | str=>exact .str
 | lst pl hl e _ ih=>exact .lst (s _ _ pl hl).1 (s _ _ pl hl).2 e ih
 | tup pl hl e _ ih=>exact .tup (s _ _ pl hl).1 (s _ _ pl hl).2 e ih
 | ob pl hl e _ ih=>exact .ob (s _ _ pl hl).1 (s _ _ pl hl).2 e ih
structure Reps (H:Hp) (p:A5) (vs:Ao) (ds:List D):Prop where
 len:vs.length=ds.length
 g:∀ (i:Nat) v d,vs[i]?=some v->ds[i]?=some d->Rep H p v d
section
variable {H H':Hp} {p q:A5} {vs us:Ao} {ds es:List D} {v:V} {d:D}
def Reps.keep (s:∀ b o,p b->H b=some o->q b/\H' b=some o) (h:Reps H p vs ds):Reps H' q vs ds:=⟨h.len,λ i v d a b=>(h.g i v d a b).keep s⟩
def Reps.nil:Reps H p [] []:=⟨rfl,λ i v d h=>by simp at h⟩
theorem Reps.cons (h:Rep H p v d) (k:Reps H p vs ds):Reps H p (v :: vs) (d :: ds):=⟨by simp [k.len],λ i u e a b=>by
 cases i with
 | zero =>
  have a:v=u:=by simpa using a
  have b:d=e:=by simpa using b
  rw [<- a,<- b];exact h
 | succ i=>exact k.g i u e (by simpa using a) (by simpa using b)⟩
def Reps.one (h:Rep H p v d):Reps H p [v] [d]:=.cons h .nil
def Reps.append (h:Reps H p vs ds) (k:Reps H p us es):Reps H p (vs ++ us) (ds ++ es):=by
 refine ⟨by rw [aM,aM,h.len,k.len],λ i v r e1 e2=>?_⟩;by_cases hi:i < vs.length
 ·rw [aY hi] at e1;rw [aY (by rw [<- h.len];exact hi)] at e2;exact h.g i v r e1 e2
 ·rw [aS (by lia)] at e1;rw [aS (by rw [<- h.len];lia),<- h.len] at e2;exact k.g _ v r e1 e2
def Reps.at (h:Reps H p vs ds) (e:vs[i]?=some v):∃ d,ds[i]?=some d/\Rep H p v d:=by
 have hi:=(aa.mp e).1;have e2:ds[i]?=some (ds[i]'(by rw [<- h.len];exact hi)):=ae _;exact ⟨_,e2,h.g i v _ e e2⟩
def Reps.of (h:Reps H p vs ds) (e:ds[i]?=some d):∃ v,vs[i]?=some v/\Rep H p v d:=by
 have hi:=(aa.mp e).1;have e2:vs[i]?=some (vs[i]'(by rw [h.len];exact hi)):=ae _;exact ⟨_,e2,h.g i _ d e2 e⟩
def Reps.take (h:Reps H p vs ds) (n:Nat):Reps H p (vs.take n) (ds.take n):=⟨by rw [aW,aW,h.len],λ i v d a b=>by
 rw [List.getElem?_take] at a b;by_cases hn:i < n
 ·rw [aA hn] at a b;exact h.g i v d a b
 ·rw [aq hn] at a;cases a⟩
def Reps.drop (h:Reps H p vs ds) (n:Nat):Reps H p (vs.drop n) (ds.drop n):=⟨by rw [dg,dg,h.len],λ i v d a b=>by
 rw [List.getElem?_drop] at a b;exact h.g _ v d a b⟩
def Reps.reverse (h:Reps H p vs ds):Reps H p vs.reverse ds.reverse:=⟨by rw [dQ,dQ,h.len],λ i v d a b=>by
 have hi:i < vs.length:=by have:=(aa.mp a).1;rw [dQ] at this;exact this
 rw [eC hi] at a;rw [eC (by rw [<- h.len];exact hi),<- h.len] at b;exact h.g _ v d a b⟩
def Reps.mk' (h:Reps H p vs ds) (pl:p l) (e:H l=some (.lst vs)):Rep H p (.ref l) (.lst ds):=.lst pl e h.len h.g
def Reps.mkT (h:Reps H p vs ds) (pl:p l) (e:H l=some (.tup vs)):Rep H p (.ref l) (.tup ds):=.tup pl e h.len h.g
def Rep.lst' (h:Rep H p v (.lst ds)):∃ l us,v=.ref l/\p l/\H l=some (.lst us)/\Reps H p us ds:=by
 cases h with|lst a b c e=>exact ⟨_,_,rfl,a,b,c,e⟩
def Rep.tup' (h:Rep H p v (.tup ds)):∃ l us,v=.ref l/\p l/\H l=some (.tup us)/\Reps H p us ds:=by
 cases h with|tup a b c e=>exact ⟨_,_,rfl,a,b,c,e⟩
theorem vK {f:Str}:∀ {fs:Aq} {gs:List (Str × D)},fs.map (·.1)=gs.map (·.1)->(∀ (i:Nat) x y,fs[i]?=some x->gs[i]?=some y->Rep H p x.2 y.2) ->
  (∀ d,gs.lookup f=some d->∃ u,fs.lookup f=some u/\Rep H p u d)/\(gs.lookup f=none->fs.lookup f=none)
 | [],[],_,_=>⟨λ d h=>by simp at h,λ _=>rfl⟩
 | [],_ :: _,e,_=>by simp at e
 | _ :: _,[],e,_=>by simp at e
 | (a,u) :: fs,(b,c) :: gs,e,r=>by
  have e1:a=b:=by simpa using (List.cons.inj e).1
  subst e1;have ih:=vK (f:=f) (fs:=fs) (gs:=gs) (List.cons.inj e).2 λ i x y hx hy=>r (i + 1) x y (by simpa using hx) (by simpa using hy);by_cases hf:f=a
  ·have hb:(f == a)=true:=bD.mpr hf;refine ⟨λ d h=>?_,λ h=>?_⟩
   ·simp only [List.lookup,hb] at h ⊢;cases h;exact ⟨_,rfl,r 0 (a,u) (a,c) rfl rfl⟩
   ·simp only [List.lookup,hb] at h;cases h
  ·have hb:(f == a)=false:=a8.mpr hf;simp only [List.lookup,hb];exact ih
def Rep.ob' {C:Addr} {gs:List (Str × D)} (h:Rep H p v (.ob C gs)):∃ l dx fs,v=.ref l/\p l/\H l=some (.ins C dx fs)/\(∀ f d,gs.lookup f=some d->∃ u,fs.lookup f=some u/\Rep H p u d)/\(∀ f,gs.lookup f=none->fs.lookup f=none):=by
 cases h with|ob a b c e=>exact ⟨_,_,_,rfl,a,b,λ f=>(vK c e).1,λ f=>(vK c e).2⟩
noncomputable abbrev D.ints (ns:A6):D:=.lst (ns.map D.int)
theorem reps_ints:∀ {ns:A6},Reps H p (ns.map V.int) (ns.map D.int)
 | []=>.nil
 | _ :: _=>.cons .int reps_ints
theorem QC:∀ {ns:A6} {vs:Ao},Reps H p vs (ns.map D.int)->vs=ns.map V.int
 | [],[],_=>rfl
 | [],_ :: _,h=>by have:=h.len;simp at this
 | _ :: _,[],h=>by have:=h.len;simp at this
 | n :: ns,v :: vs,h=>by
  have h1:=h.g 0 v (.int n) rfl rfl;have h2:Reps H p vs (ns.map D.int):=⟨by have:=h.len;simpa using this,λ i u d a b=>h.g (i + 1) u d (by simpa using a) (by simpa using b)⟩;cases h1;rw [b5,QC h2]
def Rep.ints' {ns:A6} (h:Rep H p v (.ints ns)):∃ l,v=.ref l/\p l/\H l=some (.lst (ns.map V.int)):=by
 obtain ⟨l,us,e,a,b,c⟩:=h.lst';rw [QC c] at b;exact ⟨l,e,a,b⟩
def zY {ns:A6} (pl:p l) (e:H l=some (.lst (ns.map V.int))):Rep H p (.ref l) (.ints ns):=reps_ints.mk' pl e
end
def Off (ms:Ab):Addr->Prop:=λ b=>b ∉ ms
def Fr (ms:Ab) (H H':Hp):Prop:=∀ b o,b ∉ ms->H b=some o->H' b=some o
section
variable {H H' H2:Hp} {ms ns:Ab} {x:Addr} {o:HO} {v:V} {d:D} {vs:Ao} {ds:List D}
def Fr.refl:Fr ms H H:=λ _ _ _ h=>h
def Fr.trans (a:Fr ms H H') (b:Fr ms H' H2):Fr ms H H2:=λ c o n h=>b c o n (a c o n h)
def Fr.more (a:Fr ms H H') (s:∀ b,b∈ms->b∈ns):Fr ns H H':=λ b o n h=>a b o (λ z=>n (s b z)) h
def Same.fr (a:Same H H'):Fr ms H H':=λ b o _ h=>a b o h
def qx (h:x∈ms):Fr ms H (upd H x o):=λ b u n hb=>by
 rw [mw (λ z=>n (by rw [z];exact h))];exact hb
def za6 (h:H x=none):Fr ms H (upd H x o):=(same_upd' h).fr where
 same_upd' {H:Hp} {x:Addr} {o:HO} (h:H x=none):Same H (upd H x o):=λ b u hb=>by rw [mw (my hb h)];exact hb
def Fr.same (a:Fr ms H H') (h:∀ m∈ms,H m=none):Same H H':=λ b o hb=>a b o (λ z=>by rw [h b z] at hb;cases hb) hb
def Rep.fr (h:Rep H (Off ms) v d) (s:Fr ms H H'):Rep H' (Off ms) v d:=h.keep λ b o pb hb=>⟨pb,s b o pb hb⟩
def Reps.fr (h:Reps H (Off ms) vs ds) (s:Fr ms H H'):Reps H' (Off ms) vs ds:=h.keep λ b o pb hb=>⟨pb,s b o pb hb⟩
def Rep.more (h:Rep H (Off ms) v d) (s:∀ b,b∈ns->b∈ms\/H b=none):Rep H (Off ns) v d:=h.keep λ b o pb hb=>⟨λ z=>(s b z).elim pb (λ q=>by rw [q] at hb;cases hb),hb⟩
def Reps.more (h:Reps H (Off ms) vs ds) (s:∀ b,b∈ns->b∈ms\/H b=none):Reps H (Off ns) vs ds:=h.keep λ b o pb hb=>⟨λ z=>(s b z).elim pb (λ q=>by rw [q] at hb;cases hb),hb⟩
def Rep.same (h:Rep H (Off ms) v d) (s:Same H H'):Rep H' (Off ms) v d:=h.fr s.fr
def Reps.same (h:Reps H (Off ms) vs ds) (s:Same H H'):Reps H' (Off ms) vs ds:=h.fr s.fr
def Rep.ahead (h:Rep H (Off []) v d) (s:Same H H') (n:∀ m∈ms,H m=none):Rep H' (Off ms) v d:=h.keep λ b o _ hb=>⟨(λ z=>nomatch (n b z).symm.trans hb),s b o hb⟩
def Reps.ahead (h:Reps H (Off []) vs ds) (s:Same H H') (n:∀ m∈ms,H m=none):Reps H' (Off ms) vs ds:=h.keep λ b o _ hb=>⟨(λ z=>nomatch (n b z).symm.trans hb),s b o hb⟩
def Rep.all {p:A5} (h:Rep H p v d):Rep H (Off []) v d:=h.keep λ b o _ hb=>⟨(λ z=>nomatch z),hb⟩
def Reps.all {p:A5} (h:Reps H p vs ds):Reps H (Off []) vs ds:=h.keep λ b o _ hb=>⟨(λ z=>nomatch z),hb⟩
end
def fd_small {i j:Int} (h1:0 < j) (h2:j < 1000000):CFd i j:=fd_ok h1 (aG (show j.natAbs < 2 ^ 20 by lia) (Nat.pow_le_pow_right (by decide) (by decide)))
def Q8 {α:Type} {xs:List α} {k:Int} (h0:0<=k) (h1:k < xs.length):seqIndex? k xs.length=some k.toNat:=by
 unfold seqIndex?;have:¬ k < 0:=by lia
 simp [this,h0,h1]
def WR {K:A0} {H H':Hp} {xs:Ao} (s:Same H H') (h:SqL K H l xs):SqL K H' l xs:=s.seq h
noncomputable def del (H:Hp) (x:Addr):Hp:=λ b=>if b=x then none else H b
section
variable {K:A0} {H:Hp} {Q:VK} {p:A5} {v:V} {d:D} {ds:List D} {f:Str}
def zeA {C:Addr} {gs:List (Str × D)} {R:V->Prop} (h:Rep H p v (.ob C gs)) (c:Cls K C) (n:NoAttr K C f) (e:gs.lookup f=some d) (q:∀ u,Rep H p u d->R u) :
  ∃ a C dx fs u,v=.ref a/\H a=some (.ins C dx fs)/\Cls K C/\NoAttr K C f/\fs.lookup f=some u/\R u:=by
 obtain ⟨l,dx,fs,rfl,_,a,b,_⟩:=h.ob';obtain ⟨u,e1,r⟩:=b f d e;exact ⟨l,C,dx,fs,u,rfl,a,c,n,e1,q u r⟩
def zfu {vs:Ao} {i:Int} (h:Reps H p vs ds) (e:atI ds i=some d):∃ u,atI vs i=some u/\Rep H p u d:=by
 unfold atI at e ⊢;rw [h.len];cases z:ixN ds.length i with
 | none=>rw [z] at e;cases e
 | some j=>rw [z] at e;exact h.of (i:=j) e
end
def j7 {H H':Hp} {p:A5} {d:D} (h:Rep H p v d) (s:Same H H'):Rep H' p v d:=h.keep λ b o pb hb=>⟨pb,s b o hb⟩
section
variable {X:Cx}
def zgL (K:A0):R2:=λ x y H Q=>∃ p xs i v,x=.ref p/\y=.int i/\SqL K H p xs/\0<=i/\atI xs i=some v/\Q v H
def zdV:zg6 X (zgL X.K):=by
 intro l8 s σ H x y v u Q I rx ry h;obtain ⟨p,xs,i,z,rfl,rfl,hq,h0,he,q⟩:=h;cases rx;obtain ⟨t,rfl⟩:=ry;obtain ⟨ma,r,pl,hz⟩:=I.list hq;obtain ⟨j,h1,h2,h3,h4,h5⟩:=QG he;obtain ⟨w,ew,rw'⟩:=r.get h2;have hl:=r.length;have hn:=vL;have hj:i.toNat=j:=by
  rw [eK h0 h5] at h1;exact aU h1
 exact wpAny_getItem_list pl.isList h0 (by lia) (by rw [hj];simpa using ew) ⟨z,H,I,rw',q⟩
end
inductive Hard:D->Prop where
 | non:Hard .non
 | bl {b:Bool}:Hard (.bl b)
 | int {i:Int}:Hard (.int i)
 | str {x:Str}:Hard (.str x)
 | tup {ds:List D}:(∀ (i:Nat) d,ds[i]?=some d->Hard d)->Hard (.tup ds)
def Rep.hard {p q:A5} {d:D} (h:Rep H p v d) (hd:Hard d) (k:∀ b xs,p b->H b=some (.tup xs)->q b):Rep H q v d:=by
 induction h with
 | non=>exact .non
 | bl=>exact .bl
 | int=>exact .int
 | str=>exact .str
 | lst pl hl e _ ih=>cases hd
 | tup pl hl e _ ih =>
  cases hd with
  | tup hd=>exact .tup (k _ _ pl hl) hl e λ i v d a b=>ih i v d a b (hd i d b)
 | ob pl hl e _ ih=>cases hd
def zdu {as:Ab} (nd:as.Nodup) {i j:Nat} (h1:as[i]?=some b) (h2:as[j]?=some b):i=j:=by
 obtain ⟨hi,e1⟩:=aa.mp h1;obtain ⟨hj,e2⟩:=aa.mp h2;have P:=List.pairwise_iff_getElem.mp nd;rcases dY i j with h|h|h
 ·exact absurd (e1.trans e2.symm) (P i j hi hj h)
 ·exact h
 ·exact absurd (e2.trans e1.symm) (P j i hj hi h)
structure NL (H:Hp) (p:A5) (G:Addr) (as:Ab) (xss:List (List D)):Prop where
 out:H G=some (.lst (as.map V.ref))
 len:as.length=xss.length
 nd:as.Nodup
 nG:G ∉ as
 g:∀ (i:Nat) b xs,as[i]?=some b->xss[i]?=some xs->∃ vs,H b=some (.lst vs)/\Reps H p vs xs
section
variable {H H':Hp} {p q:A5} {G:Addr} {as:Ab} {xss:List (List D)}
def NL.keep (h:NL H p G as xss) (s:∀ b o,(b=G\/b∈as\/p b)->H b=some o->H' b=some o) (sp:∀ b,p b->H b≠none->q b):NL H' q G as xss:=by
 refine ⟨s _ _ (.inl rfl) h.out,h.len,h.nd,h.nG,λ i b xs e1 e2=>?_⟩;obtain ⟨vs,h1,h2⟩:=h.g i b xs e1 e2;exact ⟨vs,s _ _ (.inr (.inl (ai e1))) h1,h2.keep λ c o pc hc=>⟨sp c pc (by rw [hc];intro z;cases z),s c o (.inr (.inr pc)) hc⟩⟩
def NL.same (h:NL H p G as xss) (s:Same H H'):NL H' p G as xss:=h.keep (λ b o _ hb=>s b o hb) λ _ hp _=>hp
def NL.at (h:NL H p G as xss) {xs:List D} (e:xss[i]?=some xs):∃ b vs,as[i]?=some b/\H b=some (.lst vs)/\Reps H p vs xs:=by
 have hi:=(aa.mp e).1;have e2:as[i]?=some (as[i]'(by rw [h.len];exact hi)):=ae _;obtain ⟨vs,h1,h2⟩:=h.g i _ xs e2 e;exact ⟨_,vs,e2,h1,h2⟩
def zdw {H:Hp} {p:A5} {G:Addr} (h:H G=some (.lst [])):NL H p G [] []:=⟨h,rfl,List.nodup_nil,by simp,λ i b xs e=>by simp at e⟩
def NL.rep (h:NL H p G as xss):Rep H (Off []) (.ref G) (.lst (xss.map D.lst)):=by
 refine .lst (λ z=>nomatch z) h.out (by rw [ah,ah,h.len]) λ i v d e1 e2=>?_;rw [au,aC] at e1 e2;obtain ⟨b,e1,rfl⟩:=e1;obtain ⟨xs,e2,rfl⟩:=e2;obtain ⟨vs,h1,h2⟩:=h.g i b xs e1 e2;exact h2.all.mk' (λ z=>nomatch z) h1
def NL.put {vs:Ao} {ys:List D} (h:NL H p G as xss) (e:as[i]?=some b) (np:¬ p b) (r:Reps H p vs ys):NL (upd H b (.lst vs)) p G as (xss.set i ys):=by
 have hb:=ai e;have nG:G≠b:=λ z=>h.nG (by rw [z];exact hb);have rk:∀ {us:Ao} {zs:List D},Reps H p us zs->Reps (upd H b (.lst vs)) p us zs:=λ r=>r.keep λ c o pc hc=>⟨pc,by rw [mw (λ z=>np (by rw [<- z];exact pc))];exact hc⟩;refine ⟨by rw [mw nG];exact h.out,by rw [cQ,h.len],h.nd,h.nG,λ j c xs e1 e2=>?_⟩;by_cases hj:j=i
 ·subst hj;rw [e] at e1;cases e1;have hl:j < xss.length:=by rw [<- h.len];exact (aa.mp e).1
  rw [bx hl] at e2;cases e2;exact ⟨vs,mv,rk r⟩
 ·rw [bM (aZ hj)] at e2;have nc:c≠b:=λ z=>by
   subst z;exact hj (zdu h.nd e1 e)
  obtain ⟨us,h1,h2⟩:=h.g j c xs e1 e2;exact ⟨us,by rw [mw nc];exact h1,rk h2⟩
def NL.push {vs:Ao} {ys:List D} (h:NL H p G as xss) (hb:H b=some (.lst vs)) (nb:b ∉ as) (nG:b≠G) (np:¬ p G) (r:Reps H p vs ys):NL (upd H G (.lst (as.map V.ref ++ [.ref b]))) p G (as ++ [b]) (xss ++ [ys]):=by
 have rk:∀ {us:Ao} {zs:List D},Reps H p us zs->Reps (upd H G (.lst (as.map V.ref ++ [.ref b]))) p us zs:=λ r=>r.keep λ c o pc hc=>⟨pc,by rw [mw (λ z=>np (by rw [<- z];exact pc))];exact hc⟩;refine ⟨by rw [mv,a7];rfl,by simp [h.len],?_,?_,λ j c xs e1 e2=>?_⟩
 ·rw [nodup_append];refine ⟨h.nd,by simp,?_⟩;intro x hx y hy z;rw [ay.mp hy] at z;exact nb (by rw [<- z];exact hx)
 ·intro z;rcases aF.mp z with z|z
  ·exact h.nG z
  ·exact nG (ay.mp z).symm
 ·by_cases hj:j < as.length
  ·rw [aY hj] at e1;rw [aY (by rw [<- h.len];exact hj)] at e2;obtain ⟨us,h1,h2⟩:=h.g j c xs e1 e2;have nc:c≠G:=λ z=>h.nG (by rw [<- z];exact ai e1);exact ⟨us,by rw [mw nc];exact h1,rk h2⟩
  ·rw [aS (by lia)] at e1;rw [aS (by rw [<- h.len];lia),<- h.len] at e2;have hj0:j - as.length=0:=by have:=(aa.mp e1).1;simp at this;lia
   rw [hj0] at e1 e2;have e1:b=c:=by simpa using e1
   have e2:ys=xs:=by simpa using e2
   subst e1 e2;exact ⟨vs,by rw [mw nG];exact hb,rk r⟩
end
def zT (H:Hp):Addr->Prop:=λ b=>∃ xs,H b=some (.tup xs)
def NL.tup {H H':Hp} {G:Addr} {as:Ab} {xss:List (List D)} (h:NL H (zT H) G as xss) (s:∀ b o,(b=G\/b∈as\/zT H b)->H b=some o->H' b=some o):NL H' (zT H') G as xss :=
 h.keep s λ b hb _=>by
  obtain ⟨xs,hx⟩:=hb;exact ⟨xs,s b _ (.inr (.inr ⟨xs,hx⟩)) hx⟩
def NL.isl {G:Addr} {as:Ab} {p:A5} {xss:List (List D)} (h:NL H p G as xss) (hb:b∈G :: as):∃ vs,H b=some (.lst vs):=by
 rcases az.mp hb with rfl|hb
 ·exact ⟨_,h.out⟩
 ·obtain ⟨j,hj⟩:=bW hb;obtain ⟨vs,h1,_⟩:=h.g j b _ hj (ae (by rw [<- h.len];exact (aa.mp hj).1));exact ⟨vs,h1⟩
def uc {P:Af} {w:World} {K:A0} {mg:A4} {base:Heap} {x:Str} {k:Nat} {G:List V->Sp->Prop} {ps:A8} {dvs:Ao} {sp:Sp} (c:Cal P w K mg base x k ps dvs sp) (h:G dvs sp):∃ ps dvs sp,Cal P w K mg base x k ps dvs sp/\G dvs sp:=⟨ps,dvs,sp,c,h⟩
def un2 {K:A0} {t:Addr} {x y:V} {G:V->V->Prop} (h:H t=some (.tup [x,y])) (q:G x y):∃ a xs,V.ref t=.ref a/\SqT K H a xs/\xs.length=2/\∃ v r,xs=v :: r/\∃ v' r',r=v' :: r'/\r'=[]/\G v v':=⟨t,_,rfl,SqT.of h,rfl,x,_,rfl,y,_,rfl,rfl,q⟩
def ra {K:A0} {a C dx:Addr} {fs:Aq} {f:Str} {G:V->Prop} (h:H a=some (.ins C dx fs)) (c:Cls K C) (n:NoAttr K C f) (e:fs.lookup f=some v) (q:G v):∃ a' C dx fs v,V.ref a=.ref a'/\H a'=some (.ins C dx fs)/\Cls K C/\NoAttr K C f/\fs.lookup f=some v/\G v:=⟨a,C,dx,fs,v,rfl,h,c,n,e,q⟩
section
variable {prog:Af} {w:World} {A:An} {E:A3} {s:Am}
noncomputable abbrev lit (l:Addr):Obj:={ cls:=.type (zdM true),data:=.fields #[.ref l,.int 0 0] }
end
section
variable {prog:Af} {w:World} {A:An} {E:A3} {s:Am}
end
section
variable {X:Cx} {pos pos':Pos} {x:Str}
def zo (i:Nat) {e:Expr} {te:TE} (hN:X.N.Nodup) (he:PE X e te) (hi:X.N[i]?=some x:=by rfl) (hx:Loc X.env.scope x:=by exact Or.inl rfl) (hs:swapsWith e (some (.Name x pos')) pos.line X.env=pure false:=by rfl)
  (hf:Or (X.fn x=true) (X.env.scope.names.lookup x=some .local):=by walk_at "p"):PS X (.Assign [.Name x pos'] e pos) (tAsg te (gName i)):=zaI hN hi hx he hs hf
def qd (i:Nat) (hN:X.N.Nodup) (hi:X.N[i]?=some x:=by rfl) (hx:Loc X.env.scope x:=by exact Or.inl rfl) (hf:Or (X.fn x=true) (X.env.scope.names.lookup x=some .local):=by walk_at "p"):PG X (.Name x pos) (gName i):=zbp hN hi hx hf
def zt {a b:Expr} {ta tb:TE} (ha:PE X a ta) (hb:PE X b tb) (hs:zbY b:=by intro _ _;rfl):PE X (.Subscript a b pos) (tOp (rIx X.K) ta tb):=zgN zgg ha hb hs
end
section
variable {X:Cx}
end
section
variable {X:Cx} {G:GK} {x y:Str} {np mp pos hpos gpos:Pos} {body su sv:List Stmt} {b₀ c₀:Stmt} {tb:List (Addr × Obj)->GK->TS} {th ti:List (Addr × Obj)->Addr->TS}
end
section
variable {X:Cx}
end
section
variable {X:Cx}
def zhj (K:A0):R2:=λ x y H Q=>∃ p q xs,x=.ref p/\y=.ref q/\SqL K H p xs/\SqL K H q []/\Q (.bl (decide (xs.length=0))) H
def zf2 (hu:X.A.units + 100 < cLine):OpR X (compareOp .Eq) (zhj X.K):=by
 intro l8 s σ H x y v u Q I rx ry h;obtain ⟨p,q,xs,rfl,rfl,h1,h2,k⟩:=h;by_cases hl:xs.length=0
 ·have e:xs=[]:=bK.mp hl;subst e;exact Xt (by lia) l8 s σ H _ _ _ _ Q I rx ry ⟨p,q,[],[],rfl,rfl,.inl ⟨h1,h2⟩,rfl,rfl,k⟩
 ·rw [a4 hl] at k;cases rx;cases ry;obtain ⟨ma,r,p,_⟩:=I.list h1;obtain ⟨its2,r2,p2,_⟩:=I.list h2;have e1:=r.length;have e2:=r2.length;exact dq p.isList p2.isList (by simp only [ar];simp at e2 ⊢;lia) (by lia) _ _ _ _ ⟨.bl false,H,I,rfl,k⟩
end
section
variable {κ:Type} [DecidableEq κ]
noncomputable def Qg (me:List (κ × V)) (k:κ):Option V:=(me.find? λ kv=>decide (kv.1=k)).map (·.2)
noncomputable def Vs (me:List (κ × V)) (k:κ) (v:V):List (κ × V) :=
 if (me.any λ kv=>decide (kv.1=k))=true then me.map (λ kv=>if kv.1=k then (kv.1,v) else kv) else me ++ [(k,v)]
noncomputable def zfs (me:List (κ × V)) (k:κ):List (κ × V):=me.filter λ kv=>decide (kv.1≠k)
def QH {p:κ × V} {r:List (κ × V)} {k:κ} (e:p.1=k):Qg (p :: r) k=some p.2:=by simp [Qg,cS,e]
def QI {p:κ × V} {r:List (κ × V)} {k:κ} (e:¬ p.1=k):Qg (p :: r) k=Qg r k:=by simp [Qg,cS,e]
theorem WL (k:κ):∀ me:List (κ × V),(me.any λ kv=>decide (kv.1=k))=(Qg me k).isSome
 | []=>rfl
 | p :: r=>by
  rw [any_cons];by_cases e:p.1=k
  ·simp only [QH e,bF e,Bool.true_or,Option.isSome_some]
  ·rw [QI e,a4 e,Bool.false_or];exact WL k r
def RelO.isSome_eq {o:Ap} {u:Option Value} (r:RelO o u):o.isSome=u.isSome:=by
 cases o with
 | none=>cases u with
  | none=>rfl
  | some _=>exact (show False from r).elim
 | some _=>cases u with
  | none=>exact (show False from r).elim
  | some _=>rfl
def RelO.getD {o:Ap} {u:Option Value} {d:V} {d':Al} (r:RelO o u) (rd:RelV d d'):RelV (o.getD d) (u.getD d'):=by
 cases o with
 | none=>cases u with
  | none=>exact rd
  | some _=>exact (show False from r).elim
 | some _=>cases u with
  | none=>exact (show False from r).elim
  | some _=>exact r
def KV.val {me:List (κ × V)} {vs:List (κ × Value)} (r:KV me vs) (k:κ):RelO (Qg me k) (valueAt vs k):=by
 unfold KV at r
 induction r with
 | nil=>exact True.intro
 | @cons p q ps qs h t ih =>
  obtain ⟨h1,h2⟩:=h;by_cases e:p.1=k
  ·have e':q.1=k:=h1.symm.trans e;have b:valueAt (q :: qs) k=some q.2:=by simp [valueAt,cS,e']
   rw [QH e,b];exact h2
  ·have e':¬ q.1=k:=λ z=>e (h1.trans z);have b:valueAt (q :: qs) k=valueAt qs k:=by simp [valueAt,cS,e']
   rw [QI e,b];exact ih
def KV.any {me:List (κ × V)} {vs:List (κ × Value)} (r:KV me vs) (k:κ):(me.any λ kv=>decide (kv.1=k))=vs.any λ kv=>decide (kv.1=k):=by
 unfold KV at r
 induction r with
 | nil=>rfl
 | cons h t ih=>rw [any_cons,any_cons,ih,h.1]
theorem KV.repl {me:List (κ × V)} {vs:List (κ × Value)} (r:KV me vs) (k:κ) {y:V} {u:Al} (ry:RelV y u) :
  KV (me.map λ kv=>if kv.1=k then (kv.1,y) else kv) (vs.map λ kv=>if kv.1=k then (kv.1,u) else kv):=by
 unfold KV at r ⊢
 induction r with
 | nil=>exact .nil
 | @cons p q ps qs h t ih =>
  rw [b5,b5];refine .cons ?_ ih;obtain ⟨h1,h2⟩:=h;by_cases e:p.1=k
  ·rw [aA e,aA (h1.symm.trans e)];exact ⟨h1,ry⟩
  ·rw [aq e,aq (λ z=>e (h1.trans z))];exact ⟨h1,h2⟩
def KV.put {me:List (κ × V)} {vs:List (κ × Value)} (r:KV me vs) (k:κ) {y:V} {u:Al} (ry:RelV y u):KV (Vs me k y) (stored vs k u):=by
 unfold Vs stored;rw [r.any k];by_cases e:(vs.any λ kv=>decide (kv.1=k))=true
 ·rw [aA e,aA e];exact r.repl k ry
 ·rw [aq e,aq e];exact Paired.snoc r ⟨rfl,ry⟩
def KV.drop {me:List (κ × V)} {vs:List (κ × Value)} (r:KV me vs) (k:κ):KV (zfs me k) (without vs k):=by
 unfold KV at r ⊢;unfold zfs without
 induction r with
 | nil=>exact .nil
 | @cons p q ps qs h t ih =>
  obtain ⟨h1,h2⟩:=h;rw [List.filter_cons,List.filter_cons];by_cases e:p.1=k
  ·have a:¬ decide (p.1≠k)=true:=by simp [e]
   have b:¬ decide (q.1≠k)=true:=by simp [h1.symm.trans e]
   rw [aq a,aq b];exact ih
  ·have e':¬ q.1=k:=λ z=>e (h1.trans z);have a:decide (p.1≠k)=true:=by simp [e]
   have b:decide (q.1≠k)=true:=by simp [e']
   rw [aA a,aA b];exact .cons ⟨h1,h2⟩ ih
def KV.keys {me:List (κ × V)} {vs:List (κ × Value)} (r:KV me vs):me.map (·.1)=vs.map (·.1):=by
 unfold KV at r
 induction r with
 | nil=>rfl
 | cons h t ih=>rw [b5,b5,ih,h.1]
def KV.length {me:List (κ × V)} {vs:List (κ × Value)} (r:KV me vs):me.length=vs.length:=cB r
end
abbrev KT (H:Hp):List (List Key × V)->List (List Key × Addr × Value)->Prop:=Paired λ p q=>p.1=q.1/\H q.2.1=some (.tup (p.1.map kV))/\RelV p.2 q.2.2
def KT.val {xs:List (List Key × Addr × Value)} (r:KT H me xs) (k:List Key):RelO (Qg me k) ((atKey xs k).map (·.2)):=by
 induction r with
 | nil=>exact True.intro
 | @cons p q ps qs h t ih =>
  obtain ⟨h1,_,h2⟩:=h;by_cases e:p.1=k
  ·have e':q.1=k:=h1.symm.trans e;have b:atKey (q :: qs) k=some q.2:=by simp [atKey,cS,e']
   rw [QH e,b];exact h2
  ·have e':¬ q.1=k:=λ z=>e (h1.trans z);have b:atKey (q :: qs) k=atKey qs k:=by simp [atKey,cS,e']
   rw [QI e,b];exact ih
theorem KT.repl {xs:List (List Key × Addr × Value)} (r:KT H me xs) (k:List Key) {y:V} {u:Al} (ry:RelV y u) :
  KT H (me.map λ kv=>if kv.1=k then (kv.1,y) else kv) (xs.map (putAt k u)):=by
 induction r with
 | nil=>exact .nil
 | @cons p q ps qs h t ih =>
  rw [b5,b5];refine .cons ?_ ih;obtain ⟨h1,h2,h3⟩:=h;unfold putAt;by_cases e:p.1=k
  ·rw [aA e,aA (h1.symm.trans e)];exact ⟨h1,h2,ry⟩
  ·rw [aq e,aq (λ z=>e (h1.trans z))];exact ⟨h1,h2,h3⟩
def KT.put {xs:List (List Key × Addr × Value)} (r:KT H me xs) (k:List Key) {y:V} {u:Al} (hb:H b=some (.tup (k.map kV))) (ry:RelV y u) :
  KT H (Vs me k y) (storedH xs k b u):=by
 have e:(me.any λ kv=>decide (kv.1=k))=(atKey xs k).isSome:=by
  rw [WL,(r.val k).isSome_eq,dW]
 unfold Vs storedH;rw [e];by_cases q:(atKey xs k).isSome=true
 ·rw [aA q,aA q];exact r.repl k ry
 ·rw [aq q,aq q];exact Paired.snoc r ⟨rfl,hb,ry⟩
def KT.keeps {H H':Hp} {xs:List (List Key × Addr × Value)} (r:KT H me xs) (ht:∀ b ys,H b=some (.tup ys)->H' b=some (.tup ys)):KT H' me xs :=
 Paired.mapP r λ _ _ z=>⟨z.1,ht _ _ z.2.1,z.2.2⟩
section
variable {P:Af} {w:World} {H:Hp} {h:Heap} {a:Addr}
end
def DGet (H:Hp) (a:Addr) (y:V) (r:Ap):Prop :=
 (∃ me k,Rd H a (.dK me)/\y=kV k/\r=Qg me k)\/∃ me k b,Rd H a (.dT me)/\y=.ref b/\H b=some (.tup (k.map kV))/\r=Qg me k
def DPut (H:Hp) (a:Addr) (y v:V) (H':Hp):Prop :=
 (∃ me k,H a=some (.dK me)/\y=kV k/\me.length < sizeLine/\H'=upd H a (.dK (Vs me k v))) \/
 ∃ me k b,H a=some (.dT me)/\y=.ref b/\H b=some (.tup (k.map kV))/\me.length < sizeLine/\H'=upd H a (.dT (Vs me k v))
def DGet.k {a:Addr} {me:List (Key × V)} {k:Key} (e:H a=some (.dK me)):DGet H a (kV k) (Qg me k):=.inl ⟨me,k,.inl e,rfl,rfl⟩
def DGet.t {a b:Addr} {k:List Key} (e:H a=some (.dT me)) (eb:H b=some (.tup (k.map kV))):DGet H a (.ref b) (Qg me k):=.inr ⟨me,k,b,.inl e,rfl,eb,rfl⟩
def DPut.k {a:Addr} {me:List (Key × V)} {k:Key} (e:H a=some (.dK me)) (hl:me.length < sizeLine):DPut H a (kV k) v (upd H a (.dK (Vs me k v))):=.inl ⟨me,k,e,rfl,hl,rfl⟩
def DPut.t {a b:Addr} {k:List Key} (e:H a=some (.dT me)) (eb:H b=some (.tup (k.map kV))) (hl:me.length < sizeLine) :
  DPut H a (.ref b) v (upd H a (.dT (Vs me k v))):=.inr ⟨me,k,b,e,rfl,eb,hl,rfl⟩
section
variable {X:Cx} {l8:A2} {σ:St} {H:Hp} {s:Am} {a:Addr} {y v:V} {u r:Al} {o:Ap} {A:An} {E:A3}
def Inv.big (I:Inv X l8 σ H s):sysModules < s.heap.objs.size:=by
 have h:mainGlobals < s.heap.objs.size:=(I.mod.glob.keeps I.bk).lt;exact Nat.lt_trans (by decide) h
def ze6 {h':Heap} {t':Nat} {ob:HO} (I:Inv X l8 σ H s) (mu:Mut (H a)) (hs:Heap.SameBut a s.heap h') (he:∃ q,h'.get? a=some q) (new:ObjOk X.prog X.w (upd H a ob) h' a ob) :
  Inv X l8 σ (upd H a ob) { s with heap:=h',toks:=t' } :=
 I.write (x:=a) (e:=a) mu (.inl rfl) (λ b q hb z=>(hs.2 b hb).trans z) he new
end
section
variable {X:Cx} {l8:A2} {σ:St} {H:Hp} {s:Am} {a:Addr} {me:List (Key × V)} {k:Key} {u:Al} {A:An} {E:A3}
end
def zg7 (i:Expr):Prop:=∀ ov iv,subscripted i false ov iv=operate [ov,iv] (getItem ov iv)
theorem zek {prog:Af} {w:World} {A:An} {E:A3} {s:Am} {env:Env} {value slice:Expr} {pos:Pos} {T id:String} {Q:A3}
  (hl:typeLookup (.type T) "__getitem__"=pure (some (.builtin id))) (hs:zg7 slice)
  (h:wpAny (model prog w) A (eval value env) (λ o s₁=>wpAny (model prog w) A (eval slice env) (λ i s₂=>s₂.TypeIs o T/\wpAny (model prog w) A (getItem o i) Q E s₂) E s₁) E s) :
  wpAny (model prog w) A (eval (.Subscript value slice pos) env) Q E s:=by
 refine Subscript_ (aQ h (λ o s₁ h₁=>aQ h₁ (λ i s₂ h₂=>?_) λ _ _ x=>x) λ _ _ x=>x);obtain ⟨hT,h₂⟩:=h₂;unfold subscriptTail;refine af ?_;rw [getitemInPython_of_ne hT.not_modules];refine af (cZ hT hl ?_);have fin:wpAny (model prog w) A (subscripted slice false o i) (λ r s₃=>wpAny (model prog w) A (letTemporaryGo value o r >>= λ _=>pure r) Q E s₃) E s₂:=by
  rw [hs o i];exact wpAny_operating (aQ h₂ (λ r s₃ h₃=>af (wpAny_letTemporaryGo (ao h₃))) λ _ _ x=>x)
 first
  | exact ao (af fin)
  | exact af (ao (af fin))
  | exact af fin
section
variable {X:Cx} {o i e value:Expr} {pos pos' tpos:Pos} {td ty tv:TE}
end
section
variable {X:Cx} {pos:Pos}
end
section
variable {X:Cx} {l8:A2} {σ:St} {H:Hp} {s:Am} {a:Addr} {y d:V} {u r:Al} {o:Ap} {A:An} {E:A3}
end
section
variable {X:Cx} {o e f:Expr} {apos cpos:Pos} {td ty tx:TE}
end
section
variable {κ:Type} [DecidableEq κ]
end
end L2
namespace L2
open PySem PySem.Spec PySem.Calls PyProof.Rows
section
variable {X:Cx}
end
end L2
namespace L2
open PySem PySem.Spec PyProof.Rows
variable {items:Ac}
section
variable {prog:Af} {w:World} {A:An} {E:A3} {s:Am} {it d:Addr} {i ep:Nat} {es:Array DictEntry} {od:Obj}
end
theorem jS {α β:Type} {F:α->β->Prop}:∀ {l₁:List α} {l₂:List β},Paired F l₁ l₂->∀ {i:Nat} {x:α} {y:β},l₁[i]?=some x->l₂[i]?=some y->F x y
 | _,_,.nil,_,_,_,h,_=>nomatch h
 | _,_,.cons r t,0,_,_,h,h'=>by cases h;cases h';exact r
 | _,_,.cons r t,i + 1,_,_,h,h'=>jS t h h'
section
variable {prog:Af} {w:World}
structure KItem (prog:Af) (w:World) (κ:Type) [DecidableEq κ] (d:Nat) where
 is:Heap->κ->Value->Prop
 hash:κ->Int
 draws:κ->Nat
 inj:∀ {h:Heap} {v:Al} {x y:κ},is h x v->is h y v->x=y
 keeps:∀ {h h':Heap} {k:κ} {v:Al} {a:Addr} {o:Obj} {es:Array DictEntry} {ep:Nat},is h k v->h.get? a=some o->o.data=.dict es ep->Heap.SameBut a h h'->is h' k v
 pyHash:∀ {A:An} {E:A3} {s:Am} {k:κ} {v:Al} {Q:Int->Shared->Prop},A.units + d < cLine->is s.heap k v->Q (hash k) { s with toks:=s.toks + draws k }->wpAny (model prog w) A (PySem.pyHash v) Q E s
 eq:∀ {A:An} {s:Am} {x y:κ} {u v:Al},A.units + d < cLine->is s.heap x u->is s.heap y v->SeqAt.EqAt A s u v (decide (x=y))
 quiet:∀ {A:An} {E:A3} {s:Am} {n:Nat} {k:κ} {v:Al} {Q:Bool->Shared->Prop},d<=n->is s.heap k v->Q true s->wpAny (model prog w) A (eqIsQuiet n v) Q E s
noncomputable def oiV:Option Int->V
 | none=>.non
 | some n=>.int n
def Vw (x:A9):xE (oiV x)=true:=by cases x <;> rfl
def zf1 (x y:A9):eqV (oiV x) (oiV y)=decide (x=y):=by
 cases x with
 | none=>cases y <;> simp [oiV,eqV]
 | some a =>
  cases y with
  | none=>simp [oiV,eqV]
  | some b =>
   show (a == b)=decide (some a=some b)
   by_cases e:a=b <;> simp [e]
def zeM {x y:A9} {v:Al} (h1:RelV (oiV x) v) (h2:RelV (oiV y) v):x=y:=by
 cases x <;> cases y
 ·rfl
 ·cases h1;obtain ⟨t,e⟩:=h2;cases e
 ·cases h2;obtain ⟨t,e⟩:=h1;cases e
 ·obtain ⟨t,rfl⟩:=h1;obtain ⟨t,e⟩:=h2;cases e;rfl
noncomputable def zgT:Option Int->Int
 | none=>reduceHash 0xFCA86420
 | some n=>hashInt n
def Vx {x:A9} {v:Al} (h:RelV (oiV x) v):carriedByValue v=true:=by
 cases x with
 | none=>cases h;rfl
 | some n=>obtain ⟨t,rfl⟩:=h;rfl
noncomputable def qT (prog:Af) (w:World):KItem prog w A9 0 where
 is:=λ _ k v=>RelV (oiV k) v
 hash:=zgT
 draws:=λ _=>1
 inj:=zeM
 keeps:=λ h _ _ _=>h
 pyHash:=by
  intro A E s k v Q hu h q;cases k with
  | none =>
   cases h;exact fh (T:="NoneType") rfl F.slot_NoneType_hash F.entry_NoneType_hash (F.args_NoneType_hash_1 _) (beq_builtin_none _) (.inr (by lia)) (af (ao (af (wpAny_mkInt (ao ⟨_,_,rfl,q⟩)))))
  | some n =>
   obtain ⟨t,rfl⟩:=h;exact wpAny_pyHash_int q
 eq:=by
  intro A s x y u v hu h1 h2;rw [<- zf1];exact ZZ h1 h2 (Vw x) (Vw y)
 quiet:=by
  intro A E s n k v Q _ h q;rw [eqIsQuiet_byValue _ (Vx h)];exact ao q
inductive HashAll (prog:Af) (w:World) (d:Nat) (hp:Heap):List Value->List (Int × Nat)->Prop
 | nil:HashAll prog w d hp [] []
 | cons {v:Al} {h:Int × Nat} {vs:A7} {hs:List (Int × Nat)}:(∀ (A:An) (E:A3) (s:Am) (Q:Int->Shared->Prop),s.heap=hp->A.units + d < cLine->Q h.1 { s with toks:=s.toks + h.2 }->wpAny (model prog w) A (PySem.pyHash v) Q E s)->HashAll prog w d hp vs hs->HashAll prog w d hp (v :: vs) (h :: hs)
theorem XG {d:Nat} {hp:Heap} {A:An} {E:A3} (hu:A.units + d < cLine):∀ {vs:A7} {hs:List (Int × Nat)} {s:Am} {b:Array Int} {Q:Array Int->Shared->Prop},HashAll prog w d hp vs hs->s.heap=hp->(∀ b',b'.toList=b.toList ++ hs.map (·.1)->Q b' { s with toks:=s.toks + (hs.map (·.2)).sum }) ->
  wpAny (model prog w) A (forIn vs b λ x r=>do let h <- PySem.pyHash x;pure PUnit.unit;pure (ForInStep.yield (r.push h))) Q E s
 | _,_,s,b,Q,.nil,_,h=>ao (h b (by simp))
 | _,_,s,b,Q,.cons (h:=h0) x r,e,h=>by
  rw [List.forIn_cons];refine af (af (x A E s _ e hu ?_));refine af (ao (ao ?_));refine XG hu r (by exact e) λ b' hb=>?_;have:=h b' (by simp [hb]);simpa [dL] using this
def VR {d:Nat} {a:Addr} {hs:List (Int × Nat)} {A:An} {E:A3} {s:Am} {Q:Int->Shared->Prop} (hT:IsTup s.heap a items) (all:HashAll prog w d s.heap items.toList hs) (hu:A.units + (d + 1) < cLine)
  (h:Q (reduceHash (Builtin.Tuple.tupleHashOf (hs.map (·.1)))) { s with toks:=s.toks + ((hs.map (·.2)).sum + 1) }):wpAny (model prog w) A (PySem.pyHash (.ref a)) Q E s:=by
 obtain ⟨o,ho,hc,n,hd⟩:=hT;refine fh (T:="tuple") ⟨_,ho,hc⟩ F.slot_tuple_hash F.entry_tuple_hash (F.args_tuple_hash_1 _) (beq_builtin_none _) (.inr (by lia)) ?_;show wpAny _ _ (Builtin.Tuple.tupleItemsOf (.ref a) >>= _) _ _ s
 refine af (wpAny_tupleItemsOf ho hd ?_);refine af ?_;rw [<- cY];refine XG (d:=d) (by simp only [dB];lia) all rfl λ b hb=>?_;show wpAny _ _ (retInt (Builtin.Tuple.tupleHashOf b.toList)) _ _ _
 rw [hb];exact af (wpAny_mkInt (ao ⟨_,_,rfl,by simpa [dL] using h⟩))
def ZS {d:Nat} {a:Addr} {A:An} {E:A3} {s:Am} {Q:Bool->Shared->Prop} {n:Nat} (hT:IsTup s.heap a items) (all:∀ v∈items.toList,∀ (A:An) (E:A3) (Q:Bool->Shared->Prop),Q true s->wpAny (model prog w) A (eqIsQuiet n v) Q E s) (h:Q true s):wpAny (model prog w) A (eqIsQuiet (n + 1) (.ref a)) Q E s:=by
 obtain ⟨o,ho,hc,m,hd⟩:=hT;have hT:s.TypeIs (.ref a) "tuple":=⟨o,ho,hc⟩;unfold eqIsQuiet;refine af (cZ hT F.slot_tuple_eq.lookup ?_);show wpAny _ _ (isInstance (.ref a) (.type "tuple") >>= _) _ _ s
 refine af (eE hT isSubtype_tuple_tuple ?_);simp only [cn,aO,bE];refine af (dS ho hd ?_);refine af ?_;show wpAny _ _ (forIn items _ _) _ _ s
 rw [<- cY];refine dA _ (λ rest r s'=>r.1=none/\s'=s/\∀ v∈rest,v∈items.toList) _ ?_ ?_ _ _ ⟨rfl,rfl,λ v hv=>hv⟩
 ·rintro v rest r s' ⟨hr,rfl,hall⟩;refine af (all v (hall v bw) _ _ _ ?_);simp only [cn,aO,bE];exact ao ⟨rfl,rfl,λ u hu'=>hall u (aB _ hu')⟩
 ·rintro ⟨r1,r2⟩ s' ⟨hr,rfl,_⟩;simp only at hr;subst hr;exact ao h
def Jy {h h':Heap} {b a:Addr} {o:Obj} {es:Array DictEntry} {ep:Nat} (x:IsTup h b items) (ho:h.get? a=some o) (hd:o.data=.dict es ep) (hs:Heap.SameBut a h h'):IsTup h' b items:=by
 obtain ⟨o',h1,h2,n,h3⟩:=x;have ne:b≠a:=λ z=>by
  subst z;rw [ho] at h1;cases h1;rw [hd] at h3;cases h3
 exact ⟨o',(hs.2 b ne).trans h1,h2,n,h3⟩
def wV {h:Heap} {b:Addr} {xs ys:Ac} (x:IsTup h b xs) (y:IsTup h b ys):xs=ys:=by
 obtain ⟨o,h1,_,n,h3⟩:=x;obtain ⟨o',g1,_,m,g3⟩:=y;rw [h1] at g1;cases g1;rw [h3] at g3;injection g3
def zgu {κ:Type} [DecidableEq κ] {xs ys:List κ}:((List.range (min xs.length ys.length)).all (λ j=>decide (xs[j]?=ys[j]?)) && xs.length == ys.length)=decide (xs=ys):=by
 by_cases e:xs=ys
 ·subst e;simp
 ·rw [a4 e];by_cases hl:xs.length=ys.length
  ·have:¬ (List.range (min xs.length ys.length)).all (λ j=>decide (xs[j]?=ys[j]?))=true:=λ z=>e (List.ext_getElem? λ j=>by
    rw [dc] at z;by_cases hj:j < xs.length
    ·exact br (z j (bu.mpr (by lia)))
    ·rw [cR (by lia),cR (by lia)])
   simp only [Bool.not_eq_true] at this;rw [this]
   rfl
  ·have:(xs.length == ys.length)=false:=a8.mpr hl;rw [this,bX]
section
variable {κ:Type} [DecidableEq κ] {d:Nat}
theorem vJ {F:κ->Value->Prop} (f:∀ (x y:κ) (v:Al),F x v->F y v->x=y):∀ {xs ys:List κ} {vs:A7},Paired F xs vs->Paired F ys vs->xs=ys
 | _,_,_,.nil,h=>by cases h;rfl
 | _,_,_,.cons a t,h=>by
  cases h with
  | cons b u=>rw [f _ _ _ a b,vJ f t u]
def VM {n d e c:Nat} (l:d<=e) (h:n + e < c):n + d < c:=dM (Nat.add_le_add_left l n) h
def zgS {A:An} {e c:Nat} (h:A.units + (e + 1) < c):A.in1.units + e < c:=by
 simp only [dB]
 lia
def zcY {n d:Nat} (h:d + 1<=n):∃ m,n=m + 1/\d<=m:=⟨n - 1,by lia,by lia⟩
noncomputable def xI (I:KItem prog w κ d):KItem prog w (List κ) (d + 1) where
 is:=λ h ks v=>∃ a items,v=.ref a/\IsTup h a items/\Paired (I.is h) ks items.toList
 hash:=λ ks=>reduceHash (Builtin.Tuple.tupleHashOf (ks.map I.hash))
 draws:=λ ks=>(ks.map I.draws).sum + 1
 inj:=by
  rintro h v x y ⟨a,items,rfl,h1,h2⟩ ⟨b,items',e,g1,g2⟩;cases e;have:=wV h1 g1;subst this;exact vJ (F:=I.is h) (λ _ _ _ p q=>I.inj p q) h2 g2
 keeps:=by
  rintro h h' k v a o es ep ⟨b,items,rfl,h1,h2⟩ ho hd hs;exact ⟨b,items,rfl,Jy h1 ho hd hs,Paired.mapP h2 λ p q z=>I.keeps z ho hd hs⟩
 pyHash:=by
  rintro A E s k v Q hu ⟨b,items,rfl,h1,h2⟩ q;have all:∀ {ks:List κ} {vs:A7},Paired (I.is s.heap) ks vs->HashAll prog w d s.heap vs (ks.map λ k=>(I.hash k,I.draws k)):=by
   intro ks vs p
   induction p with
   | nil=>exact .nil
   | cons z _ ih=>exact .cons (λ A E s' Q e hu q=>I.pyHash hu (by rw [e];exact z) q) ih
  refine VR h1 (all h2) hu ?_;rw [dC,dC];exact q
 eq:=by
  rintro A s x y u v hu ⟨a,xs,rfl,h1,h2⟩ ⟨b,ys,rfl,g1,g2⟩;by_cases e:a=b
  ·subst e;have:=wV h1 g1;subst this;rw [vJ (F:=I.is s.heap) (λ _ _ _ p q=>I.inj p q) h2 g2,bF rfl];exact dI _
  ·refine cG e ?_;have l1:x.length=xs.size:=by rw [cB h2,aK]
   have l2:y.length=ys.size:=by rw [cB g2,aK]
   have:=cP (A:=A) (s:=s) (e:=λ j=>decide (x[j]?=y[j]?)) h1 g1 (by lia) (λ j hj1 hj2=>by
    obtain ⟨k1,e1⟩:∃ k,x[j]?=some k:=⟨x[j]'(by lia),ae _⟩;obtain ⟨k2,e2⟩:∃ k,y[j]?=some k:=⟨y[j]'(by lia),ae _⟩;have p1:=jS h2 e1 (show xs.toList[j]?=some xs[j] by rw [bB,bz hj1]);have p2:=jS g2 e2 (show ys.toList[j]?=some ys[j] by rw [bB,bz hj2]);rw [e1,e2,show decide (some k1=some k2)=decide (k1=k2) by simp];exact I.eq (zgS hu) p1 p2)
   rw [<- l1,<- l2,zgu] at this;exact this
 quiet:=by
  rintro A E s n k v Q hn ⟨b,items,rfl,h1,h2⟩ q;obtain ⟨m,rfl,hm⟩:=zcY hn;refine ZS (d:=d) h1 (λ v hv A E Q q=>?_) q;obtain ⟨j,hj⟩:=eW.mp hv;have hl:=(aa.mp hj).1;obtain ⟨k1,e1⟩:∃ x,k[j]?=some x:=⟨k[j]'(by rw [cB h2];exact hl),ae _⟩;exact I.quiet hm (jS h2 e1 hj) q
end
section
variable {κ1 κ2 κ3 κ4:Type} [DecidableEq κ1] [DecidableEq κ2] [DecidableEq κ3] [DecidableEq κ4] {d1 d2 d3 d4:Nat}
inductive QIs (I1:KItem prog w κ1 d1) (I2:KItem prog w κ2 d2) (I3:KItem prog w κ3 d3) (I4:KItem prog w κ4 d4) (h:Heap) (k:κ1 × κ2 × κ3 × κ4) (v:Al):Prop
 | i (a:Addr) (u1 u2 u3 u4:Al):v=.ref a->IsTup h a #[u1,u2,u3,u4]->I1.is h k.1 u1->I2.is h k.2.1 u2->I3.is h k.2.2.1 u3->I4.is h k.2.2.2 u4->QIs I1 I2 I3 I4 h k v
noncomputable def zdi (I1:KItem prog w κ1 d1) (I2:KItem prog w κ2 d2) (I3:KItem prog w κ3 d3) (I4:KItem prog w κ4 d4) (d:Nat) (l1:d1<=d) (l2:d2<=d) (l3:d3<=d) (l4:d4<=d):KItem prog w (κ1 × κ2 × κ3 × κ4) (d + 1) where
 is:=QIs I1 I2 I3 I4
 hash:=λ k=>reduceHash (Builtin.Tuple.tupleHashOf [I1.hash k.1,I2.hash k.2.1,I3.hash k.2.2.1,I4.hash k.2.2.2])
 draws:=λ k=>[I1.draws k.1,I2.draws k.2.1,I3.draws k.2.2.1,I4.draws k.2.2.2].sum + 1
 inj:=by
  rintro h v ⟨x1,x2,x3,x4⟩ ⟨y1,y2,y3,y4⟩ ⟨a,u1,u2,u3,u4,rfl,h1,i1,i2,i3,i4⟩ ⟨b,v1,v2,v3,v4,e,g1,j1,j2,j3,j4⟩;cases e;have:=wV h1 g1;cases this;simp only at i1 i2 i3 i4 j1 j2 j3 j4;rw [I1.inj i1 j1,I2.inj i2 j2,I3.inj i3 j3,I4.inj i4 j4]
 keeps:=by
  rintro h h' k v a o es ep ⟨b,u1,u2,u3,u4,rfl,h1,i1,i2,i3,i4⟩ ho hd hs;exact ⟨b,u1,u2,u3,u4,rfl,Jy h1 ho hd hs,I1.keeps i1 ho hd hs,I2.keeps i2 ho hd hs,I3.keeps i3 ho hd hs,I4.keeps i4 ho hd hs⟩
 pyHash:=by
  rintro A E s k v Q hu ⟨b,u1,u2,u3,u4,rfl,h1,i1,i2,i3,i4⟩ q;refine VR (d:=d) (hs:=[(I1.hash k.1,I1.draws k.1),(I2.hash k.2.1,I2.draws k.2.1),(I3.hash k.2.2.1,I3.draws k.2.2.1),(I4.hash k.2.2.2,I4.draws k.2.2.2)]) h1 ?_ hu q;exact .cons (λ A E s' Q e hu q=>I1.pyHash (VM l1 hu) (by rw [e];exact i1) q) (.cons (λ A E s' Q e hu q=>I2.pyHash (VM l2 hu) (by rw [e];exact i2) q) (.cons (λ A E s' Q e hu q=>I3.pyHash (VM l3 hu) (by rw [e];exact i3) q) (.cons (λ A E s' Q e hu q=>I4.pyHash (VM l4 hu) (by rw [e];exact i4) q) .nil)))
 eq:=by
  rintro A s ⟨x1,x2,x3,x4⟩ ⟨y1,y2,y3,y4⟩ u v hu ⟨a,u1,u2,u3,u4,rfl,h1,i1,i2,i3,i4⟩ ⟨b,v1,v2,v3,v4,rfl,g1,j1,j2,j3,j4⟩;simp only at i1 i2 i3 i4 j1 j2 j3 j4;by_cases e:a=b
  ·subst e;have:=wV h1 g1;cases this;rw [I1.inj i1 j1,I2.inj i2 j2,I3.inj i3 j3,I4.inj i4 j4,bF rfl];exact dI _
  ·refine cG e ?_;have hu':=zgS hu;have:=cP (A:=A) (s:=s) (e:=λ j=>[decide (x1=y1),decide (x2=y2),decide (x3=y3),decide (x4=y4)].getD j true) h1 g1 (by lia) (λ j hj1 hj2=>by
    match j,hj1,hj2 with
    | 0,_,_=>exact I1.eq (VM l1 hu') i1 j1
    | 1,_,_=>exact I2.eq (VM l2 hu') i2 j2
    | 2,_,_=>exact I3.eq (VM l3 hu') i3 j3
    | 3,_,_=>exact I4.eq (VM l4 hu') i4 j4)
   have z:((List.range (min (#[u1,u2,u3,u4]:Ac).size (#[v1,v2,v3,v4]:Ac).size)).all (λ j=>[decide (x1=y1),decide (x2=y2),decide (x3=y3),decide (x4=y4)].getD j true) && (#[u1,u2,u3,u4]:Ac).size == (#[v1,v2,v3,v4]:Ac).size)=decide ((x1,x2,x3,x4)=(y1,y2,y3,y4)):=by
    show ((List.range 4).all _ && true)=_
    rw [show List.range 4=[0,1,2,3] from rfl];simp only [List.all_cons,List.all_nil,eH,List.getD_cons_zero,List.getD_cons_succ,Prod.mk.injEq,Bool.decide_and]
   rw [z] at this;exact this
 quiet:=by
  rintro A E s n k v Q hn ⟨b,u1,u2,u3,u4,rfl,h1,i1,i2,i3,i4⟩ q;obtain ⟨m,rfl,hm⟩:=zcY hn;refine ZS (d:=d) h1 (λ v hv A E Q q=>?_) q;have hv:v=u1\/v=u2\/v=u3\/v=u4:=by simpa using hv
  rcases hv with rfl|rfl|rfl|rfl
  ·exact I1.quiet (bc l1 hm) i1 q
  ·exact I2.quiet (bc l2 hm) i2 q
  ·exact I3.quiet (bc l3 hm) i3 q
  ·exact I4.quiet (bc l4 hm) i4 q
end
abbrev ShK:=Option Int × List (List A9) × List A9 × List A9
noncomputable def qO (prog:Af) (w:World):KItem prog w ShK 3:=zdi (qT prog w) (xI (xI (qT prog w))) (xI (qT prog w)) (xI (qT prog w)) 2 (by decide) (by decide) (by decide) (by decide)
noncomputable def xw (prog:Af) (w:World):HeapKind prog w ShK where
 is:=λ h k a=>(qO prog w).is h k (.ref a)
 hash:=(qO prog w).hash
 draws:=(qO prog w).draws
 room:=λ A=>A.units + 3 < cLine
 inj:=λ hx hy=>(qO prog w).inj hx hy
 keeps:=λ x ho hd hs=>(qO prog w).keeps x ho hd hs
 pyHash:=λ hu hk h=>(qO prog w).pyHash hu hk h
 eqBool:=λ hu hx hy h=>(qO prog w).eq hu hx hy prog w _ _ h
 quiet:=λ hk h=>(qO prog w).quiet (by decide) hk h
end
noncomputable def oiD:Option Int->D
 | none=>.non
 | some n=>.int n
noncomputable def shD (k:ShK):D:=.tup [oiD k.1,.tup (k.2.1.map λ r=>.tup (r.map oiD)),.tup (k.2.2.1.map oiD),.tup (k.2.2.2.map oiD)]
theorem Xr {α β:Type} {F:α->β->Prop}:∀ {xs:List α} {ys:List β},xs.length=ys.length->(∀ (i:Nat) x y,xs[i]?=some x->ys[i]?=some y->F x y)->Paired F xs ys
 | [],[],_,_=>.nil
 | [],_ :: _,h,_=>by simp at h
 | _ :: _,[],h,_=>by simp at h
 | x :: xs,y :: ys,h,f=>.cons (f 0 x y rfl rfl) (Xr (by simpa using h) λ i a b e1 e2=>f (i + 1) a b e1 e2)
section
variable {P:Af} {w:World} {H:Hp} {h:Heap} {p:A5}
def Zp {x:A9} {v:V} {u:Al} (r:Rep H p v (oiD x)) (e:RelV v u):(qT P w).is h x u:=by
 cases x with
 | none =>
  have r:Rep H p v .non:=r;cases r;exact e
 | some n =>
  have r:Rep H p v (.int n):=r;cases r;exact e
def Qx {κ:Type} [DecidableEq κ] {d:Nat} (ok:HOk P w H h) {I:KItem P w κ d} {f:κ->D} (hI:∀ x v u,Rep H p v (f x)->RelV v u->I.is h x u) {xs:List κ} {v:V} {u:Al} (r:Rep H p v (.tup (xs.map f))) (e:RelV v u):(xI I).is h xs u:=by
 obtain ⟨t,us,rfl,_,ht,rr⟩:=Rep.tup' r;obtain ⟨_,ma,vals,isT⟩:=(show ObjOk P w H h t (.tup us) from ok t _ ht);refine ⟨t,ma.toArray,e,isT,Xr ?_ λ i x y e1 e2=>?_⟩
 ·rw [fk,<- vals.length,rr.len,ah]
 ·rw [fk] at e2;obtain ⟨v',hv',rv⟩:=rr.of (i:=i) (d:=f x) (by rw [au,e1];rfl);exact hI x v' y rv (jS vals hv' e2)
theorem zbQ {α:Type} {n:Nat}:∀ {us:List α},us.length=n + 1->∃ v w,us=v :: w/\w.length=n
 | v :: w,h=>⟨v,w,rfl,by simpa using h⟩
def zbr {v:V} {vs:Ao} {us:A7} (h:Vals (v :: vs) us):∃ u ws,us=u :: ws/\RelV v u/\Vals vs ws:=by
 cases h with
 | cons a b=>exact ⟨_,_,rfl,a,b⟩
def jR (ok:HOk P w H h) {k:ShK} {b:Addr} (r:Rep H p (.ref b) (shD k)):(xw P w).is h k b:=by
 obtain ⟨t,us,e,_,ht,rr⟩:=Rep.tup' r;cases e;obtain ⟨_,ma,vals,isT⟩:=(show ObjOk P w H h b (.tup us) from ok b _ ht);have g:=rr.g;obtain ⟨v1,w1,rfl,l1⟩:=zbQ rr.len;obtain ⟨v2,w2,rfl,l2⟩:=zbQ l1;obtain ⟨v3,w3,rfl,l3⟩:=zbQ l2;obtain ⟨v4,w4,rfl,l4⟩:=zbQ l3;cases bK.mp l4;obtain ⟨u1,z1,rfl,q1,vals⟩:=zbr vals;obtain ⟨u2,z2,rfl,q2,vals⟩:=zbr vals;obtain ⟨u3,z3,rfl,q3,vals⟩:=zbr vals;obtain ⟨u4,z4,rfl,q4,vals⟩:=zbr vals;cases vals;have k1:=Zp (P:=P) (w:=w) (h:=h) (g 0 v1 _ rfl rfl) q1;have k2:=Qx ok (I:=xI (qT P w)) (λ x v u r e=>Qx ok (I:=qT P w) (λ x v u r e=>Zp r e) r e) (g 1 v2 _ rfl rfl) q2;have k3:=Qx ok (I:=qT P w) (λ x v u r e=>Zp r e) (g 2 v3 _ rfl rfl) q3;have k4:=Qx ok (I:=qT P w) (λ x v u r e=>Zp r e) (g 3 v4 _ rfl rfl) q4;exact ⟨b,u1,u2,u3,u4,rfl,isT,k1,k2,k3,k4⟩
end
noncomputable def toV (x:ShK × Addr × Addr):ShK × Addr × Value:=(x.1,x.2.1,.ref x.2.2)
noncomputable def sdO (P:Af) (w:World) (D:Addr) (xs:List (ShK × Addr × Addr)):HO:=.ext λ h=>((D == sysModules)=false/\xs.length<=sizeLine/\(xs.map (·.1)).Nodup)/\∃ o es ep,h.get? D=some o/\o.ExactDict/\o.data=.dict es ep/\es.toList=(xs.map toV).map (entryOfKey (xw P w))
def keysOk (H:Hp) (xs:List (ShK × Addr × Addr)):Prop:=∀ x∈xs,∃ p:Addr->Prop,Rep H p (.ref x.2.1) (shD x.1)
noncomputable def xn (xs:List (ShK × Addr × Addr)) (k:ShK):Option Addr:=(xs.find? λ x=>decide (x.1=k)).map (·.2.2)
theorem Zj (k:ShK):∀ xs:List (ShK × Addr × Addr),(atKey (xs.map toV) k).map (·.2)=(xn xs k).map Value.ref
 | []=>rfl
 | x :: xs=>by
  have ih:=Zj k xs;unfold atKey xn at ih ⊢;rw [b5,cS,cS];show Option.map _ (Option.map _ (match decide (x.1=k) with|true=>some (toV x)|false=>_))=_
  by_cases e:x.1=k
  ·rw [bF e];rfl
  ·rw [a4 e];exact ih
def keysOk.same {H H':Hp} {xs:List (ShK × Addr × Addr)} (h:keysOk H xs) (s:∀ b ys,H b=some (.tup ys)->H' b=some (.tup ys)) (t:∀ x∈xs,∃ p:Addr->Prop,Rep H p (.ref x.2.1) (shD x.1)/\∀ b o,p b->H b=some o->H' b=some o):keysOk H' xs:=λ x hx=>by
 obtain ⟨p,r,k⟩:=t x hx;exact ⟨p,r.keep λ b o pb hb=>⟨pb,k b o pb hb⟩⟩
def zbm {P:Af} {w:World} {H:Hp} {h:Heap} {D:Addr} {xs:List (ShK × Addr × Addr)} (ok:HOk P w H h) (e:H D=some (sdO P w D xs)) (ks:keysOk H xs):(D == sysModules)=false/\xs.length<=sizeLine/\(xs.map (·.1)).Nodup/\h.DictOfH (xw P w) D (xs.map toV):=by
 obtain ⟨⟨⟨h1,h2,h3⟩,o,es,ep,g1,g2,g3,g4⟩,_,_⟩:=(show ObjOk P w H h D (sdO P w D xs) from ok D _ e);refine ⟨h1,h2,h3,o,es,ep,g1,g2,g3,g4,λ x hx=>?_,by rw [dC];exact h3⟩;obtain ⟨y,hy,rfl⟩:=aP.mp hx;obtain ⟨p,r⟩:=ks y hy;exact jR ok r
def zfk {P:Af} {w:World} {H:Hp} {h:Heap} {D:Addr} {xs:List (ShK × Addr × Addr)} (h1:(D == sysModules)=false) (h2:xs.length<=sizeLine) (h3:(xs.map (·.1)).Nodup) (g:∃ o es ep,h.get? D=some o/\o.ExactDict/\o.data=.dict es ep/\es.toList=(xs.map toV).map (entryOfKey (xw P w))):ObjOk P w H h D (sdO P w D xs):=by
 refine ⟨⟨⟨h1,h2,h3⟩,g⟩,?_,?_⟩
 ·obtain ⟨o,_,_,g1,_⟩:=g;exact ⟨o,g1⟩
 ·rintro k1 k2 ⟨a,o,es,ep,g1,g2⟩ k;exact ⟨a,o,es,ep,k o g1,g2⟩
section
variable {X:Cx} {l8:A2} {σ:St} {H:Hp} {s:Am} {D b y:Addr} {A:An} {E:A3} {xs:List (ShK × Addr × Addr)} {k:ShK} {p:A5}
def vB (hu:A.units + 100 < cLine):(xw X.prog X.w).room A.in1:=by
 show A.in1.units + 3 < cLine
 simp only [dB]
 lia
def zhg {Q:A3} (hu:A.units + 100 < cLine) (I:Inv X l8 σ H s) (e:H D=some (sdO X.prog X.w D xs)) (ks:keysOk H xs) (r:Rep H p (.ref b) (shD k)) (h:∀ s',Inv X l8 σ H s'->Q (.bool (xn xs k).isSome) s'):wpAny (model X.prog X.w) A (compareOp .In (.ref b) (.ref D)) Q E s:=by
 obtain ⟨h1,h2,h3,dd⟩:=zbm I.hok e ks;refine wpAny_in_heap (vB hu) (jR I.hok r) h1 dd ?_;have q:=ce Option.isSome (Zj k xs);rw [dW,dW] at q;rw [q];exact h _ (I.tok _)
def zgH {Q:A3} (hu:A.units + 100 < cLine) (I:Inv X l8 σ H s) (e:H D=some (sdO X.prog X.w D xs)) (ks:keysOk H xs) (r:Rep H p (.ref b) (shD k)) (l:xn xs k=some y) (h:∀ s',Inv X l8 σ H s'->Q (.ref y) s'):wpAny (model X.prog X.w) A (getItem (.ref D) (.ref b)) Q E s:=by
 obtain ⟨h1,h2,h3,dd⟩:=zbm I.hok e ks;have q:=Zj k xs;rw [l] at q;obtain ⟨z,hz,e2⟩:=aC.mp q;refine wpAny_getItem_heap (vB hu) (jR I.hok r) dd hz ?_;rw [e2];exact h _ (I.tok _)
def zgG {Q:Ag} (hu:A.units + 100 < cLine) (I:Inv X l8 σ H s) (e:H D=some (sdO X.prog X.w D xs)) (ks:keysOk H xs) (r:Rep H p (.ref b) (shD k)) (l:xn xs k=none) (hl:xs.length < sizeLine) (h:∀ s',Inv X l8 σ (upd H D (sdO X.prog X.w D (xs ++ [(k,b,y)]))) s'->Q () s'):wpAny (model X.prog X.w) A (setItem (.ref D) (.ref b) (.ref y)) Q E s:=by
 obtain ⟨h1,h2,h3,dd⟩:=zbm I.hok e ks;have q:=Zj k xs;rw [l] at q;have q:atKey (xs.map toV) k=none:=by simpa using q
 refine wpAny_setItem_heap (hsz:=by rw [ah];exact h2) (vB hu) (jR I.hok r) dd λ h' dd' hs=>h _ ?_;rw [storedH_new q] at dd';obtain ⟨o,es,ep,g1,g2,g3,g4,_,g5⟩:=dd';refine ze6 I (by rw [e];exact True.intro) hs ⟨o,g1⟩ (zfk h1 (by simp;lia) ?_ ⟨o,es,ep,g1,g2,g3,?_⟩)
 ·have:(xs ++ [(k,b,y)]).map (·.1)=((xs.map toV ++ [(k,b,Value.ref y)]).map (·.1)):=by simp [toV]
  rw [this];exact g5
 ·rw [g4];simp [toV]
end
def tSIn (P:Af) (w:World) (ty td:TE):TE:=λ σ H Q=>ty σ H λ y H1=>td σ H1 λ x H2=>∃ D b xs k p,x=.ref D/\y=.ref b/\H2 D=some (sdO P w D xs)/\keysOk H2 xs/\Rep H2 p (.ref b) (shD k)/\Q (.bl (xn xs k).isSome) H2
def tSGet (P:Af) (w:World) (td ty:TE):TE:=λ σ H Q=>td σ H λ x H1=>ty σ H1 λ y H2=>∃ D b xs k p z,x=.ref D/\y=.ref b/\H2 D=some (sdO P w D xs)/\keysOk H2 xs/\Rep H2 p (.ref b) (shD k)/\xn xs k=some z/\Q (.ref z) H2
def sSPut (P:Af) (w:World) (td ty tv:TE):TS:=λ N σ H=>tv σ H λ v H1=>td σ H1 λ x H2=>ty σ H2 λ y H3=>∃ D b xs k p z,x=.ref D/\y=.ref b/\v=.ref z/\H3 D=some (sdO P w D xs)/\keysOk H3 xs/\Rep H3 p (.ref b) (shD k)/\xn xs k=none/\xs.length < sizeLine/\N.nx σ (upd H3 D (sdO P w D (xs ++ [(k,b,z)])))
def tSNew (P:Af) (w:World):TE:=λ _ H Q=>∀ p,H p=none->Q (.ref p) (upd H p (sdO P w p []))
section
variable {X:Cx} {o i value:Expr} {pos pos':Pos} {td ty tv:TE}
def zfW (hu:X.A.units + 100 < cLine) (hi:PE X i ty) (ho:PE X o td):PC X .In i o (tSIn X.prog X.w ty td):=by
 intro l8 s σ H Q I h;refine qp (hi l8 s σ H _ I h) λ iv s1 y H1 I1 ry q1=>qp (ho l8 s1 σ H1 _ I1 q1) λ u s2 x H2 I2 rx qq_=>?_;obtain ⟨D,b,xs,k,p,ex,ey,e,ks,r,q2⟩:=qq_;subst ex ey;obtain rfl:u=Value.ref D:=rx;obtain rfl:iv=Value.ref b:=ry;exact zhg hu I2 e ks r λ s3 I3=>⟨.bl _,H2,I3,rfl,q2⟩
def zeI (hu:X.A.units + 100 < cLine) (ho:PE X o td) (hi:PE X i ty) (hs:zg7 i):PE X (.Subscript o i pos) (tSGet X.prog X.w td ty):=by
 intro l8 s σ H Q I h;refine zek PySem.F.slot_dict_getitem.lookup hs (qp (ho l8 s σ H _ I h) λ u s1 x H1 I1 rx q1=>qp (hi l8 s1 σ H1 _ I1 q1) λ iv s2 y H2 I2 ry qq_=>?_);obtain ⟨D,b,xs,k,p,z,ex,ey,e,ks,r,l,q2⟩:=qq_;subst ex ey;obtain rfl:u=Value.ref D:=rx;obtain rfl:iv=Value.ref b:=ry;exact ⟨(zbm I2.hok e ks).2.2.2.typeIs,zgH hu I2 e ks r l λ s3 I3=>⟨.ref z,H2,I3,rfl,q2⟩⟩
def zeF (hu:X.A.units + 100 < cLine) (ho:PE X o td) (hi:PE X i ty) (hv:PE X value tv) (hs:swapsWith value (some (.Subscript o i pos')) pos.line X.env=pure false) :
  PS X (.Assign [.Subscript o i pos'] value pos) (sSPut X.prog X.w td ty tv):=by
 intro l8 s σ H N I h;refine wpAny_Assign_Subscript (qp (hv l8 s σ H _ I h) λ r s1 v H1 I1 rv q1=>qp (ho l8 s1 σ H1 _ I1 q1) λ u s2 x H2 I2 rx q2=>qp (hi l8 s2 σ H2 _ I2 q2) λ iv s3 y H3 I3 ry qq_=>?_) hs;obtain ⟨D,b,xs,k,p,z,ex,ey,ez,e,ks,r',l,hl,q3⟩:=qq_;subst ex ey ez;obtain rfl:u=Value.ref D:=rx;obtain rfl:iv=Value.ref b:=ry;obtain rfl:r=Value.ref z:=rv;exact zgG hu I3 e ks r' l hl λ s4 I4=>⟨σ,_,I4,q3⟩
def zeH:PE X (.Dict [] [] pos) (tSNew X.prog X.w):=λ l8 s σ H Q I h =>
 wpAny_Dict_empty ⟨.ref s.heap.objs.size,_,I.laid (a:=s.heap.objs.size) (o:=sdO X.prog X.w s.heap.objs.size []) (t':=s.toks) (λ _ _ q=>aj _ q) (ap _) (zfk (a8.mpr (aZ (aI I.big))) (bU _) List.nodup_nil ⟨_,#[],0,aJ _ rfl,⟨rfl,rfl,rfl⟩,rfl,rfl⟩),rfl,h _ (I.hok.fresh (ap _))⟩
end
section
variable {X:Cx} {G:GK} {x:Str} {np pos hpos:Pos} {body su:List Stmt} {b₀:Stmt} {tb:List (Addr × Obj)->GK->TS} {th:List (Addr × Obj)->Addr->TS}
def zfg (X:Cx) (x:Str) (tb:List (Addr × Obj)->GK->TS) (th:List (Addr × Obj)->Addr->TS):TS:=λ D σ H=>∃ Dc,X.mg x=some (.ref Dc)/\subIn X.K (.ref Dc) (.type "BaseException")=some true /\
 ∀ pn,tb pn (λ cls σ' H'=>∃ C,cls=.ref C/\kitCls X.K (.ref C) (.ref Dc)=some true/\∀ a,H' a=none->th pn a D σ' H') D σ H
theorem zfQ (B:Bod X) (hc:X.calm=true)
  (hb:∀ pn G',PSs ((X.pinned pn).exg G') body (tb pn G')) (hs:∀ pn a,PSs (X.suite pn a) (b₀ :: su) (th pn a)) (hg:Gl X x:=by rfl) (hdb:(x == ("__debug__":Str))=false:=by decide) :
  PS (X.exg G) (.Try body [.ExceptHandler (some (.Name x np)) none (b₀ :: su) hpos] [] [] pos) (zfg X x tb th):=by
 intro l8 s σ H D I h;obtain ⟨Dc,hm,hsub,h⟩:=h;have I1:=I.unwish.topn;refine wpAny_Try_except (aQ (hb (X.pn ++ l8) _ [] s σ H D (I1.wish _) (h (X.pn ++ l8))) (λ f s1 q=>?_) λ e s1 q=>?_)
 ·cases f with
  | next =>
   obtain ⟨σ',H',J,q⟩:=q;exact cD ⟨σ',H',J.unwish.ofpn.wish _,q⟩
  | brk=>obtain ⟨σ',H',J,q⟩:=q;exact ⟨σ',H',J.unwish.ofpn.wish _,q⟩
  | cont=>obtain ⟨σ',H',J,q⟩:=q;exact ⟨σ',H',J.unwish.ofpn.wish _,q⟩
  | ret u=>obtain ⟨v,σ',H',J,r,q⟩:=q;exact ⟨v,σ',H',J.unwish.ofpn.wish _,r,q⟩
 ·refine aQ (show wpAny _ _ _ _ _ _ from q) (λ _ s2 q2=>aQ q2 (λ _ s3 q3=>?_) λ _ _ z=>z.elim) λ _ _ z=>z.elim;obtain ⟨a,cls,σ',H',rfl,J,xx,C,rfl,hk,hth⟩:=q3;have J2:Inv (X.suite (X.pn ++ l8) a) [] σ' H' s3:=J.tosuite;obtain ⟨oe,vs,he,hcls,_,_⟩:=xx.obj;refine wpAny_handleBy_cons (codeAny_handlers_test (jw J2 hg hm (Qa J2.kIn he hcls hk hsub ?_) hdb)) (by intro z;cases z);refine codeAny_handlers_suite ?_;refine JD J2 (xx.less λ p hp=>by rwa [bH] at hp) λ s4 J4 x4=>?_;refine aQ (hs (X.pn ++ l8) a [] s4 _ _ _ J4 (hth a xx.Ha)) (λ f s6 q6=>?_) λ _ _ z=>False.elim z;cases f with
  | next=>obtain ⟨σ7,H7,J7,q7⟩:=q6;exact ⟨σ7,H7,(J7.ofsuite I.ok.hd).ofpn.wish _,q7⟩
  | brk=>obtain ⟨σ7,H7,J7,q7⟩:=q6;exact ⟨σ7,H7,(J7.ofsuite I.ok.hd).ofpn.wish _,q7⟩
  | cont=>obtain ⟨σ7,H7,J7,q7⟩:=q6;exact ⟨σ7,H7,(J7.ofsuite I.ok.hd).ofpn.wish _,q7⟩
  | ret u=>obtain ⟨v,σ7,H7,J7,r7,q7⟩:=q6;exact ⟨v,σ7,H7,(J7.ofsuite I.ok.hd).ofpn.wish _,r7,q7⟩
end
def jA {X:Cx}:CallR X (.type "tuple") (λ xs H Q=>∃ p ys,xs=[.ref p]/\((SqL X.K H p ys/\∀ l,H l=none->Q (.ref l) (upd H l (.tup ys)))\/(SqT X.K H p ys/\Q (.ref p) H))):=Xg
end L2
namespace L2
open PySem PySem.Spec PySem.Calls PyProof.Rows
section
variable {X:Cx}
def zea:bootBuiltins "set"=some (.type "set"):=by decide +kernel
end
def QJ (a:Al):checkTypeCall "set" ⟨[a],[]⟩=pure ():=by kernel_rfl
def J9 (a:Al):checkBuiltinCall "set.__new__" ⟨[.type "set",a],[]⟩=pure ():=by kernel_rfl
def wE:entryFor table "set.update.loop"=some Builtin.«set.update.loop»:=entryFor_of_tree (by kernel_rfl)
def j8:plainId "set.update.loop"=true:=by decide +kernel
section
variable {prog:Af} {w:World} {A:An} {E:A3} {s:Am}
def Xf (a:Al) {Q₁:A3}
  (h:∀ led:Bool,Q₁ (.ref s.heap.objs.size) { s with heap:=s.heap.push { cls:=.type "set",dict:=none,data:=.set #[] 0 (.fresh 0 0 led) } }) :
  codeAny (model prog w) A (.call (.builtin "set.__new__") ⟨[.type "set",a],[]⟩) (wants Q₁ E) s:=by
 refine codeAny_of_tree ?_;show wpAny _ A.in1 (do checkBuiltinCall "set.__new__" ⟨[.type "set",a],[]⟩;again (.builtin "set.__new__" ⟨[.type "set",a],[]⟩)) _ _ s
 refine af (wpAny_of_eq (J9 a) (ao ⟨fv F.plain_set_new _,dH F.entry_set_new ?_⟩));rw [d0 F.plain_set_new _];unfold Builtin.«set.__new__» Builtin.Frozenset.newClass;have hsub:=sub_set_self;obtain ⟨hp,g,d,tk,os⟩:=s;dsimp only
 wp_walk
 refine wpAny_askSetting (ao ?_);dsimp only;simp only [newObj];refine af (wpAny_alloc (ao ?_));exact ao (h _)
variable {R:Result->Shared->Prop} {I:Addr} {fp wr:Ab} {n:Nat} {P:Nat->Value->Prop} {St:Nat->Heap->Prop}
end
section
variable {prog:Af} {w:World} {A:An} {E:A3} {s:Am}
def Qu {M:Model} {self x:Al} {Q:Ag} (hT:s.TypeIs self "set") (hQ:Q () s):wpAny M A (checkBuiltinCall "set.__init__" ⟨[self,x],[]⟩) Q E s:=by
 simp only [checkBuiltinCall,kind_set_init,split_set_init,sig_set_init];refine af (eE hT sub_set_self ?_);simp only [cn,aO,bE];unfold Bind.checkArgs;dsimp only;refine af (m:=Bind.printed "set" true _ _) (PyProof.Rows.printed_name (by decide) ?_);refine af (m:=Bind.printed "*" false _ _) (PyProof.Rows.printed_star (self:=self) rfl hT λ short=>?_);have hrn:(Manifest.Receiver.self == Manifest.Receiver.none)=false:=by decide
 have hn:(if (Manifest.Receiver.self == Manifest.Receiver.none)=true then [self,x].length else [self,x].length - 1)=1:=by simp [hrn]
 rw [hn];simp only [map_nil];have hc:Bind.check ⟨.positional,"set","*",.self,[⟨"iterable",.posOnly,false⟩]⟩ "set" short 1 []=pure ():=by
  simp +decide [Bind.check,Bind.checkCount,Bind.isPositional]
 rw [hc];exact ao hQ
set_option maxHeartbeats 1000000 in
theorem zbe {x:Al} {Q:A3}
  (h:∀ (led:Bool) (s₁:Am),s₁={ s with heap:=s.heap.push { cls:=.type "set",dict:=none,data:=.set #[] 0 (.fresh 0 0 led) } }->wpAny (model prog w) A.in1.in1 (Builtin.«set.__init__» ⟨[.ref s.heap.objs.size,x],[]⟩) (λ fin s'=>match fin with | .done f=>wants (λ r s₂=>r=.none/\Q (.ref s.heap.objs.size) s₂) E (.ok f) s' | .again c'=>c'.quiet=true/\codeAny (model prog w) A.in1 c' (wants (λ r s₂=>r=.none/\Q (.ref s.heap.objs.size) s₂) E) s') (λ e s'=>wants (λ r s₂=>r=.none/\Q (.ref s.heap.objs.size) s₂) E (.error e) s') s₁) :
  wpAny (model prog w) A (call (.type "set") [x]) Q E s:=by
 obtain ⟨c,tl,hmro⟩:=cz.mro;have hmade:=cz.made;have hsub:=cz.sub;refine dE (codeAny_of_tree ?_);show wpAny _ _ (callAny (.type "set") _) _ _ _
 refine ao ⟨Code.quiet_builtin _ (by decide +kernel),dH F.entry_type_call ?_⟩;rw [Around.under_plain (weight_type_call_type "set" [x] []) rfl];have h1:=cz.notType;have h2:=cz.canCreate;have hct:=QJ x
 repeat (any_goals (first|assumption|wp_step))
 refine b9 (Xf x (E:=E) (Q₁:=λ obj s₁=>∃ led:Bool,obj=.ref s.heap.objs.size/\s₁={ s with heap:=s.heap.push { cls:=.type "set",dict:=none,data:=.set #[] 0 (.fresh 0 0 led) } }) λ led=>⟨led,rfl,rfl⟩) λ r s₁ hr=>?_;cases r with
 | error e=>exact hr
 | ok fl =>
  cases fl with
  | ret obj =>
   obtain ⟨led,rfl,rfl⟩:=hr;have hS:(s.heap.push { cls:=.type "set",dict:=none,data:=.set #[] 0 (.fresh 0 0 led) }).get? s.heap.objs.size=some { cls:=.type "set",dict:=none,data:=.set #[] 0 (.fresh 0 0 led) }:=aJ _ rfl;have hT:Shared.TypeIs { s with heap:=s.heap.push { cls:=.type "set",dict:=none,data:=.set #[] 0 (.fresh 0 0 led) } } (.ref s.heap.objs.size) "set":=⟨_,hS,rfl⟩;have hli:=cz.init.lookup;have hbi:=cz.init.bind (.ref s.heap.objs.size)
   repeat (any_goals (first|assumption|wp_step))
   refine b9 (codeAny_call_builtin (R:=wants (λ r s₂=>r=.none/\Q (.ref s.heap.objs.size) s₂) E) cz.init.plain F.entry_set_init (Qu hT (h led _ rfl))) λ r₂ s₂ hr₂=>?_;cases r₂ with
   | error e=>exact hr₂
   | ok fl₂ =>
    cases fl₂ with
    | ret r =>
     obtain ⟨rfl,hq⟩:=hr₂
     repeat (any_goals (first|assumption|wp_step))
    | _=>exact hr₂.elim
  | _=>exact hr.elim
end
section
variable {X:Cx}
end
end L2
namespace L2
open PySem
def sN:Nat->Nat
 | 0=>0
 | n + 1=>5 * sN n + 1
theorem zaB (a:Nat):∀ b,sN (a + b)=sN a + sN b + 4 * (sN a * sN b)
 | 0=>by simp [sN]
 | b + 1=>by
  rw [<- dL,sN,zaB a b,sN,Nat.mul_add (sN a),Nat.mul_left_comm (sN a) 5]
  lia
theorem zdc:∀ k,∃ u,sN (2 ^ k)=2 ^ k * (2 * u + 1)
 | 0=>⟨0,rfl⟩
 | k + 1=>by
  obtain ⟨u,hu⟩:=zdc k;refine ⟨u + (2 * u + 1) * sN (2 ^ k),?_⟩;rw [di,Nat.mul_two,zaB];generalize sN (2 ^ k)=z at hu ⊢;generalize 2 ^ k=p at hu ⊢
  grind
def xB (x n:Nat):Nat:=x + sN n * (4 * x + 1)
def zaD (x n:Nat):xB x (n + 1)=xB x n * 5 + 1:=by
 unfold xB;rw [sN,Nat.add_mul,Nat.one_mul,dJ,Nat.add_mul,dX _ 5]
 lia
def zce (x n k:Nat):∃ v,xB x (n + 2 ^ k)=xB x n + 2 ^ k * (2 * v + 1):=by
 obtain ⟨u,hu⟩:=zdc k;unfold xB;rw [zaB,hu];generalize sN n=s;generalize 2 ^ k=p;exact ⟨u * (4 * s + 1) * (4 * x + 1) + 2 * s * (4 * x + 1) + 2 * x,by grind⟩
theorem Vl (x:Nat):∀ k e,∃ n,n < 2 ^ k/\xB x n % 2 ^ k=e % 2 ^ k
 | 0,e=>⟨0,by decide,by lia⟩
 | k + 1,e=>by
  obtain ⟨n,hn,he⟩:=Vl x k e;have p2:2 ^ (k + 1)=2 * 2 ^ k:=by rw [di,dX]
  have pp:0 < 2 ^ k:=Nat.two_pow_pos k;by_cases h:xB x n % 2 ^ (k + 1)=e % 2 ^ (k + 1)
  ·exact ⟨n,by lia,h⟩
  ·refine ⟨n + 2 ^ k,by lia,?_⟩;obtain ⟨v,hv⟩:=zce x n k;rw [hv,p2] at *;generalize xB x n=r at *;generalize 2 ^ k=p at *;have m:∀ a,a % (2 * p)=a % p\/a % (2 * p)=a % p + p:=λ a=>by
    have:=Nat.mod_mul (x:=a) (a:=p) (b:=2);rw [dX p 2] at this;rw [this];rcases Nat.mod_two_eq_zero_or_one (a / p) with z|z <;> rw [z]
    ·left;lia
    ·right;lia
   have q:(r + p * (2 * v + 1)) % (2 * p)=(r + p) % (2 * p):=by
    rw [show r + p * (2 * v + 1)=r + p + (2 * p) * v by rw [Nat.mul_add,Nat.mul_one];simp only [dJ,Nat.mul_left_comm];lia,Nat.add_mul_mod_self_left]
   rw [q];have hr:(r + p) % (2 * p)=if r % (2 * p) < p then r % (2 * p) + p else r % (2 * p) - p:=by
    rw [eZ,cJ (a:=p) (by lia)];have:=cI r (show 0 < 2 * p by lia)
    split
    ·rw [cJ (by lia)]
    ·rw [Nat.mod_eq_sub_mod (by lia),cJ (by lia)];lia
   rw [hr];have m1:=m r;have m2:=m e;have l1:=cI r pp;have l2:=cI e pp
   split <;> lia
section
variable (t:SetTable)
def vT:Nat->SetTable.Probe->SetTable.Probe
 | 0,p=>p
 | n + 1,p=>vT n (t.advance p)
def V7 (a:Nat):∀ b p,vT t (a + b) p=vT t b (vT t a p):=by
 induction a with
 | zero=>intro b p;rw [Nat.zero_add];rfl
 | succ a ih=>intro b p;rw [Nat.succ_add];exact ih b _
def XZ (p:SetTable.Probe):(t.advance p).dummy=p.dummy:=by
 unfold SetTable.advance
 split <;> rfl
def vW (i pt:Nat):SetTable.Probe:={ j:=i,more:=SetTable.runEnd t.mask i - i,i:=i,perturb:=pt,dummy:=none }
def zfd:∀ m (p:SetTable.Probe),p.more=m->p.dummy=none->vT t (m + 1) p=vW t (SetTable.leap t.mask p.i p.perturb).1 (SetTable.leap t.mask p.i p.perturb).2:=by
 intro m
 induction m with
 | zero =>
  intro p h hd;show t.advance p=_
  unfold SetTable.advance;rw [aq (by lia)];simp only [vW,hd]
 | succ m ih =>
  intro p h hd;show vT t (m + 1) (t.advance p)=_
  have e:t.advance p={ p with j:=p.j + 1,more:=p.more - 1 }:=by unfold SetTable.advance;rw [aA (by lia)]
  rw [e];exact ih { p with j:=p.j + 1,more:=p.more - 1 } (show p.more - 1=m by lia) hd
def jk (x:Nat × Nat):Nat->Nat × Nat
 | 0=>x
 | l + 1=>SetTable.leap t.mask (jk x l).1 (jk x l).2
theorem wB (x:Nat × Nat):∀ l,jk t x (l + 1)=jk t (SetTable.leap t.mask x.1 x.2) l
 | 0=>rfl
 | l + 1=>by rw [jk,wB x l];rfl
def zhm:∀ l i pt,∃ d,d<=10 * l/\(vT t d (vW t i pt)).j=(jk t (i,pt) l).1:=by
 intro l
 induction l with
 | zero=>intro i pt;exact ⟨0,by lia,rfl⟩
 | succ l ih =>
  intro i pt;obtain ⟨d,hd,e⟩:=ih (SetTable.leap t.mask i pt).1 (SetTable.leap t.mask i pt).2;have m9:SetTable.runEnd t.mask i - i<=9:=by unfold SetTable.runEnd;split <;> lia
  refine ⟨SetTable.runEnd t.mask i - i + 1 + d,by lia,?_⟩;rw [V7,zfd t (SetTable.runEnd t.mask i - i) (vW t i pt) rfl rfl,wB];exact e
theorem VL (x:Nat × Nat):∀ l,(jk t x l).2=x.2 / 32 ^ l
 | 0=>by rw [Nat.pow_zero,Nat.div_one];rfl
 | l + 1=>by
  show (jk t x l).2 / 32=_
  rw [VL x l,Nat.div_div_eq_div_mul,di]
theorem Jq {k:Nat} (hk:t.mask + 1=2 ^ k) {x:Nat} (hx:x < 2 ^ k):∀ n,jk t (x,0) n=(xB x n % 2 ^ k,0)
 | 0=>by
  show (x,0)=_
  rw [show xB x 0=x by simp [xB,sN],cJ hx]
 | n + 1=>by
  rw [jk,Jq hk hx n];show ((xB x n % 2 ^ k * 5 + 1 + 0 / 32) % (t.mask + 1),0 / 32)=_
  rw [hk,zaD,Nat.zero_div,Nat.add_zero,eZ,Nat.mod_mul_mod,<- eZ]
def zfo {k:Nat} (hk:t.mask + 1=2 ^ k) {e:Nat} (he:e<=t.mask) (i:Nat) {pt:Nat} (hp:pt < 2 ^ 64):∃ l,l<=t.mask + 13/\(jk t (i,pt) l).1=e:=by
 have z:(jk t (i,pt) 13).2=0:=by
  rw [VL];exact Nat.div_eq_of_lt (aG hp (by decide))
 have hx:(jk t (i,pt) 13).1 < 2 ^ k:=by
  rw [<- hk];exact cI _ (Nat.succ_pos _)
 obtain ⟨n,hn,hr⟩:=Vl (jk t (i,pt) 13).1 k e;have key:∀ n,jk t (i,pt) (13 + n)=jk t ((jk t (i,pt) 13).1,0) n:=λ n=>by
  induction n with
  | zero=>exact Prod.ext rfl z
  | succ n ih=>rw [<- dL,jk,ih];rfl
 refine ⟨13 + n,by lia,?_⟩;rw [key,Jq t hk hx,hr];exact cJ (by lia)
theorem X3:∀ {xs ys:Ai},xs.Nodup->(∀ x∈xs,x∈ys)->xs.length<=ys.length
 | [],_,_,_=>bU _
 | x :: xs,ys,nd,h=>by
  have hx:=h x (bw ..);obtain ⟨n1,n2⟩:=cw.mp nd;have:=X3 (xs:=xs) (ys:=ys.erase x) n2 λ y hy=>(List.mem_erase_of_ne (λ z=>n1 (by rw [<- z];exact hy))).mpr (h y (aB _ hy));rw [List.length_erase_of_mem hx] at this;have:=List.length_pos_of_mem hx;rw [bg]
  lia
def VC (hd:t.dummies=#[]) (j:Nat):t.slot j≠.dummy:=by
 unfold SetTable.slot;dsimp only
 split
 ·exact λ z=>nomatch z
 ·rw [hd,show SetTable.has #[] j=false by simp [SetTable.has]];exact λ z=>nomatch z
def zbv {j i:Nat} (h:t.slot j=.live i):t.place[i]?=some j:=by
 unfold SetTable.slot at h;dsimp only at h
 split at h
 ·rename_i e;cases h;exact br (by simpa using e)
 ·split at h <;> cases h
def zaj (hd:t.dummies=#[]) (hs:t.place.size<=t.mask):∃ e,e<=t.mask/\t.slot e=.empty:=by
 refine eD λ no=>?_;have all:∀ x∈List.range (t.mask + 1),x∈t.place.toList:=λ x hx=>by
  have hx:=bu.mp hx;cases e:t.slot x with
  | empty=>exact absurd ⟨x,by lia,e⟩ no
  | dummy=>exact absurd e (VC t hd x)
  | live i=>exact ai (by rw [bB];exact zbv t e)
 have:=X3 nodup_range all;rw [ef,aK] at this
 lia
def zaC {k:Nat} (hk:t.mask + 1=2 ^ k) (hd:t.dummies=#[]) (hs:t.place.size<=t.mask) (h:Int):∃ d,d < 10 * SetTable.turns t.mask/\t.slot (vT t d (t.probeStart h)).j=.empty:=by
 obtain ⟨e,he,hm⟩:=zaj t hd hs;have hp:SetTable.bits h < 2 ^ 64:=by
  unfold SetTable.bits;have h1:=aD h (show (0:Int) < 2 ^ 64 by decide);have h0:=aH h (show (2 ^ 64:Int)≠0 by decide)
  lia
 obtain ⟨l,hl,el⟩:=zfo t hk he (SetTable.bits h % (t.mask + 1)) hp;obtain ⟨d,dl,ed⟩:=zhm t l (SetTable.bits h % (t.mask + 1)) (SetTable.bits h);refine ⟨d,by unfold SetTable.turns;lia,?_⟩;rw [show t.probeStart h=vW t (SetTable.bits h % (t.mask + 1)) (SetTable.bits h) from rfl,ed,el];exact hm
def zdT {hashAt:Nat->Int} {h:Int} (hd:t.dummies=#[]):∀ d fuel (p:SetTable.Probe),d < fuel->t.slot (vT t d p).j=.empty->p.dummy=none->∃ r,SetTable.probe.go t hashAt h fuel p=some r/\((∃ j,r=.empty j none/\t.slot j=.empty)\/∃ j i d',r=.candidate j i (vT t d' p)/\t.slot j=.live i/\hashAt i=h/\1<=d'/\d'<=d):=by
 intro d
 induction d with
 | zero =>
  intro fuel p hf he hdm;obtain ⟨f,rfl⟩:∃ f,fuel=f + 1:=⟨fuel - 1,by lia⟩;unfold SetTable.probe.go;rw [show t.slot p.j=.empty from he];exact ⟨_,rfl,.inl ⟨p.j,by rw [hdm],he⟩⟩
 | succ d ih =>
  intro fuel p hf he hdm;obtain ⟨f,rfl⟩:∃ f,fuel=f + 1:=⟨fuel - 1,by lia⟩;unfold SetTable.probe.go;cases e:t.slot p.j with
  | empty=>exact ⟨_,rfl,.inl ⟨p.j,by rw [hdm],e⟩⟩
  | dummy=>exact absurd e (VC t hd _)
  | live i =>
   dsimp only;by_cases eh:hashAt i=h
   ·rw [aA (by simpa using eh)];exact ⟨_,rfl,.inr ⟨p.j,i,1,rfl,e,eh,by lia,by lia⟩⟩
   ·rw [aq (by simpa using eh)];obtain ⟨r,hr,h1⟩:=ih f (t.advance p) (by lia) he (by rw [XZ];exact hdm);refine ⟨r,hr,h1.imp id ?_⟩;rintro ⟨j,i',d',q1,q2,q3,q4,q5⟩;exact ⟨j,i',d' + 1,q1,q2,q3,by lia,by lia⟩
end
section
variable {mask:Nat}
def Jd (mask:Nat) (owner:Array (Option Nat)):List (Nat × Nat):=(List.range (mask + 1)).filterMap λ j=>(owner.getD j none).map (j,·)
theorem zdY {α:Type} {f g:Nat->Option α} {j:Nat} {v:α}:∀ {xs:Ai},xs.Nodup->j∈xs->f j=none->g j=some v->(∀ i,i≠j->g i=f i)->(xs.filterMap g).Perm (v :: xs.filterMap f)
 | [],_,h,_,_,_=>nomatch h
 | x :: xs,nd,h,hf,hg,e=>by
  obtain ⟨n1,n2⟩:=cw.mp nd;by_cases ex:x=j
  ·subst ex;have:∀ ys:List Nat,x ∉ ys->ys.filterMap g=ys.filterMap f:=λ ys hy=>by
    induction ys with
    | nil=>rfl
    | cons y ys ih=>rw [bS,bS,e y λ z=>hy (by rw [z];exact bw ..),ih λ z=>hy (aB _ z)]
   rw [bS,hg,bS,hf,this xs n1]
  ·have hj:j∈xs:=(az.mp h).resolve_left (aZ ex);have ih:=zdY n2 hj hf hg e;rw [bS,bS,e x ex];cases f x with
   | none=>exact ih
   | some y=>exact (ih.cons y).trans (List.Perm.swap ..)
def zdp {owner:Array (Option Nat)} {j k:Nat} (hs:owner.size=mask + 1) (hj:j < owner.size) (hn:owner.getD j none=none):(Jd mask (owner.setIfInBounds j (some k))).Perm ((j,k) :: Jd mask owner):=by
 refine zdY (j:=j) nodup_range (bu.mpr (by lia)) (by rw [hn];rfl) ?_ λ i hi=>?_
 ·rw [bn,Array.getElem?_setIfInBounds_self_of_lt hj];rfl
 ·rw [bn,Array.getElem?_setIfInBounds_ne (aZ hi),<- bn]
def za5 {owner:Array (Option Nat)} (t:SetTable) (hm:t.mask=mask):∀ l fuel i pt,l < fuel->(owner.getD (jk t (i,pt) l).1 (some 0)).isNone=true->∃ j,SetTable.layClean.free mask owner fuel i pt=some j/\(owner.getD j (some 0)).isNone=true:=by
 intro l
 induction l with
 | zero =>
  intro fuel i pt hf he;obtain ⟨f,rfl⟩:∃ f,fuel=f + 1:=⟨fuel - 1,by lia⟩;have he:(owner.getD i (some 0)).isNone=true:=he;unfold SetTable.layClean.free;cases e:(List.range (SetTable.runEnd mask i + 1 - i)).find? λ k=>(owner.getD (i + k) (some 0)).isNone with
  | some k=>exact ⟨_,rfl,find?_some (p:=λ k=>(owner.getD (i + k) (some 0)).isNone) e⟩
  | none =>
   have:=fD.mp e 0 (bu.mpr (by unfold SetTable.runEnd;split <;> lia));exact absurd he this
 | succ l ih =>
  intro fuel i pt hf he;obtain ⟨f,rfl⟩:∃ f,fuel=f + 1:=⟨fuel - 1,by lia⟩;unfold SetTable.layClean.free;cases e:(List.range (SetTable.runEnd mask i + 1 - i)).find? λ k=>(owner.getD (i + k) (some 0)).isNone with
  | some k=>exact ⟨_,rfl,find?_some (p:=λ k=>(owner.getD (i + k) (some 0)).isNone) e⟩
  | none =>
   rw [wB,hm] at he;exact ih f _ _ (by lia) he
def zcy {owner:Array (Option Nat)} {k:Nat} (hk:mask + 1=2 ^ k) (hs:owner.size=mask + 1) {c:Nat} (hc:(Jd mask owner).length=c) (lt:c<=mask) (h:Int):∃ j,SetTable.layClean.free mask owner (SetTable.turns mask) (SetTable.bits h % (mask + 1)) (SetTable.bits h)=some j/\j < owner.size/\owner.getD j none=none:=by
 have:∃ e,e<=mask/\owner.getD e none=none:=by
  refine eD λ no=>?_;have all:∀ x∈List.range (mask + 1),x∈(Jd mask owner).map (·.1):=λ x hx=>by
   cases e:owner.getD x none with
   | none=>exact absurd ⟨x,by have:=bu.mp hx;lia,e⟩ no
   | some v=>exact aP.mpr ⟨(x,v),dO.mpr ⟨x,hx,by rw [e];rfl⟩,rfl⟩
  have:=X3 nodup_range all;rw [ef,ah] at this
  lia
 obtain ⟨e,he,hn⟩:=this;have hp:SetTable.bits h < 2 ^ 64:=by
  unfold SetTable.bits;have h1:=aD h (show (0:Int) < 2 ^ 64 by decide);have h0:=aH h (show (2 ^ 64:Int)≠0 by decide)
  lia
 have cv:∀ j,(owner.getD j (some 0)).isNone=true->j < owner.size/\owner.getD j none=none:=λ j hj=>by
  rw [bn] at hj ⊢;cases e:owner[j]? with
  | none=>rw [e] at hj;cases hj
  | some v =>
   rw [e] at hj;refine ⟨(be.mp e).1,?_⟩;cases v with
   | none=>rfl
   | some v=>cases hj
 let t:SetTable:={ mask,place:=#[],dummies:=#[],finger:=0,led:=true,moves:=0,plain:=true };obtain ⟨l,hl,el⟩:=zfo t hk he (SetTable.bits h % (mask + 1)) hp;have en:(owner.getD e (some 0)).isNone=true:=by
  rw [bn,bz (by lia)] at hn ⊢;have hn:owner[e]=none:=hn;show owner[e].isNone=true
  rw [hn];rfl
 obtain ⟨j,hj,hjn⟩:=za5 (owner:=owner) (mask:=mask) t rfl l (SetTable.turns mask) _ _ (by unfold SetTable.turns;show l < mask + 15;have:l<=mask + 13:=hl;lia) (by rw [el];exact en);exact ⟨j,hj,cv j hjn⟩
theorem zdD {k:Nat} (hk:mask + 1=2 ^ k):∀ (hs:A6) (owner:Array (Option Nat)) (c:Nat),owner.size=mask + 1->((Jd mask owner).map (·.2)).Perm (List.range c)->c + hs.length<=mask ->
  ∃ owner',(hs.foldl (init:=some (owner,c)) λ mf h=>do
   let (owner,k) <- mf
   let j <- SetTable.layClean.free mask owner (SetTable.turns mask) (SetTable.bits h % (mask + 1)) (SetTable.bits h)
   pure (owner.setIfInBounds j (some k),k + 1))=some (owner',c + hs.length)/\owner'.size=mask + 1/\((Jd mask owner').map (·.2)).Perm (List.range (c + hs.length))
 | [],owner,c,h1,h2,_=>⟨owner,rfl,h1,h2⟩
 | h :: hs,owner,c,h1,h2,h3=>by
  have hl:=h2.length_eq;rw [ah,ef] at hl;rw [bg] at h3;obtain ⟨j,hj,hjl,hjn⟩:=zcy hk h1 hl (by lia) h;have h2':((Jd mask (owner.setIfInBounds j (some c))).map (·.2)).Perm (List.range (c + 1)):=by
   refine ((zdp h1 hjl hjn).map (·.2)).trans ?_;rw [b5,d7];exact (h2.cons c).trans (cr (l₁:=[c]))
  obtain ⟨o',e,s',p'⟩:=zdD hk hs (owner.setIfInBounds j (some c)) (c + 1) (by rw [Array.size_setIfInBounds];exact h1) h2' (by lia);refine ⟨o',?_,s',?_⟩
  ·rw [List.foldl_cons];show List.foldl _ ((SetTable.layClean.free mask owner (SetTable.turns mask) (SetTable.bits h % (mask + 1)) (SetTable.bits h)).bind λ j=>some (owner.setIfInBounds j (some c),c + 1)) hs=_
   rw [hj];show List.foldl _ (some (owner.setIfInBounds j (some c),c + 1)) hs=_
   rw [e,bg,show c + 1 + hs.length=c + (hs.length + 1) by lia]
  ·rw [bg,show c + (hs.length + 1)=c + 1 + hs.length by lia];exact p'
def zdq:Jd mask (Array.replicate (mask + 1) none)=[]:=by
 unfold Jd;rw [List.filterMap_eq_nil_iff];intro j _;rw [bn,Array.getElem?_replicate]
 split <;> rfl
def zeV {k finger moves:Nat} {led plain:Bool} {hs:Array Int} (hk:mask + 1=2 ^ k) (hl:hs.size<=mask):∃ t order,SetTable.laid mask finger moves led plain hs=some (t,order)/\t.mask=mask/\t.dummies=#[]/\t.place.size=hs.size/\t.led=led/\order.toList.Perm (List.range hs.size):=by
 obtain ⟨o,e,s',p'⟩:=zdD hk hs.toList (Array.replicate (mask + 1) none) 0 (Array.size_replicate ..) (by rw [zdq];exact aN _) (by rw [aK];lia);rw [Nat.zero_add,aK] at p';have e2:SetTable.layClean mask hs=some o:=by
  unfold SetTable.layClean;rw [<- Array.foldl_toList,e]
  rfl
 unfold SetTable.laid;rw [e2];refine ⟨_,_,rfl,rfl,rfl,?_,rfl,?_⟩
 ·have:=p'.length_eq;rw [ah,ef] at this;simpa [Jd] using this
 ·simpa [Jd] using p'
def zes:∀ fuel size n,(∃ k,size=2 ^ k)->(∃ k,SetTable.sizeAbove.go n fuel size=2 ^ k)/\(n < size * 2 ^ fuel->n < SetTable.sizeAbove.go n fuel size)/\size<=SetTable.sizeAbove.go n fuel size/\(SetTable.sizeAbove.go n fuel size<=max size (2 * n)):=by
 intro fuel
 induction fuel with
 | zero=>intro size n h;exact ⟨h,λ z=>by rw [Nat.pow_zero,Nat.mul_one] at z;exact z,ap _,Nat.le_max_left ..⟩
 | succ f ih =>
  intro size n ⟨k,hk⟩;unfold SetTable.sizeAbove.go
  split
  ·obtain ⟨a,b,c,d⟩:=ih (size * 2) n ⟨k + 1,by rw [hk,di]⟩;exact ⟨a,λ z=>b (by rw [dJ,<- Nat.pow_succ'];exact z),by lia,by lia⟩
  ·exact ⟨⟨k,hk⟩,λ _=>by lia,ap _,Nat.le_max_left ..⟩
def zal {n:Nat} (h:n<=1000000):(∃ k,SetTable.sizeAbove n=2 ^ k)/\n < SetTable.sizeAbove n/\8<=SetTable.sizeAbove n/\SetTable.sizeAbove n<=max 8 (2 * n):=by
 obtain ⟨a,b,c,d⟩:=zes 64 8 n ⟨3,rfl⟩;exact ⟨a,b (dM h (by decide)),c,d⟩
end
end L2
namespace L2
open PySem PySem.Spec PySem.Calls PyProof.Rows
section
variable {prog:Af} {w:World} {A:An} {E:A3} {s:Am}
inductive TV (h:Heap):Nat->Value->Prop
 | non {n:Nat}:TV h n .none
 | int {n:Nat} {i:Int} {t:Tok}:TV h n (.int i t)
 | tup {n:Nat} {a:Addr} {items:Ac}:IsTup h a items->(∀ v∈items.toList,TV h n v)->TV h (n + 1) (.ref a)
def WM:∀ {n:Nat} {v:Al} {A:An} {E:A3} {Q:Bool->Shared->Prop},TV s.heap n v->Q true s->wpAny (model prog w) A (eqIsQuiet n v) Q E s:=by
 intro n
 induction n with
 | zero=>intro v A E Q h q;cases h <;> exact ao q
 | succ n ih =>
  intro v A E Q h q;cases h with
  | non=>exact ao q
  | int=>exact ao q
  | tup hT all=>exact ZS (d:=n) hT (λ v hv A E Q q=>ih (all v hv) q) q
def zcW:∀ {n:Nat} {v:Al} {A:An} {E:A3} {Q:Bool->Shared->Prop},TV s.heap n v->Q false s->wpAny (model prog w) A (ofAClassStatement n v) Q E s:=by
 intro n
 induction n with
 | zero=>intro v A E Q h q;cases h <;> exact ao q
 | succ n ih =>
  intro v A E Q h q;cases h with
  | non=>exact ao q
  | int=>exact ao q
  | tup hT all =>
   obtain ⟨o,ho,hc,m,hd⟩:=hT;unfold ofAClassStatement;refine af (wpAny_typeOf (T:="tuple") ⟨o,ho,hc⟩ ?_);show wpAny _ _ (pure true >>= _) _ _ s
   refine af (ao ?_);simp only [cn,aO,bE];refine af (dS ho hd ?_);dsimp only;refine af ?_;rw [<- cY];refine dA _ (λ rest r s'=>r.1=none/\s'=s/\∀ v∈rest,TV s.heap n v) _ ?_ ?_ _ _ ⟨rfl,rfl,all⟩
   ·rintro v rest r s' ⟨hr,rfl,hall⟩;refine af (ih (hall v bw) ?_);simp only [aO,bE];exact ao ⟨rfl,rfl,λ u hu'=>hall u (aB _ hu')⟩
   ·rintro ⟨r1,r2⟩ s' ⟨hr,rfl,_⟩;simp only at hr;subst hr;exact ao q
def zcV:∀ {n:Nat} {v:Al} {A:An} {E:A3} {Q:Bool->Shared->Prop},TV s.heap n v->(∀ b,Q b s)->wpAny (model prog w) A (hashByValue n v) Q E s:=by
 intro n
 induction n with
 | zero=>intro v A E Q h q;cases h <;> exact ao (q _)
 | succ n ih =>
  intro v A E Q h q;cases h with
  | non=>exact ao (q _)
  | int=>exact ao (q _)
  | tup hT all =>
   obtain ⟨o,ho,hc,m,hd⟩:=hT;unfold hashByValue;refine af (cZ (T:="tuple") ⟨o,ho,hc⟩ F.slot_tuple_hash.lookup ?_);show wpAny _ _ (seqItems? _ >>= _) _ _ s
   refine af (dS ho hd ?_);refine af ?_;show wpAny _ _ (forIn _ _ _) _ _ s
   rw [<- cY];refine dA _ (λ rest r s'=>r.1=none/\s'=s/\∀ v∈rest,TV s.heap n v) _ ?_ ?_ _ _ ⟨rfl,rfl,all⟩
   ·rintro v rest r s' ⟨hr,rfl,hall⟩;refine af (ih (hall v bw) λ b=>?_);cases b
    ·exact ao (ao (q _))
    ·exact ao ⟨rfl,rfl,λ u hu'=>hall u (aB _ hu')⟩
   ·rintro ⟨r1,r2⟩ s' ⟨hr,rfl,_⟩;simp only at hr;subst hr;exact ao (q _)
def zdt {x:Addr} {A:An} {E:A3} {Q:Bool->Shared->Prop} (hx:TV s.heap 8 (.ref x)) {ys:A7} (hy:∀ v∈ys,(∃ b,v=.ref b)/\TV s.heap 8 v) (q:Q false s):wpAny (model prog w) A (searchCouldBeSeen (.ref x) ys) Q E s:=by
 unfold searchCouldBeSeen;refine af ?_;refine dA _ (λ rest r s'=>r.1=none/\s'=s/\∀ v∈rest,(∃ b,v=.ref b)/\TV s.heap 8 v) _ ?_ ?_ _ _ ⟨rfl,rfl,hy⟩
 ·rintro v rest r s' ⟨hr,rfl,hall⟩;obtain ⟨⟨b,rfl⟩,hv⟩:=hall v bw;by_cases e:(x == b)=true
  ·dsimp only;rw [e];exact ao ⟨rfl,rfl,λ u hu'=>hall u (aB _ hu')⟩
  ·dsimp only;rw [Bool.not_eq_true] at e;rw [e];simp only [Bool.false_or,carriedByValue,bX,aO,bE];refine af (WM hx ?_);simp only [cn,aO,bE];refine af (WM hv ?_);simp only [cn,aO,bE];refine af (zcW hx ?_);simp only [aO,bE];refine af (zcW hv ?_);simp only [aO,bE];exact ao ⟨rfl,rfl,λ u hu'=>hall u (aB _ hu')⟩
 ·rintro ⟨r1,r2⟩ s' ⟨hr,rfl,_⟩;simp only at hr;subst hr;exact ao q
theorem JK (t:SetTable):∀ n p,(vT t n p).dummy=p.dummy
 | 0,_=>rfl
 | n + 1,p=>(JK t n _).trans (XZ t p)
def zf6 {α:Type} {c:Bool} {m rest:Sem α} {Q:α->Shared->Prop} (h1:wpAny (model prog w) A rest Q E s) (h2:wpAny (model prog w) A rest Q E s->wpAny (model prog w) A m Q E s):wpAny (model prog w) A (if (!c)=true then m else rest) Q E s:=by
 split
 ·exact h2 h1
 ·exact h1
theorem zbZ {a x:Addr} {o:Obj} {es:Array (Int × Value)} {ep:Nat} {t:SetTable} {hsh:Int} {Q:SetFound->Shared->Prop} (ho:s.heap.get? a=some o) (hd:o.data=.set es ep t) (hf:t.fits es.size=true) (dm:t.dummies=#[]) (odd:t.gaveWay=false)
  (hx:TV s.heap 8 (.ref x)) (hy:∀ e∈es.toList,(∃ b,e.2=.ref b)/\TV s.heap 8 e.2) (eqs:∀ e∈es.toList,∀ {Q':Bool->Shared->Prop},Q' false s->wpAny (model prog w) A (eqBool e.2 (.ref x)) Q' E s) (q:∀ j,t.slot j=.empty->Q (.free j false) s) :
  ∀ d fuel stand,d < fuel->d < 10 * SetTable.turns t.mask->t.slot (vT t d (stand.getD (t.probeStart hsh))).j=.empty->(stand.getD (t.probeStart hsh)).dummy=none->wpAny (model prog w) A (setSearchFrom a (.ref x) hsh true fuel stand) Q E s:=by
 have fz:t.place.size=es.size:=by
  simp only [SetTable.fits,cK,bD] at hf;exact hf.1
 intro d
 induction d using Nat.strongRecOn with
 | ind d ih =>
  intro fuel stand hfu ht he hdm;obtain ⟨f,rfl⟩:∃ f,fuel=f + 1:=⟨fuel - 1,by lia⟩;obtain ⟨r,hr,hc⟩:=zdT t (hashAt:=λ i=>(es[i]?.map (·.1)).getD 0) (h:=hsh) dm d _ _ ht he hdm;unfold setSearchFrom;refine af (cO ho hd hf ?_);dsimp only;rw [odd];simp only [aO,bE];have hp:t.probe (λ i=>(es[i]?.map (·.1)).getD 0) hsh (stand.getD (t.probeStart hsh))=some r:=hr;generalize hpe:t.probe _ hsh (stand.getD (t.probeStart hsh))=pr;have er:pr=some r:=hpe.symm.trans hp;subst er;rcases hc with ⟨j,rfl,hj⟩|⟨j,i,d',rfl,hj,hh,d1,d2⟩
  ·exact ao (q j hj)
  ·have hi:i < es.size:=by rw [<- fz];exact (be.mp (zbv t hj)).1
   have hei:es[i]?=some es[i]:=bz hi;have hem:es[i]∈es.toList:=by rw [<- Array.getElem_toList hi];exact dR _
   obtain ⟨⟨b,hb⟩,hv⟩:=hy _ hem;dsimp only;refine zf6 ?_ λ hrest=>af (zdt hx (λ v hv=>by
    obtain ⟨e,he,rfl⟩:=aP.mp hv;rw [Array.toList_filter] at he;exact hy e (b7.mp he).1) hrest)
   rw [hei];dsimp only;refine af (bY (eqs _ hem ?_));refine af (cO ho hd hf ?_);dsimp only;rw [show t.sameMemory t.moves t.mask=some true by simp [SetTable.sameMemory]];simp only [bX,aO,bE,dU];rw [hj];dsimp only;rw [hei];dsimp only;rw [hb];refine af (wpAny_isSame_ref_self ?_);refine af (ao ?_);simp only [dU,aO,bE];refine ih (d - d') (by lia) f (some _) (by lia) (by lia) ?_ ?_
   ·show t.slot (vT t (d - d') (vT t d' (stand.getD (t.probeStart hsh)))).j=.empty
    rw [<- V7,show d' + (d - d')=d by lia];exact he
   ·show (vT t d' (stand.getD (t.probeStart hsh))).dummy=none
    rw [JK];exact hdm
def V8 (h:Heap) (a:Addr) (xs:List (Int × Addr)):Prop :=
 ∃ o es ep t,h.get? a=some o/\o.ExactSet/\o.data=.set es ep t/\es.toList.Perm (xs.map λ x=>(x.1,Value.ref x.2))/\t.dummies=#[]/\t.place.size=es.size/\(∃ k,t.mask + 1=2 ^ k)/\7<=t.mask/\es.size * 5 < t.mask * 3/\t.mask<=8 * xs.length + 7
def zcs {es:Array (Int × Value)} {order:Array Nat} (h:order.toList.Perm (List.range es.size)):(order.filterMap (es[·]?)).toList.Perm es.toList:=by
 rw [Array.toList_filterMap];refine (h.filterMap _).trans ?_;have:∀ n,n<=es.size->(List.range n).filterMap (es[·]?)=es.toList.take n:=λ n=>by
  induction n with
  | zero=>intro _;rfl
  | succ n ih =>
   intro hn;rw [d7,List.filterMap_append,ih (by lia),aR,bB,bz (by lia)];simp [bz (show n < es.size by lia)]
 rw [this _ (ap _),<- aK,aV]
def zcR {a:Addr} {o:Obj} {es:Array (Int × Value)} {ep:Nat} {t:SetTable} {xs:List (Int × Addr)} {Q:Ag} (ho:s.heap.get? a=some o) (hex:o.ExactSet) (hd:o.data=.set es ep t) (hf:t.fits es.size=true) (pm:es.toList.Perm (xs.map λ x=>(x.1,Value.ref x.2))) (h1:1<=es.size) (hn:es.size<=1100)
  (q:∀ h',Heap.SameBut a s.heap h'->V8 h' a xs->Q () { s with heap:=h' }):wpAny (model prog w) A (setRelay a (SetTable.grown es.size)) Q E s:=by
 have hg:SetTable.grown es.size=es.size * 4:=by unfold SetTable.grown;rw [aq (by lia)]
 rw [hg];obtain ⟨⟨k,hk⟩,s1,s8,s2⟩:=zal (n:=es.size * 4) (by lia);have hl:es.size=xs.length:=by rw [<- aK,pm.length_eq,ah]
 obtain ⟨t',order,e,em,ed,ep',_,po⟩:=zeV (mask:=SetTable.sizeAbove (es.size * 4) - 1) (finger:=t.finger) (moves:=t.movedTo (SetTable.sizeAbove (es.size * 4) - 1)) (led:=t.led) (plain:=t.plain) (hs:=es.map (·.1)) (k:=k) (by lia) (by rw [Array.size_map];lia);rw [Array.size_map] at ep' po;have pe:=zcs po;have sz:(order.filterMap (es[·]?)).size=es.size:=by rw [<- aK,pe.length_eq,aK]
 unfold setRelay;refine af (cO ho hd hf ?_);dsimp only;rw [aq (show ¬ SetTable.sizeAbove (es.size * 4) > sizeLine by have:(100000:Nat)<=sizeLine:=(by decide);lia)];refine af ?_;rw [show t.relaid (es.map (·.1)) (es.size * 4)=some (t',order) from e];show wpAny _ _ (if ((order.filterMap (es[·]?)).size != es.size)=true then _ else pure (order.filterMap (es[·]?),t')) _ _ s
 rw [aq (by rw [sz];simp)];refine ao (wpAny_storeSet_of ho hd (q _ (Heap.SameBut.update s.heap a _) ?_) (by rw [sz];have:(100000:Nat)<=sizeLine:=(by decide);lia));have hg:=bh (Obj.putSet (order.filterMap (es[·]?)) t') ho (by rw [putSet_of _ _ hd];rfl);rw [putSet_of _ _ hd] at hg;exact ⟨_,_,_,t',hg,hex,rfl,pe.trans pm,ed,by rw [ep',sz],⟨k,by rw [em];lia⟩,by rw [em];lia,by rw [em,sz];lia,by rw [em];lia⟩
def zcQ {a:Addr} {o:Obj} {es es1:Array (Int × Value)} {ep:Nat} {t t2:SetTable} {xs:List (Int × Addr)} {Q:Bool->Shared->Prop} (ho:s.heap.get? a=some o) (hex:o.ExactSet) (hd:o.data=.set es ep t) (hs:es1.size=es.size + 1) (pm:es1.toList.Perm (xs.map λ x=>(x.1,Value.ref x.2))) (hn:es1.size<=1100)
  (dm:t2.dummies=#[]) (ps:t2.place.size=es1.size) (hk:∃ k,t2.mask + 1=2 ^ k) (m7:7<=t2.mask) (nf:es.size * 5 < t2.mask * 3) (mx:t2.mask<=8 * xs.length + 7) (q:∀ h',Heap.SameBut a s.heap h'->V8 h' a xs->Q true { s with heap:=h' }) :
  wpAny (model prog w) A (do
   storeSet a es1 t2
   if (!false && t2.tooFull)=true then do
    setRelay a (SetTable.grown (es.size + 1))
    pure true
   else pure true) Q E s:=by
 have sl:(100000:Nat)<=sizeLine:=by decide
 refine af (wpAny_storeSet_of ho hd ?_ (by lia));have hg:=bh (Obj.putSet es1 t2) ho (by rw [putSet_of _ _ hd];rfl);rw [putSet_of _ _ hd] at hg;have sb:=Heap.SameBut.update s.heap a (Obj.putSet es1 t2)
 split
 ·refine af ?_;rw [<- hs];refine zcR (xs:=xs) hg hex rfl ?_ pm (by lia) hn λ h' sb' st=>ao (q h' (sb.trans sb') st);simp only [SetTable.fits,SetTable.fill,dm,ps,cg,c8,bJ];show es1.size + 0<=t2.mask
  lia
 ·rename_i hfull;refine ao (q _ sb ⟨_,_,_,t2,hg,hex,rfl,pm,dm,ps,hk,m7,?_,mx⟩);simp only [SetTable.tooFull,SetTable.fill,dm,ps,Bool.not_false,c8,bJ] at hfull;have hfull:¬ (es1.size + 0) * 5 ≥ t2.mask * 3:=hfull
  lia
theorem zeh {a x:Addr} {hsh:Int} {xs:List (Int × Addr)} {Q:Bool->Shared->Prop} (hS:V8 s.heap a xs) (hn:xs.length < 1100) (hx:TV s.heap 8 (.ref x)) (hy:∀ y∈xs,TV s.heap 8 (.ref y.2))
  (eqs:∀ y∈xs,∀ {Q':Bool->Shared->Prop},Q' false s->wpAny (model prog w) A (eqBool (.ref y.2) (.ref x)) Q' E s) (q:∀ h',Heap.SameBut a s.heap h'->V8 h' a (xs ++ [(hsh,x)])->Q true { s with heap:=h' }) :
  wpAny (model prog w) A (setAddHashed a (.ref x) hsh) Q E s:=by
 obtain ⟨o,es,ep,t,ho,hex,hd,pm,dm,ps,⟨k,hk⟩,m7,nf,mx⟩:=hS;have hl:es.size=xs.length:=by rw [<- aK,pm.length_eq,ah]
 have hf:t.fits es.size=true:=by
  simp only [SetTable.fits,SetTable.fill,dm,ps,cg,c8,bJ];show es.size + 0<=t.mask
  lia
 have odd:t.gaveWay=false:=by
  unfold SetTable.gaveWay;cases k with
  | zero=>lia
  | succ k =>
   rw [di] at hk;exact a8.mpr (by lia)
 have mem:∀ e∈es.toList,∃ y∈xs,e=(y.1,Value.ref y.2):=λ e he=>by
  obtain ⟨y,hy,e'⟩:=aP.mp (pm.mem_iff.mp he);exact ⟨y,hy,e'.symm⟩
 obtain ⟨d,hd1,hd2⟩:=zaC t hk dm (by lia) hsh;unfold setAddHashed setAddHashedIn;refine bY (af (cO ho hd hf ?_));dsimp only;rw [show byScan (.ref x) es=false from rfl];simp only [aO,bE];refine af (zbZ ho hd hf dm odd hx (λ e he=>by
  obtain ⟨y,hy',rfl⟩:=mem e he;exact ⟨⟨_,rfl⟩,hy y hy'⟩) (λ e he Q' z=>by
  obtain ⟨y,hy',rfl⟩:=mem e he;exact eqs y hy' z) (λ j hj=>?_) d 100000 none (by unfold SetTable.turns at hd1;lia) hd1 hd2 rfl)
 dsimp only;refine af (cO ho hd hf ?_);dsimp only;have pm1:(SetTable.insertAt es (t.put j).2 (hsh,Value.ref x)).toList.Perm ((xs ++ [(hsh,x)]).map λ x=>(x.1,Value.ref x.2)):=by
  rw [a7];refine (SetTable.insertAt_perm _ _ _).trans ?_;rw [Array.toList_push];exact pm.append_right _
 have sz1:(SetTable.insertAt es (t.put j).2 (hsh,Value.ref x)).size=es.size + 1:=by rw [<- aK,pm1.length_eq,ah,aM,hl];rfl
 have d1:(t.put j).1.dummies=#[]:=by
  show (if SetTable.has t.dummies j then _ else t.dummies)=#[]
  rw [dm,show SetTable.has #[] j=false by simp [SetTable.has]]
  rfl
 have p1:(t.put j).1.place.size=es.size + 1:=by
  have:=(SetTable.insertAt_perm t.place (SetTable.below t.place j) j).length_eq;rw [aK,aK,Array.size_push,ps] at this;exact this
 have m1:(t.put j).1.mask=t.mask:=rfl;have fin:∀ t2:SetTable,t2.dummies=#[]->t2.place.size=es.size + 1->t2.mask=t.mask->wpAny (model prog w) A (do
   storeSet a (SetTable.insertAt es (t.put j).2 (hsh,Value.ref x)) t2
   if (!false && t2.tooFull)=true then do
    setRelay a (SetTable.grown (es.size + 1))
    pure true
   else pure true) Q E s:=λ t2 e1 e2 e3=>zcQ ho hex hd sz1 pm1 (by lia) e1 (by rw [e2,sz1]) ⟨k,by rw [e3];exact hk⟩ (by lia) (by lia) (by rw [aM];simp;lia) q
 split
 ·refine af (zcV hx λ b=>?_);cases b
  ·exact fin _ d1 p1 m1
  ·exact fin _ d1 p1 m1
 ·exact af (ao (fin _ d1 p1 m1))
end
section
variable {prog:Af} {w:World}
structure KSet {κ:Type} [DecidableEq κ] {d:Nat} (It:KItem prog w κ d) (n:Nat):Prop where
 kp:∀ {h h':Heap} {k:κ} {v:Al},(∀ b items,IsTup h b items->IsTup h' b items)->It.is h k v->It.is h' k v
 tv:∀ {h:Heap} {k:κ} {v:Al},It.is h k v->TV h n v
def TV.up {h:Heap}:∀ {n m:Nat} {v:Al},TV h n v->n<=m->TV h m v:=by
 intro n
 induction n with
 | zero=>intro m v t _;cases t <;> constructor
 | succ n ih =>
  intro m v t l;obtain ⟨m,rfl⟩:∃ k,m=k + 1:=⟨m - 1,by lia⟩;cases t with
  | non=>exact .non
  | int=>exact .int
  | tup hT all=>exact .tup hT λ v hv=>ih (all v hv) (by lia)
theorem ks_flat:KSet (qT prog w) 0 where
 kp:=λ _ h=>h
 tv:=by
  intro h k v r;cases k with
  | none=>cases r;exact .non
  | some n=>obtain ⟨t,rfl⟩:=r;exact .int
def wC {κ:Type} [DecidableEq κ] {d n:Nat} {It:KItem prog w κ d} (K:KSet It n):KSet (xI It) (n + 1) where
 kp:=by
  rintro h h' k v s ⟨a,items,rfl,h1,h2⟩;exact ⟨a,items,rfl,s _ _ h1,Paired.mapP h2 λ p q z=>K.kp s z⟩
 tv:=by
  rintro h k v ⟨a,items,rfl,h1,h2⟩;refine .tup h1 λ v hv=>?_;obtain ⟨j,hj⟩:=eW.mp hv;obtain ⟨k1,e1⟩:∃ x,k[j]?=some x:=⟨k[j]'(by rw [cB h2];exact (aa.mp hj).1),ae _⟩;exact K.tv (jS h2 e1 hj)
def zfp:KSet (qO prog w) 3 where
 kp:=by
  rintro h h' k v s ⟨b,u1,u2,u3,u4,rfl,h1,i1,i2,i3,i4⟩;exact ⟨b,u1,u2,u3,u4,rfl,s _ _ h1,i1,(wC (wC ks_flat)).kp s i2,(wC ks_flat).kp s i3,(wC ks_flat).kp s i4⟩
 tv:=by
  rintro h k v ⟨b,u1,u2,u3,u4,rfl,h1,i1,i2,i3,i4⟩;refine .tup h1 λ v hv=>?_;have hv:v=u1\/v=u2\/v=u3\/v=u4:=by simpa using hv
  rcases hv with rfl|rfl|rfl|rfl
  ·exact (ks_flat.tv i1).up (by decide)
  ·exact (wC (wC ks_flat)).tv i2
  ·exact ((wC ks_flat).tv i3).up (by decide)
  ·exact ((wC ks_flat).tv i4).up (by decide)
variable {A:An} {E:A3} {κ:Type} [DecidableEq κ] {d n8:Nat} {It:KItem prog w κ d}
def ze4 (It:KItem prog w κ d) (x:κ × Addr):Int × Addr:=(It.hash x.1,x.2)
theorem zb5 (KS:KSet It n8) (h8:n8<=8) {R:Result->Shared->Prop} {I p:Addr} (hh:A.in1.handled=none) (hp:p≠I) {S:Addr} (hSI:S≠I) (hSp:S≠p) {xs:List (κ × Addr)} {ma:Ac} (hu:A.in1.units + d < cLine) (hits:ma.toList=xs.map λ x=>Value.ref x.2) (nd:(xs.map (·.1)).Nodup) (sm:xs.length < 1100) :
  ∀ (m i:Nat) (s:Am),xs.length - i=m->i<=xs.length->(s.heap.IsListIter I p i/\s.heap.IsList p ma)->(∀ x∈xs,It.is s.heap x.1 (.ref x.2))->V8 s.heap S ((xs.take i).map (ze4 It)) ->
  (∀ h' tk,(∀ b o,b≠I->b≠S->s.heap.get? b=some o->h'.get? b=some o)->V8 h' S (xs.map (ze4 It))->R (.ok (.ret .none)) { s with heap:=h',toks:=tk }) ->
  codeAny (model prog w) A (.builtin "set.update.loop" ⟨[.ref S,.ref I],[]⟩) R s:=by
 have hsz:ma.size=xs.length:=by rw [<- aK,hits,ah]
 have W:=Walks.list (prog:=prog) (w:=w) hh I p hp ma;intro m
 induction m with
 | zero =>
  intro i s hm hi hst his hs hR;have hin:i=ma.size:=by lia
  subst hin;refine dH wE ?_;rw [d0 j8 _];show wpAny _ A.in1 (pyNext (.ref I) >>= _) _ _ s
  refine af (W.done s _ _ hst λ h' tk hk'=>?_);refine ao (hR h' tk (λ b o hb _ e=>hk' b o (by simpa using hb) e) ?_);rw [hsz,aV] at hs;obtain ⟨o,es,ep,t,h1,h2⟩:=hs;exact ⟨o,es,ep,t,hk' S o (by simpa using hSI) h1,h2⟩
 | succ m ih =>
  intro i s hm hi hst his hs hR;have hlt:i < xs.length:=by lia
  refine dH wE ?_;rw [d0 j8 _];show wpAny _ A.in1 (pyNext (.ref I) >>= _) _ _ s
  refine af (W.item i s _ _ (by lia) hst λ v h' tk hPv hst' hk'=>?_);have hv:v=.ref xs[i].2:=by
   rw [<- bB,hits,au,ae hlt] at hPv;exact (aU hPv).symm
  subst hv;have tI:∀ b items,IsTup s.heap b items->b≠I:=λ b items hb z=>by
   obtain ⟨o,h1,h2,_⟩:=hst.1;obtain ⟨o',g1,g2,_⟩:=hb;rw [z,h1] at g1;cases g1;rw [h2] at g2;exact absurd (Value.type.inj g2) (by decide)
  have k1:∀ b items,IsTup s.heap b items->IsTup h' b items:=λ b items hb=>by
   obtain ⟨o,g⟩:=hb;exact ⟨o,hk' b o (by simpa using tI b items ⟨o,g⟩) g.1,g.2⟩
  have his1:∀ x∈xs,It.is h' x.1 (.ref x.2):=λ x hx=>KS.kp k1 (his x hx);have hs1:V8 h' S ((xs.take i).map (ze4 It)):=by
   obtain ⟨o,es,ep,t,h1,h2⟩:=hs;exact ⟨o,es,ep,t,hk' S o (by simpa using hSI) h1,h2⟩
  have hx:=his1 _ (dR hlt);have nin:∀ x∈xs.take i,x.1≠xs[i].1:=λ x hx e=>by
   obtain ⟨j,hj,ej⟩:=fm hx;rw [aW] at hj;rw [List.getElem_take] at ej;have:j=i:=(List.getElem_inj (i:=j) (j:=i) (h₀:=by rw [ah];lia) (h₁:=by rw [ah];lia) nd).mp (by rw [List.getElem_map,List.getElem_map,ej,e])
   lia
  refine af (bY ?_);unfold setAdd;refine bY (af (It.pyHash hu hx ?_));refine zeh (xs:=(xs.take i).map (ze4 It)) (x:=xs[i].2) hs1 (by rw [ah,aW];lia) ((KS.tv hx).up h8) (λ y hy=>?_) (λ y hy Q' z=>?_) λ h'' sb hs2=>?_
  ·obtain ⟨x,hx',rfl⟩:=aP.mp hy;exact (KS.tv (his1 x (eM hx'))).up h8
  ·obtain ⟨x,hx',rfl⟩:=aP.mp hy;have:=It.eq (A:=A.in1) (s:={ s with heap:=h',toks:=tk + It.draws xs[i].1 }) hu (his1 x (eM hx')) hx;rw [a4 (nin x hx')] at this;exact this prog w _ _ z
  ·refine ao ⟨fv j8 _,ih (i + 1) _ (by lia) hlt ?_ ?_ ?_ ?_⟩
   ·have e:∀ b,b≠S->h''.get? b=h'.get? b:=λ b hb=>sb.2 b hb;exact W.frame (i + 1) h' h'' hst' λ b hb o e'=>by
     rw [e b (λ z=>by
      simp only [az,cE,da] at hb;rcases hb with rfl|rfl
      ·exact hSI z.symm
      ·exact hSp z.symm)]
     exact e'
   ·refine λ x hx'=>KS.kp (λ b items hb=>?_) (his1 x hx');obtain ⟨o,g⟩:=hb;have:b≠S:=λ z=>by
     obtain ⟨o',_,_,_,g1,g2,_⟩:=hs1;rw [z,g1] at g;obtain ⟨e,g3,_⟩:=g;cases e;rw [g2.1] at g3;exact absurd (Value.type.inj g3) (by decide)
    exact ⟨o,(sb.2 b this).trans g.1,g.2⟩
   ·rw [aR,ae hlt,a7];exact hs2
   ·intro h3 tk3 hk3 hs3;refine hR h3 tk3 (λ b o hb nb e=>hk3 b o hb nb ?_) hs3;rw [sb.2 b nb];exact hk' b o (by simpa using hb) e
end
def tsO (D:Addr) (n:Nat):HO:=.ext λ h=>∃ xs:List (Int × Addr),xs.length=n/\n < 1100/\V8 h D xs
section
variable {X:Cx} {κ:Type} [DecidableEq κ] {d n8:Nat}
theorem Xj:∀ {xs:List (κ × Addr)} {us:A7},Vals (xs.map λ x=>V.ref x.2) us->us=xs.map λ x=>Value.ref x.2
 | [],_,.nil=>rfl
 | x :: xs,_,.cons r t=>by cases r;rw [Xj t];rfl
def zbV {It:KItem X.prog X.w κ d} (KS:KSet It n8) (h8:n8<=8) (hc:X.calm=true) (hu:X.A.units + 100 < cLine) (hd:d<=50):CallR X (.type "set") (λ vs H Q=>∃ p,∃ xs:List (κ × Addr),vs=[.ref p]/\SqL X.K H p (xs.map λ x=>.ref x.2)/\(xs.map (·.1)).Nodup/\xs.length < 1100/\(∀ h,HOk X.prog X.w H h->∀ x∈xs,It.is h x.1 (.ref x.2))/\∀ l,H l=none->Q (.ref l) (upd H l (tsO l xs.length))):=by
 intro l8 s σ H vs us Q I r h;obtain ⟨p,xs,rfl,hp,nd,sm,hk,q⟩:=h;obtain ⟨u,rfl,rx⟩:=vb r;cases rx;obtain ⟨ma,rv,hl,hz⟩:=I.list hp;have hl':=hl.isList;have hlt:p < s.heap.objs.size:=by obtain ⟨_,e,_⟩:=hl';exact av e
 refine zbe λ led s₁ e₁=>?_;subst e₁;have hl2:=hl'.push { cls:=.type "set",dict:=none,data:=.set #[] 0 (.fresh 0 0 led) };have hSo:(s.heap.push { cls:=.type "set",dict:=none,data:=.set #[] 0 (.fresh 0 0 led) }).get? s.heap.objs.size=some { cls:=.type "set",dict:=none,data:=.set #[] 0 (.fresh 0 0 led) }:=aJ _ rfl;have hT:Shared.TypeIs { s with heap:=s.heap.push { cls:=.type "set",dict:=none,data:=.set #[] 0 (.fresh 0 0 led) } } (.ref p) "list":=by obtain ⟨o,h1,h2,_⟩:=hl2;exact ⟨o,h1,h2⟩
 have f1:=F.sub_list_set;have f2:=F.sub_list_frozenset;unfold Builtin.«set.__init__» noKeywords
 wp_walk using et hl2
 have hS1:(s.heap.push { cls:=.type "set",dict:=none,data:=.set #[] 0 (.fresh 0 0 led) }).objs.size=s.heap.objs.size + 1:=de ..;have hits:ma.toArray.toList=xs.map λ x=>Value.ref x.2:=Xj rv;refine zb5 (A:=X.A.in1.in1) (S:=s.heap.objs.size) (xs:=xs) KS h8 (p:=p) (ma:=ma.toArray) (I.ok.hd hc) ?_ ?_ ?_ ?_ hits nd sm _ 0 _ rfl (bU _) ⟨⟨_,aJ _ rfl,rfl,rfl⟩,hl2.push _⟩ ?_ ?_ λ h' tk hk' hs=>?_
 ·rw [hS1];exact aI (Nat.lt_succ_of_lt hlt)
 ·rw [hS1];exact aI (db _)
 ·exact cU hlt
 ·simp only [dB];lia
 ·exact λ x hx=>KS.kp (λ b items ⟨o,g⟩=>⟨o,aj _ (aj _ g.1),g.2⟩) (hk _ I.hok x hx)
 ·exact ⟨_,#[],0,_,aj _ hSo,⟨rfl,rfl,rfl⟩,rfl,aN _,rfl,rfl,⟨3,rfl⟩,ap 7,show 0 * 5 < 7 * 3 by decide,show 7<=8 * 0 + 7 by decide⟩
 ·refine ao (ao ⟨rfl,.ref s.heap.objs.size,_,I.laid (a:=s.heap.objs.size) (o:=tsO s.heap.objs.size xs.length) (t':=tk) (λ b u e=>?_) (ap _) ?_,rfl,q _ (I.hok.fresh (ap _))⟩)
  ·have hb:=av e;exact hk' b u (λ z=>by rw [z,hS1] at hb;exact absurd hb (Nat.not_lt.mpr (bZ _))) (aI hb) (aj _ (aj _ e))
  ·refine ⟨⟨_,ah ..,sm,hs⟩,?_,?_⟩
   ·obtain ⟨o,_,_,_,g,_⟩:=hs;exact ⟨o,g⟩
   ·rintro h1 h2 ⟨ys,e,l,o,es,ep,t,g,rest⟩ kk;exact ⟨ys,e,l,o,es,ep,t,kk o g,rest⟩
def zbW:CallR X (.builtin "len") (λ xs H Q=>∃ p n,xs=[.ref p]/\H p=some (tsO p n)/\Q (.int n) H):=by
 intro l8 s σ H xs us Q I r h;obtain ⟨p,n,rfl,hp,q⟩:=h;obtain ⟨u,rfl,rx⟩:=vb r;cases rx;obtain ⟨⟨ys,e,l,o,es,ep,t,h1,h2,h3,pm,dm,ps,_,m7,nf,_⟩,_⟩:=(show ObjOk X.prog X.w H s.heap p (tsO p n) from I.hok p _ hp);have hl:es.size=n:=by rw [<- e,<- aK,pm.length_eq,ah]
 have hf:t.fits es.size=true:=by
  simp only [SetTable.fits,SetTable.fill,dm,ps,cg,c8,bJ];show es.size + 0<=t.mask
  lia
 refine call_len_set h1 h2 h3 hf ?_ ⟨.int n,H,I.tok _,⟨_,by rw [hl]⟩,q⟩
 lia
end
end L2
namespace L2
open PySem PySem.Spec PyProof.Rows
variable {base:Heap}
structure RoomH (k:Nat) (A:An):Prop where
 dp:A.depth + 3 * k + 5 < recursionLimit
 un:A.units + 16 * k + 200 < cLine
structure FnOkH (P:Af) (w:World) (K:A0) (mg:A4) (base:Heap) (k:Nat) (f:Addr) (fd:FuncData) (ps:A8) (sp:Sp):Prop where
 len:∀ vs H Q E,sp vs H Q E->vs.length=ps.length
 run:∀ (A:An) (outer:List Env) (s:Am) (H:Hp) (args:Args) (us:A7) (vs:Ao) (Q:VK),RoomH k A->Env0 P w K mg base A outer s H->BindsTo s fd args (ps.zip us)->Vals vs us->sp vs H Q (λ _ _ _=>False) ->
  codeAny (model P w) A (.call (.ref f) args) (CR CX0 outer P w H s Q λ _ _ _=>False) s
def CalH (P:Af) (w:World) (K:A0) (mg:A4) (base:Heap) (x:Str) (k:Nat) (ps:A8) (sp:Sp):Prop:=∃ f fd,FnOkH P w K mg base k f fd ps sp/\mg x=some (.ref f)/\keepIn K (.ref f)=true/\Binds K fd ps []
noncomputable abbrev cxH (P:Af) (w:World) (K:A0) (mg:A4) (base:Heap) (N:A8) (qual:Str) (scope:Scope) (f:Addr) (cd:Al) (A:An) (outer:List Env) (s:Am) (H:Hp):Cx :=
 { Zq CX0 P w K mg base N qual scope f cd A outer s H (λ _ _ _=>False) with calm:=false,xe:=λ _ _=>False }
theorem Fun.okH {P:Af} {w:World} {K:A0} {mg:A4} {x qual:Str} {st:Stmt} {f:Addr} {fd:FuncData} {N ps:A8} {k:Nat} {sp:Sp} (F:Fun K x qual st f fd) (S:FnScope N ps (ze st)) (len:∀ vs H Q E,sp vs H Q E->vs.length=ps.length)
  (hbody:∀ (cdv:Al) (A:An) (outer:List Env) (s:Am) (H:Hp) (vs:Ao) (Q:VK),sp vs H Q (λ _ _ _=>False) ->
   ∃ t,PSs (cxH P w K mg base N qual (ze st) f cdv A outer s H) (zI st) t/\t { nx:=λ _ H'=>Q .non H',rt:=Q } (start N vs) H):FnOkH P w K mg base (k + 1) f fd ps sp:=by
 obtain ⟨oc,od,kV,doc,pm,an,cdv,ct,osl,rfl,lk,hcd⟩:=F.ex;refine ⟨len,λ A outer s H args us vs Q hr e0 hb r hsp=>?_⟩;have hl:=len _ _ _ _ hsp;have KX:K.In s.heap:=e0.mod.kin.keeps λ b o e=>(e0.bs b o e).1;have lim:s.heap.NoLimit:=e0.mod.nolimit.keeps λ b o e=>(e0.bs b o e).1;have hkind:∀ y∈ps.zip us,(ze st).names.lookup y.1=some .local\/((ze st).names.lookup y.1=some .cell/\((cellsFrom (s.heap.objs.size + 1) (ze st).names []).lookup y.1).isSome=true):=λ ⟨n,v⟩ hy=>by
  rcases S.par n (eT hy).1 with q|q
  ·exact .inl q
  ·exact .inr ⟨q,fA _ _ _ (.inl q)⟩
 have hdp:A.depth < recursionLimit:=by have:=hr.dp;lia
 refine codeAny_call_function (by first|exact hdp|(have:=hr.dp;lia)) (KX _ _ lk) rfl S.co S.gen rfl (fC KX hcd) (hb _ _ _ _ ?_);refine eY S.kind hkind λ env he s1 x=>?_;subst he;refine ⟨lim.keeps x.toInCall.keep,codeAny_func ?_⟩;obtain ⟨t,ht,hq⟩:=hbody cdv A outer s H vs Q hsp;have I0:Inv (Zq CX0 P w K mg base N qual (ze st) f cdv { A with handled:=none } outer s H λ _ _ _=>False) [] (start N vs) H s1:=XF S rfl ⟨e0.frames,e0.mod,e0.bs,e0.bsz,e0.funs,e0.frf,e0.hok,e0.bare⟩ hl r x;have I:Inv (cxH P w K mg base N qual (ze st) f cdv A outer s H) [] (start N vs) H s1 :=
  ⟨⟨I0.ok.mod,I0.ok.kind,I0.ok.glob,I0.ok.blt,I0.ok.above,I0.ok.inj,I0.ok.has,I0.ok.cab,λ h=>Bool.noConfusion h,I0.ok.frames,I0.ok.stk,I0.ok.exf,I0.ok.bs,I0.ok.bsz,I0.ok.noex,I0.ok.exfs,I0.ok.funs,I0.ok.frf⟩,
   I0.os,I0.bare,I0.base,I0.loc,I0.cell,I0.free,I0.freeC,I0.pin,I0.hok,I0.len⟩
 refine aQ (ht [] s1 (start N vs) H _ I hq) (λ fl s' hs=>?_) λ e s' hs=>hs.elim;have fin:∀ {σ':St} {H':Hp} {v:V} {u:Al},Inv (cxH P w K mg base N qual (ze st) f cdv A outer s H) [] σ' H' s'->RelV v u->Q v H'->CE outer P w H s Q u s' :=
  λ {σ' H' v u} J rv q=>⟨v,H',J.os,J.bare,J.base,J.hok,rv,q⟩
 cases fl with
 | ret u =>
  obtain ⟨v,σ',H',J,rv,q⟩:=hs;exact fin J rv q
 | next =>
  obtain ⟨σ',H',J,q⟩:=hs;exact fin (v:=V.non) (u:=Value.none) J rfl q
 | brk =>
  obtain ⟨_,_,_,q⟩:=hs;exact False.elim q
 | cont =>
  obtain ⟨_,_,_,q⟩:=hs;exact False.elim q
def FA.calH {P:Af} {w:World} {K:A0} {mg:A4} {x:Str} {st:Stmt} {ps:A8} {k:Nat} {sp:Sp} (h:FA K mg x st ps) (ok:∀ {f fd},Fun K x x st f fd->FnOkH P w K mg base k f fd ps sp):CalH P w K mg base x k ps sp:=by
 obtain ⟨f,fd,F,m,b⟩:=h.ex;exact ⟨f,fd,ok F,m,F.kp,b⟩
def CalH.mono {P:Af} {w:World} {K:A0} {mg:A4} {x:Str} {j k:Nat} {ps:A8} {sp:Sp} (h:CalH P w K mg base x j ps sp) (l:j<=k:=by decide):CalH P w K mg base x k ps sp:=by
 obtain ⟨f,fd,F,r⟩:=h;exact ⟨f,fd,⟨F.len,λ A outer s H args us vs Q hr=>F.run A outer s H args us vs Q ⟨by have:=hr.dp;lia,by have:=hr.un;lia⟩⟩,r⟩
section
variable {X:Cx} {x:Str} {p pos:Pos} {e:Expr} {es:List Expr} {t:TA} {k:Nat}
def tClH (X:Cx) (k:Nat) (x:Str) (t:TA):TE:=λ σ H Q=>∃ ps sp,CalH X.prog X.w X.K X.mg X.base x k ps sp/\t σ H λ vs H1=>sp vs H1 Q (λ _ _ _=>False)
theorem zfV {pn:A2} {b:Addr} (hr:Room k X.A) (ha:PA (X.suite pn b) (e :: es) t) (hg:Gl (X.suite pn b) x:=by rfl) (hdb:(x == ("__debug__":Str))=false:=by decide)
  (he:starEach (e :: es) X.env=(false,eval e X.env) :: starEach es X.env:=by rfl) (hpl:(backTo pos (starEach es X.env)).any (·.1)=false:=by rfl) :
  PE (X.suite pn b) (.Call (.Name x p) (e :: es) [] pos) (tClH X k x t):=by
 intro l8 s σ H Q I h;obtain ⟨ps,sp,⟨f,fd,F,hm,hk,hb⟩,h⟩:=h;refine bI (jw I hg hm ?_ hdb);refine dh (h₀:=X.base) I.ok.mod.kin hk (we (ha pos l8 s σ H _ I h) λ us s1 vs H1 I1 r q=>⟨I1.kIn,?_⟩) he hpl;have hl:(us ++ []).length=ps.length:=by rw [bH,<- r.length];exact F.len _ _ _ _ q
 refine dE (b9 (F.run (X.suite pn b).A X.stack s1 H1 ⟨us,[]⟩ (us ++ []) vs Q ⟨hr.dp,hr.un⟩ I1.env0 (hb s1 us I1.kIn hl) (by rw [bH];exact r) q) λ r s' hq=>?_);cases r with
 | error e=>exact hq.elim
 | ok fl =>
  cases fl with
  | ret u=>exact I1.after hq
  | next=>exact False.elim hq
  | brk=>exact False.elim hq
  | cont=>exact False.elim hq
end
end L2
namespace L2
section
variable {G:Prop} {A B C D E F H I:Type}
def iE2 {k:A->B->Prop} (a:A) (b:B) (p:k a b):∃ a b,k a b:=⟨a,b,p⟩
def iE3 {k:A->B->C->Prop} (a:A) (b:B) (c:C) (p:k a b c):∃ a b c,k a b c:=⟨a,b,c,p⟩
def iE4 {k:A->B->C->D->Prop} (a:A) (b:B) (c:C) (d:D) (p:k a b c d):∃ a b c d,k a b c d:=⟨a,b,c,d,p⟩
def iE5 {k:A->B->C->D->E->Prop} (a:A) (b:B) (c:C) (d:D) (e:E) (p:k a b c d e):∃ a b c d e,k a b c d e:=⟨a,b,c,d,e,p⟩
def iE6 {k:A->B->C->D->E->F->Prop} (a:A) (b:B) (c:C) (d:D) (e:E) (f:F) (p:k a b c d e f):∃ a b c d e f,k a b c d e f:=⟨a,b,c,d,e,f,p⟩
def iE7 {k:A->B->C->D->E->F->H->Prop} (a:A) (b:B) (c:C) (d:D) (e:E) (f:F) (g:H) (p:k a b c d e f g):∃ a b c d e f g,k a b c d e f g:=⟨a,b,c,d,e,f,g,p⟩
def iE8 {k:A->B->C->D->E->F->H->I->Prop} (a:A) (b:B) (c:C) (d:D) (e:E) (f:F) (g:H) (i:I) (p:k a b c d e f g i):∃ a b c d e f g i,k a b c d e f g i:=⟨a,b,c,d,e,f,g,i,p⟩
def oE1 {k:A->Prop} (h:∃ a,k a) (w:∀ a,k a->G):G:=by obtain ⟨a,p⟩:=h;exact w a p
def oE2 {k:A->B->Prop} (h:∃ a b,k a b) (w:∀ a b,k a b->G):G:=by obtain ⟨a,b,p⟩:=h;exact w a b p
def oE3 {k:A->B->C->Prop} (h:∃ a b c,k a b c) (w:∀ a b c,k a b c->G):G:=by obtain ⟨a,b,c,p⟩:=h;exact w a b c p
def oE4 {k:A->B->C->D->Prop} (h:∃ a b c d,k a b c d) (w:∀ a b c d,k a b c d->G):G:=by obtain ⟨a,b,c,d,p⟩:=h;exact w a b c d p
def oE5 {k:A->B->C->D->E->Prop} (h:∃ a b c d e,k a b c d e) (w:∀ a b c d e,k a b c d e->G):G:=by obtain ⟨a,b,c,d,e,p⟩:=h;exact w a b c d e p
def oE6 {k:A->B->C->D->E->F->Prop} (h:∃ a b c d e f,k a b c d e f) (w:∀ a b c d e f,k a b c d e f->G):G:=by obtain ⟨a,b,c,d,e,f,p⟩:=h;exact w a b c d e f p
def oE7 {k:A->B->C->D->E->F->H->Prop} (h:∃ a b c d e f g,k a b c d e f g) (w:∀ a b c d e f g,k a b c d e f g->G):G:=by obtain ⟨a,b,c,d,e,f,g,p⟩:=h;exact w a b c d e f g p
def oE8 {k:A->B->C->D->E->F->H->I->Prop} (h:∃ a b c d e f g i,k a b c d e f g i) (w:∀ a b c d e f g i,k a b c d e f g i->G):G:=by obtain ⟨a,b,c,d,e,f,g,i,p⟩:=h;exact w a b c d e f g i p
end
section
variable {G A B C D E F H I J:Prop}
def iA3 (a:A) (b:B) (c:C):A/\B/\C:=⟨a,b,c⟩
def iA4 (a:A) (b:B) (c:C) (d:D):A/\B/\C/\D:=⟨a,b,c,d⟩
def iA5 (a:A) (b:B) (c:C) (d:D) (e:E):A/\B/\C/\D/\E:=⟨a,b,c,d,e⟩
def iA6 (a:A) (b:B) (c:C) (d:D) (e:E) (f:F):A/\B/\C/\D/\E/\F:=⟨a,b,c,d,e,f⟩
def iA7 (a:A) (b:B) (c:C) (d:D) (e:E) (f:F) (g:H):A/\B/\C/\D/\E/\F/\H:=⟨a,b,c,d,e,f,g⟩
def iA8 (a:A) (b:B) (c:C) (d:D) (e:E) (f:F) (g:H) (i:I):A/\B/\C/\D/\E/\F/\H/\I:=⟨a,b,c,d,e,f,g,i⟩
def iA9 (a:A) (b:B) (c:C) (d:D) (e:E) (f:F) (g:H) (i:I) (j:J):A/\B/\C/\D/\E/\F/\H/\I/\J:=⟨a,b,c,d,e,f,g,i,j⟩
def oA2 (h:A/\B) (k:A->B->G):G:=by obtain ⟨a,b⟩:=h;exact k a b
def oA3 (h:A/\B/\C) (k:A->B->C->G):G:=by obtain ⟨a,b,c⟩:=h;exact k a b c
def oA4 (h:A/\B/\C/\D) (k:A->B->C->D->G):G:=by obtain ⟨a,b,c,d⟩:=h;exact k a b c d
def oA5 (h:A/\B/\C/\D/\E) (k:A->B->C->D->E->G):G:=by obtain ⟨a,b,c,d,e⟩:=h;exact k a b c d e
def oA6 (h:A/\B/\C/\D/\E/\F) (k:A->B->C->D->E->F->G):G:=by obtain ⟨a,b,c,d,e,f⟩:=h;exact k a b c d e f
def oA7 (h:A/\B/\C/\D/\E/\F/\H) (k:A->B->C->D->E->F->H->G):G:=by obtain ⟨a,b,c,d,e,f,g⟩:=h;exact k a b c d e f g
def oA8 (h:A/\B/\C/\D/\E/\F/\H/\I) (k:A->B->C->D->E->F->H->I->G):G:=by obtain ⟨a,b,c,d,e,f,g,i⟩:=h;exact k a b c d e f g i
def oA9 (h:A/\B/\C/\D/\E/\F/\H/\I/\J) (k:A->B->C->D->E->F->H->I->J->G):G:=by obtain ⟨a,b,c,d,e,f,g,i,j⟩:=h;exact k a b c d e f g i j
end
end L2
namespace Mine
def zdW {p r:Int} (hp:0<=p) (hr:0 < r):Int.gcd r (p % r)=Int.gcd p r:=by
 have e:(p % r).natAbs=p.natAbs % r.natAbs:=by
  have h1:p=(p.natAbs:Int):=by lia
  have h2:r=(r.natAbs:Int):=by lia
  rw [h1,h2,<- Int.natCast_emod,bO,bO,bO]
 show Nat.gcd r.natAbs (p % r).natAbs=Nat.gcd p.natAbs r.natAbs
 rw [e,Nat.gcd_comm p.natAbs,Nat.gcd_rec r.natAbs p.natAbs,Nat.gcd_comm]
def ze2 {p:Int} (hp:0<=p):(Int.gcd p 0:Int)=p:=by
 rw [Int.gcd_zero_right];lia
def zbE {a b:Int} (h:¬ (a=0/\b=0)):1<=(Int.gcd a b:Int):=by
 have:0 < Int.gcd a b:=Int.gcd_pos_iff.mpr (by lia)
 lia
end Mine
namespace Mine
structure IsLcm (ns:A6) (l:Int):Prop where
 pos:0 < l
 dv:∀ n∈ns,n ∣ l
 least:∀ m:Int,(∀ n∈ns,n ∣ m)->l ∣ m
def IsLcm.nil:IsLcm [] 1:=⟨by decide,(λ _ h=>nomatch h),λ m _=>e6 m⟩
def zf7 {a b:Int} (ha:0 < a) (hb:0 < b):a / (Int.gcd a b:Int) * b=(Nat.lcm a.natAbs b.natAbs:Int):=by
 have g:(Int.gcd a b:Int) ∣ a:=Int.gcd_dvd_left ..;obtain ⟨k,hk⟩:=g;have gp:0 < (Int.gcd a b:Int):=by have:=zbE (a:=a) (b:=b) (by lia);lia
 have e1:a / (Int.gcd a b:Int)=k:=by
  conv=>lhs;rw [hk]
  have hk':=hk;rw [Int.mul_comm (Int.gcd a b:Int) k];have e2:Int.gcd (k * (Int.gcd a b:Int)) b=Int.gcd a b:=by rw [Int.mul_comm,<- hk]
  rw [e2];exact Int.mul_ediv_cancel _ (by lia)
 have hkn:0 < k:=by
  rcases (by lia:k<=0\/0 < k) with h|h
  ·have:=Int.mul_nonpos_of_nonneg_of_nonpos (cV gp) h
   lia
  ·exact h
 have hg:Nat.gcd a.natAbs b.natAbs * Nat.lcm a.natAbs b.natAbs=a.natAbs * b.natAbs:=Nat.gcd_mul_lcm ..;have ea:a.natAbs=Nat.gcd a.natAbs b.natAbs * k.natAbs:=by
  have:=ce Int.natAbs hk;rw [Int.natAbs_mul,bO] at this;exact this
 have gp':0 < Nat.gcd a.natAbs b.natAbs:=by
  have:(Nat.gcd a.natAbs b.natAbs:Int)=(Int.gcd a b:Int):=rfl
  lia
 have e3:Nat.lcm a.natAbs b.natAbs=k.natAbs * b.natAbs:=by
  apply Nat.eq_of_mul_eq_mul_left gp';rw [hg,<- dJ,<- ea]
 rw [e1,e3];rw [Int.natCast_mul];have h1:k=(k.natAbs:Int):=by lia
 have h2:b=(b.natAbs:Int):=by lia
 rw [<- h1,<- h2]
def vh {a b:Int} (h:a ∣ b):a.natAbs ∣ b.natAbs:=cH.mpr h
def IsLcm.step {ns:A6} {l p:Int} (x:IsLcm ns l) (hp:0 < p):IsLcm (ns ++ [p]) (l / (Int.gcd l p:Int) * p):=by
 rw [zf7 x.pos hp];have lp:0 < l.natAbs:=by have:=x.pos;lia
 have pp:0 < p.natAbs:=by lia
 refine ⟨?_,λ n hn=>?_,λ m hm=>?_⟩
 ·have:=Nat.lcm_pos lp pp
  lia
 ·rcases aF.mp hn with h|h
  ·have h1:=x.dv n h;refine Int.dvd_trans h1 ?_;rw [<- cH,bO];exact Nat.dvd_lcm_left ..
  ·rw [ay.mp h,<- cH,bO];exact Nat.dvd_lcm_right ..
 ·have h1:=x.least m λ n hn=>hm n (bj _ hn);have h2:=hm p (a5 _ (ay.mpr rfl));rw [<- cH,bO];exact Nat.lcm_dvd (vh h1) (vh h2)
def Wu {a b:Int} (hb:0 < b):(Int.gcd a b:Int)<=b:=Int.le_of_dvd hb (Int.gcd_dvd_right ..)
end Mine
namespace L2
open PySem PySem.Spec PyProof.Rows
variable {xs:Ao} {i:Int} {v:V} {CX:CXT} {P:Af} {w:World} {mg:A4} {base:Heap} {N:A8} {qual:Str} {scope:Scope} {f:Addr} {cd:Al} {A:An} {s:Am} {E:XK}
section
variable {X:Cx} {K:A0} {σ:St} {H:Hp} {Q:VK} {D:Ends}
theorem rd_iq {P:Int->Prop}:iq (.int i) P=P i:=rfl
theorem rd_bq {b:Bool} {P:Bool->Prop}:bq (.bl b) P=P b:=rfl
theorem rd_nq {P:Prop}:nq .non P=P:=rfl
theorem rd_lq {P:V->Prop}:lq [v] P=P v:=rfl
theorem rd_vq {P:V->Prop}:vq (some (some v)) P=P v:=rfl
theorem rd_addI {i j:Int}:Vq K (.int i) (.int j) H Q=Q (.int (i + j)) H:=rfl
theorem rd_addS {i j:Str}:Vq K (.str i) (.str j) H Q=(i.length + j.length<=sizeLine/\Q (.str (i ++ j)) H):=rfl
theorem rd_mc {α β:Type} {f:α->β} {a:α} {l:List α}:List.map f (a :: l)=f a :: List.map f l:=rfl
theorem rd_mn {α β:Type} {f:α->β}:List.map f []=[]:=rfl
theorem rd_itT {A B:Prop}:(if true=true then A else B)=A:=rfl
theorem rd_itF {A B:Prop}:(if false=true then A else B)=B:=rfl
theorem rd_is0 {A B:Prop}:(if V.non=V.non then A else B)=A:=rfl
theorem rd_is1 {a:Addr} {A B:Prop}:(if V.ref a=V.non then A else B)=B:=rfl
theorem rd_is2 {a:Int} {A B:Prop}:(if V.int a=V.non then A else B)=B:=rfl
theorem rd_in0 {A B:Prop}:(if ¬ V.non=V.non then A else B)=B:=rfl
theorem rd_in1 {a:Addr} {A B:Prop}:(if ¬ V.ref a=V.non then A else B)=A:=rfl
theorem rd_in2 {a:Int} {A B:Prop}:(if ¬ V.int a=V.non then A else B)=A:=rfl
theorem rd_sz0 {P:Prop}:szl [] P=P:=rfl
section
variable {P:Prop} {a b c d e f g h i:V}
theorem rd_sz1:szl [a] P=P:=rfl
theorem rd_sz2:szl [a,b] P=P:=rfl
theorem rd_sz3:szl [a,b,c] P=P:=rfl
theorem rd_sz4:szl [a,b,c,d] P=P:=rfl
theorem rd_sz5:szl [a,b,c,d,e] P=P:=rfl
theorem rd_sz6:szl [a,b,c,d,e,f] P=P:=rfl
theorem rd_sz7:szl [a,b,c,d,e,f,g] P=P:=rfl
theorem rd_sz8:szl [a,b,c,d,e,f,g,h] P=P:=rfl
theorem rd_sz9:szl [a,b,c,d,e,f,g,h,i] P=P:=rfl
end
noncomputable def zbH:Nat->List Stmt->Bool
 | 0,_=>false
 | n + 1,b=>match b.getLast? with
  | some (.Return ..)=>true
  | some (.Raise ..)=>true
  | some (.Continue ..)=>true
  | some (.Break ..)=>true
  | some (.If _ b e _)=>zbH n b && zbH n e
  | _=>false
noncomputable def zg0:Stmt->Bool
 | .For ..=>true
 | .While ..=>true
 | .Try ..=>true
 | .If _ b e _=>!zbH 9 b && !zbH 9 e
 | _=>false
def fa {X:Cx} {st:Stmt} {t:TS} (_:zg0 st=true) (p:PS X st t):PS X st t:=p
structure Vr (X:Cx) (i:Nat) (x:Str):Prop where
 n:X.N[i]?=some x
 v:Vis X.env.scope x
 d:(x == ("__debug__":Str))=false
 c:(x == ("__classdict__":Str))=false
def pq {X:Cx} (i:Nat) {x:Str} {pos:Pos} (h:Vr X i x:=by walk_at "v"):PE X (.Name x pos) (tVar i):=zfS h.n h.v h.d h.c
theorem rd_trB {b:Bool} {P:Bool->Hp->Prop}:trq K (.bl b) H P=P b H:=rfl
theorem rd_trI {P:Bool->Hp->Prop}:trq K (.int i) H P=∃ k,zcP K (.int i) H k/\P k H:=rfl
theorem rd_trR {a:Addr} {P:Bool->Hp->Prop}:trq K (.ref a) H P=∃ k,zcP K (.ref a) H k/\P k H:=rfl
theorem rd_trS {x:Str} {P:Bool->Hp->Prop}:trq K (.str x) H P=∃ k,zcP K (.str x) H k/\P k H:=rfl
theorem rd_eqI {i j:Int}:Q5 K (.int i) (.int j) H Q=Q (.bl (decide (i=j))) H:=rfl
theorem rd_neI {i j:Int}:Vp K (.int i) (.int j) H Q=Q (.bl (!decide (i=j))) H:=rfl
theorem rd_eqS {i j:Str}:Q5 K (.str i) (.str j) H Q=Q (.bl (decide (i=j))) H:=rfl
theorem rd_eqB {i j:Bool}:Q5 K (.bl i) (.bl j) H Q=Q (.bl (decide (i=j))) H:=rfl
theorem rd_eTI {i j:Int}:zci K (.int i) (.int j) H Q=if i=j then Q (.bl true) H else Q (.bl false) H:=rfl
theorem rd_eTS {i j:Str}:zci K (.str i) (.str j) H Q=if i=j then Q (.bl true) H else Q (.bl false) H:=rfl
theorem rd_eTB {i j:Bool}:zci K (.bl i) (.bl j) H Q=if i=j then Q (.bl true) H else Q (.bl false) H:=rfl
theorem rd_nTI {i j:Int}:zch K (.int i) (.int j) H Q=if ¬ i=j then Q (.bl true) H else Q (.bl false) H:=rfl
theorem rd_nTS {i j:Str}:zch K (.str i) (.str j) H Q=if ¬ i=j then Q (.bl true) H else Q (.bl false) H:=rfl
theorem rd_nTB {i j:Bool}:zch K (.bl i) (.bl j) H Q=if ¬ i=j then Q (.bl true) H else Q (.bl false) H:=rfl
theorem rd_eTR {a b:Addr}:zci K (.ref a) (.ref b) H Q=Q5 K (.ref a) (.ref b) H Q:=rfl
theorem rd_nTR {a b:Addr}:zch K (.ref a) (.ref b) H Q=Vp K (.ref a) (.ref b) H Q:=rfl
def rd_fvI {P:Str->Prop} {R:Str->Prop}:((∃ j,V.int i=V.int j/\j.natAbs.log2 < 1920/\P (toString j))\/(∃ y,V.int i=V.str y/\y.length<=sizeLine/\R y)) ↔ i.natAbs.log2 < 1920/\P (toString i) :=
 ⟨λ h=>h.elim (λ ⟨_,e,h⟩=>by cases e;exact h) (λ ⟨_,e,_⟩=>nomatch e),λ h=>.inl ⟨i,rfl,h⟩⟩
def rd_strS {y:Str} {P:Str->Prop}:(∃ z,V.str y=V.str z/\P z) ↔ P y:=⟨λ ⟨_,e,h⟩=>by cases e;exact h,λ h=>⟨y,rfl,h⟩⟩
theorem rd_c0:((0:Nat):Int)=0:=rfl
theorem rd_c1:((1:Nat):Int)=1:=rfl
theorem rd_c2:((2:Nat):Int)=2:=rfl
theorem rd_c3:((3:Nat):Int)=3:=rfl
theorem rd_c4:((4:Nat):Int)=4:=rfl
theorem rd_c5:((5:Nat):Int)=5:=rfl
theorem rd_c6:((6:Nat):Int)=6:=rfl
def wN {p:Addr} {k:Int} {j:Nat} {R:Hp->Prop} (h:H p=some (.lst xs)) (e:ixN xs.length k=some j) (q:R (upd H p (.lst (xs.set j v)))):zfl (.ref p) (.int k) v H R:=⟨p,xs,k,j,rfl,rfl,h,e,q⟩
def Jw {n:Nat} {k:Int} (h0:0<=k) (h1:k < n):ixN n k=some k.toNat:=by unfold ixN;rw [aA h0,aA h1]
theorem cx_K {K:A0} {outer:List Env} {H:Hp}:(Zq CX P w K mg base N qual scope f cd A outer s H E).K=K:=rfl
theorem cx_mg {K:A0} {outer:List Env} {H:Hp}:(Zq CX P w K mg base N qual scope f cd A outer s H E).mg=mg:=rfl
theorem cx_prog {K:A0} {outer:List Env} {H:Hp}:(Zq CX P w K mg base N qual scope f cd A outer s H E).prog=P:=rfl
theorem cx_w {K:A0} {outer:List Env} {H:Hp}:(Zq CX P w K mg base N qual scope f cd A outer s H E).w=w:=rfl
theorem cx_base {K:A0} {outer:List Env} {H:Hp}:(Zq CX P w K mg base N qual scope f cd A outer s H E).base=base:=rfl
def rd_cpow {n:Int}:zha 10 n ↔ 0<=n/\n<=1000000:=⟨λ h=>⟨h.1,h.2.1⟩,λ h=>⟨h.1,h.2,by decide⟩⟩
def rd_isiI:zaH K [.int i,.ty "int"] H Q ↔ Q (.bl true) H:=by
 refine ⟨λ h=>?_,λ q=>⟨_,_,_,_,rfl,.old (.int i),.inl ⟨_,rfl,Z7⟩,q⟩⟩;obtain ⟨x,c,t,b,e,ty,k,q⟩:=h;cases e;rcases k with ⟨u,hu,k⟩|⟨_,_,_,e,_⟩
 ·cases hu;cases ty with|old ty=>cases ty;rw [Z7] at k;cases k;exact q
 ·cases e
def rd_isiIB:zaH K [.int i,.ty "bool"] H Q ↔ Q (.bl false) H:=by
 refine ⟨λ h=>?_,λ q=>⟨_,_,_,_,rfl,.old (.int i),.inl ⟨_,rfl,Zk⟩,q⟩⟩;obtain ⟨x,c,t,b,e,ty,k,q⟩:=h;cases e;rcases k with ⟨u,hu,k⟩|⟨_,_,_,e,_⟩
 ·cases hu;cases ty with|old ty=>cases ty;rw [Zk] at k;cases k;exact q
 ·cases e
def rd_isiB {i:Bool}:zaH K [.bl i,.ty "bool"] H Q ↔ Q (.bl true) H:=by
 refine ⟨λ h=>?_,λ q=>⟨_,_,_,_,rfl,.old (.bl i),.inl ⟨_,rfl,vm⟩,q⟩⟩;obtain ⟨x,c,t,b,e,ty,k,q⟩:=h;cases e;rcases k with ⟨u,hu,k⟩|⟨_,_,_,e,_⟩
 ·cases hu;cases ty with|old ty=>cases ty;rw [vm] at k;cases k;exact q
 ·cases e
def rd_isiS {i:Str}:zaH K [.str i,.ty "str"] H Q ↔ Q (.bl true) H:=by
 refine ⟨λ h=>?_,λ q=>⟨_,_,_,_,rfl,.old (.str i),.inl ⟨_,rfl,Z6⟩,q⟩⟩;obtain ⟨x,c,t,b,e,ty,k,q⟩:=h;cases e;rcases k with ⟨u,hu,k⟩|⟨_,_,_,e,_⟩
 ·cases hu;cases ty with|old ty=>cases ty;rw [Z6] at k;cases k;exact q
 ·cases e
def jx {a C:Addr} {c:V} {u:Al} {b:Bool} (h:H a=some (zba a (.ref C))) (f:XI K C) (hu:ze7 c=some u) (k:kitOne K (.ref C) u=some b) (q:Q (.bl b) H):zaH K [.ref a,c] H Q :=
 ⟨_,_,_,_,rfl,.exc h f,.inl ⟨u,hu,k⟩,q⟩
def ze0 {a:Addr} (h:H a=some (.tup xs)) (q:Q (.bl true) H):zaH K [.ref a,.ty "tuple"] H Q:=⟨_,_,_,_,rfl,.old (.tup h),.inl ⟨_,rfl,VQ⟩,q⟩
def Wj {a b:Addr} {xs ys:Ao} (h1:SqL K H a xs) (h2:SqL K H b ys) (hl:xs.length + ys.length<=sizeLine) (q:∀ p,H p=none->Q (.ref p) (upd H p (.lst (xs ++ ys)))):Vq K (.ref a) (.ref b) H Q :=
 show zdh K _ _ H Q from ⟨a,b,xs,ys,rfl,rfl,h1,h2,hl,q⟩
def wK {n:Nat} (h:n<=1000):n<=sizeLine:=bV (zi h)
def qt {a:Addr} {DN:St->Hp->Prop} {B:(St->Hp->Prop)->V->St->Hp->Prop} (Pv:Nat->St->Hp->Prop) (h0:Pv 0 σ H) (hl:∀ i σ H,i<=xs.length->Pv i σ H->SqL K H a xs)
  (hs:∀ i x σ H,xs[i]?=some x->Pv i σ H->B (Pv (i + 1)) x σ H) (hd:∀ σ H,Pv xs.length σ H->DN σ H) :
  ∃ W:Nat->Nat->St->Hp->Prop,(∃ m,W 0 m σ H)/\∀ i m σ H,W i m σ H ->
   ((Itl K a).stop i H/\DN σ H)\/((Itl K a).go i H/\∃ N:St->Hp->Prop,(∀ σ' H',N σ' H'->∃ m',m' < m/\W (i + 1) m' σ' H')/\∀ x H',(Itl K a).yld i H x H'->B N x σ H'):=by
 refine ⟨λ i m σ H=>m=xs.length - i/\i<=xs.length/\Pv i σ H,⟨xs.length,by simp,bU _,h0⟩,?_⟩;rintro i m σ H ⟨rfl,hi,p⟩;have q:=hl i σ H hi p;by_cases hlt:i < xs.length
 ·refine .inr ⟨⟨xs,xs[i],q,by simp [hlt]⟩,Pv (i + 1),λ σ' H' p'=>⟨xs.length - (i + 1),by lia,rfl,hlt,p'⟩,λ x H' y=>?_⟩;obtain ⟨e,y⟩:=y;subst e;exact hs i x σ _ (y xs q) p
 ·have e:i=xs.length:=by lia
  subst e;exact .inl ⟨⟨xs,q,ap _⟩,hd σ H p⟩
def zgU {a:Addr} {DN:St->Hp->Prop} {B:(St->Hp->Prop)->V->St->Hp->Prop} (Pv:Nat->St->Hp->Prop) (h0:Pv 0 σ H) (hl:∀ i σ H,i<=xs.length->Pv i σ H->SqT K H a xs)
  (hs:∀ i x σ H,xs[i]?=some x->Pv i σ H->B (Pv (i + 1)) x σ H) (hd:∀ σ H,Pv xs.length σ H->DN σ H) :
  ∃ W:Nat->Nat->St->Hp->Prop,(∃ m,W 0 m σ H)/\∀ i m σ H,W i m σ H ->
   ((Itt K a).stop i H/\DN σ H)\/((Itt K a).go i H/\∃ N:St->Hp->Prop,(∀ σ' H',N σ' H'->∃ m',m' < m/\W (i + 1) m' σ' H')/\∀ x H',(Itt K a).yld i H x H'->B N x σ H'):=by
 refine ⟨λ i m σ H=>m=xs.length - i/\i<=xs.length/\Pv i σ H,⟨xs.length,by simp,bU _,h0⟩,?_⟩;rintro i m σ H ⟨rfl,hi,p⟩;have q:=hl i σ H hi p;by_cases hlt:i < xs.length
 ·refine .inr ⟨⟨xs,xs[i],q,by simp [hlt]⟩,Pv (i + 1),λ σ' H' p'=>⟨xs.length - (i + 1),by lia,rfl,hlt,p'⟩,λ x H' y=>?_⟩;obtain ⟨e,y⟩:=y;subst e;exact hs i x σ _ (y xs q) p
 ·have e:i=xs.length:=by lia
  subst e;exact .inl ⟨⟨xs,q,ap _⟩,hd σ H p⟩
def Z9 {lo:Int} {n:Nat} {DN:St->Hp->Prop} {B:(St->Hp->Prop)->V->St->Hp->Prop} (Pv:Nat->St->Hp->Prop) (h0:Pv 0 σ H)
  (hs:∀ i σ H,i < n->Pv i σ H->B (Pv (i + 1)) (.int (lo + i)) σ H) (hd:∀ σ H,Pv n σ H->DN σ H) :
  ∃ W:Nat->Nat->St->Hp->Prop,(∃ m,W 0 m σ H)/\∀ i m σ H,W i m σ H ->
   ((Itr lo n).stop i H/\DN σ H)\/((Itr lo n).go i H/\∃ N:St->Hp->Prop,(∀ σ' H',N σ' H'->∃ m',m' < m/\W (i + 1) m' σ' H')/\∀ x H',(Itr lo n).yld i H x H'->B N x σ H'):=by
 refine ⟨λ i m σ H=>m=n - i/\i<=n/\Pv i σ H,⟨n,by simp,bU _,h0⟩,?_⟩;rintro i m σ H ⟨rfl,hi,p⟩;by_cases hlt:i < n
 ·refine .inr ⟨hlt,Pv (i + 1),λ σ' H' p'=>⟨n - (i + 1),by lia,rfl,hlt,p'⟩,λ x H' y=>?_⟩;obtain ⟨e,y⟩:=y;subst e y;exact hs i σ _ hlt p
 ·have e:i=n:=by lia
  subst e;exact .inl ⟨ap _,hd σ H p⟩
def zfL {a b:Addr} (h1:SqT K H a xs) (h2:SqT K H b xs) (hf:xs.all xE=true) (hs:jU xs xs=true) (q:Q (.bl true) H):Q5 K (.ref a) (.ref b) H Q :=
 .inr (.inl ⟨a,b,xs,xs,rfl,rfl,.inr ⟨h1,h2⟩,hf,hf,by rw [hs];exact q⟩)
def vI {a:Addr} {lo hi:A9} (h:SqL K H a xs) (q:∀ p,H p=none->Q (.ref p) (upd H p (.lst (Zs xs lo hi)))):zfM K (.ref a) lo hi H Q:=⟨a,xs,rfl,h,q⟩
def upd_keep {a b:Addr} {o u:HO} (h:H b=some u) (ha:H a=none):upd H a o b=some u:=by rw [mw (my h ha)];exact h
def mz:=@upd_keep
def zf {a:Addr} {o:HO} (ha:H a=none):Same H (upd H a o):=λ _ _ h=>mz h ha
def rd_ixT {a:Addr} (h:H a=some (.tup xs)) (e:atI xs i=some v) (q:Q v H):rIx K (.ref a) (.int i) H Q:=.inr (.inl ⟨a,xs,i,v,rfl,rfl,SqT.of h,e,q⟩)
def mB:=@rd_ixT
def zq {a:Addr} (h:SqL K H a xs) (e:atI xs i=some v) (q:Q v H):rIx K (.ref a) (.int i) H Q:=.inl ⟨a,xs,i,v,rfl,rfl,h,e,q⟩
def zhh {N0:St->Hp->Prop} {B:(St->Hp->Prop)->Prop} (h:B N0):∃ N:St->Hp->Prop,(∀ σ' H',N σ' H'->N0 σ' H')/\B N:=⟨N0,λ _ _ h=>h,h⟩
end
end L2
set_option hygiene false
local macro_rules | `(tactic| walk_at "v")=>`(tactic| exact ⟨rfl,by first|exact Or.inl rfl|exact Or.inr (Or.inl rfl)|exact Or.inr (Or.inr rfl),by decide,by decide⟩)
local macro_rules | `(tactic| walk_at "g") => do
 let f:=fun (s:String)=>Lean.mkIdent (if s.front == '.' then "L2"++s else s).toName
 let a ← (".start .tSIn .tSGet .sSPut .tSNew .tB .rd_mc .rd_mn bg c9 List.cons_append List.nil_append .tSeq .tAsg .gName .tC .tOp .tUn .tTest .tIfS .tRet .tNext .tDrop .tNot .tAnd .tOr .tAndV .tOrV .tNotV .tCons .tNil .tTup .tLst .tBi .tBl .tVar ↓.rd_vq .rd_vq ↓.rd_iq .rd_iq ↓.rd_bq .rd_bq ↓.rd_nq .rd_nq ↓.rd_lq .rd_lq ↓.rd_itT .rd_itT ↓.rd_itF .rd_itF ↓.rd_is0 .rd_is0 ↓.rd_is1 .rd_is1 ↓.rd_is2 .rd_is2 ↓.rd_in0 .rd_in0 ↓.rd_in1 .rd_in1 ↓.rd_in2 .rd_in2 .rI .rI0 .rU .rT .ipI .tTru .rd_trB .rd_trI .rd_trR .rd_trS .rd_addI .rd_addS .rd_eqI .rd_neI .rd_eqS .rd_eqB .rd_eTI .rd_eTS .rd_eTB .rd_eTR .rd_nTI .rd_nTR .rd_nTS .rd_nTB .rd_fvI .rd_strS .rd_sz0 .rd_sz1 .rd_sz2 .rd_sz3 .rd_sz4 .rd_sz5 .rd_sz6 .rd_sz7 .gSub .rd_sz8 .rd_sz9 .cx_K .cx_mg .cx_prog .cx_w .cx_base .gTup .gCons .gNil .tCl .tGl .tChain .tRaise .tTryAs .sFld .tFld .tMk .tMth .tBM .tSl .tNoPart .tPart .tClN .tClH .tMkN .tMthN .tBase .tYes .tRg1 .tIf .cxC_K .cxC_mg .cxC_prog .cxC_w .cxC_base eq_self reduceCtorEq decide_false ci d5 List.getElem?_cons_zero List.getElem?_cons_succ List.set_cons_zero List.set_cons_succ List.replicate Nat.reduceSub Nat.reduceAdd true_and and_true .rd_cpow Int.reduceToNat Int.reducePow Int.reduceLT Int.reduceLE Int.reduceNeg .fdiv_pos .rd_isiI .rd_isiIB .rd_isiB .rd_isiS cn Bool.not_false aO reduceIte decide_true bJ Bool.true_eq_false Bool.not_eq_true' decide_eq_false_iff_not .rd_c0 .rd_c1 .rd_c2 .rd_c3 .rd_c4 .rd_c5 .rd_c6 Int.reduceEq not_true_eq_false not_false_eq_true Int.reduceMul Int.reduceAdd Int.reduceSub".splitOn " ").toArray.mapM fun s=>if s.front == '↓' then `(Lean.Parser.Tactic.simpLemma| ↓$(f (s.drop 1).toString):term) else `(Lean.Parser.Tactic.simpLemma| $(f s):term)
 `(tactic| (simp only [$a,*]))
local macro_rules | `(tactic| walk_at "r")=>`(tactic| try walk_at "g")
local macro_rules | `(tactic| walk_at "n")=>`(tactic| (refine L2.rd_ixT (by assumption) rfl ?_;try walk_at "g"))
local macro_rules | `(tactic| walk_at "l")=>`(tactic| first|assumption|exact L2.mul_okR (by decide) (by decide)|exact L2.mul_okL (by decide) (by decide)|exact L2.mul_okR (by lia) (by lia)|exact L2.mul_okL (by lia) (by lia)|exact L2.fd_ok (by decide) (by decide +kernel)|decide|lia|exact L2.fd_small (by lia) (by lia))
local macro_rules | `(tactic| walk_at "f")=>`(tactic| repeat (refine And.intro (by walk_at "l") ?_))
local macro_rules | `(tactic| walk_at "e")=>`(tactic| (walk_at "a";(try simp only [L2.tFor,L2.iSeq,L2.iRng1,L2.iRng3,L2.iEnum]);try walk_at "g"))
local macro_rules | `(tactic| walk_at "d")=>`(tactic| (walk_at "a";(try simp only [L2.tLc,L2.iSeq,L2.stC,L2.iRng1,L2.iRng3,L2.iEnum]);try walk_at "g"))
local macro_rules | `(tactic| walk_at "a")=>`(tactic| repeat (first|walk_at "g" | refine And.intro (by assumption) ?_|refine L2.nxt λ Nq_ hNq_=>?_|refine L2.useN (by assumption) ?_))
local macro_rules | `(tactic| walk_at "m")=>`(tactic| first|assumption|exact aZ (by assumption)|exact L2.ne_of_none (by assumption) (by assumption)|exact aZ (L2.ne_of_none (by assumption) (by assumption)))
local macro_rules | `(tactic| walk_at "h")=>`(tactic| first|assumption|exact L2.upd_same|(refine L2.upd_keep ?_ (by assumption);walk_at "h")|(rw [L2.upd_ne (by walk_at "m")];walk_at "h"))
set_option hygiene false
local macro_rules | `(tactic| walk_at "i")=>`(tactic| (intro vs H Q E h;first|(cases h;subst_vars;rfl)|repeat (first|(obtain ⟨rfl,_⟩:=h;rfl)|obtain ⟨_,h⟩:=h)))
local macro_rules | `(tactic| walk_at "j")=>`(tactic| intro cdv A outer s H vs Q EX hr h)
local macro_rules | `(tactic| walk_at "k")=>`(tactic| intro cdv A outer s H vs Q E hr h)
seal L2.PE L2.PT L2.PA L2.PS L2.PSs L2.PC L2.PG L2.PGs L2.PI L2.PO L2.PK
namespace K27
open PySem L2 Mine
local macro_rules | `(tactic| exists $t)=>`(tactic| (walk_at "a";refine $t))
local macro_rules | `(tactic| left)=>`(tactic| walk_at "a")
local macro_rules | `(tactic| right)=>`(tactic| first|decide +kernel|kernel_rfl)
local macro_rules | `(tactic| symm)=>`(tactic| decide +kernel)
local macro_rules | `(tactic| ext)=>`(tactic| (clear l9 m8;subst m5))
local macro_rules | `(‹$f $x*›)=>`((zv ⟨rfl,rfl,rfl⟩ hr (za $f $x*)))
variable {H:Hp} {p:A5} {bs:A1} {v:V} {i k:Nat} {vs xs:Ao} {b x C l:Addr} {n:Int} {K:A0} {fs:Aq} {o:HO} {Q:VK} {ns outs:A6} {ps:A8} {wd:Wd}
noncomputable def top (i:Nat):Stmt:=PySem.Challenge.pw_beltshares_k27_the_round.main.body.getD i (.Pass ⟨0,0,0,0⟩)
local macro_rules | `(tactic| walk_at "c")=>`(tactic| exact ⟨rfl,rfl,rfl,by symm,rfl,by symm,by symm⟩)
noncomputable abbrev qP:Stmt:=zR (top 13) 0
def JX:FnScope ["self","turn","cells","sides","gone"] ["self","turn","cells","sides","gone"] (ze qP):=by walk_at "c"
noncomputable abbrev ZI:Stmt:=top 14
def zap:FnScope ["work","ware","kinds"] ["work","ware"] (ze ZI):=by walk_at "c"
noncomputable abbrev wm:Stmt:=top 15
def X9:FnScope ["knot"] ["knot"] (ze wm):=by walk_at "c"
noncomputable abbrev qR:Stmt:=top 16
def QT:FnScope ["work","cells","sides"] ["work"] (ze qR):=by walk_at "c"
noncomputable abbrev jX:Stmt:=top 17
def Qh:FnScope ["state"] ["state"] (ze jX):=by walk_at "c"
noncomputable abbrev xO:Stmt:=top 19
def Ve:FnScope ["work","cells"] ["work","cells"] (ze xO):=by walk_at "c"
noncomputable abbrev xP:Stmt:=top 20
def JS:FnScope ["work","state","number"] ["work","state","number"] (ze xP):=by walk_at "c"
noncomputable abbrev jV:Stmt:=top 21
def Vb:FnScope ["work","state","beat_place","kinds","places"] ["work","state"] (ze jV):=by walk_at "c"
noncomputable abbrev xl:Stmt:=zR (top 25) 0
def Wg:FnScope ["self","room","pace"] ["self","room","pace"] (ze xl):=by walk_at "c"
noncomputable abbrev xS:Stmt:=top 30
def JV:FnScope ["pace","least"] ["pace","least"] (ze xS):=by walk_at "c"
noncomputable abbrev xT:Stmt:=top 31
def JW:FnScope ["kind"] ["kind"] (ze xT):=by walk_at "c"
noncomputable abbrev xQ:Stmt:=top 32
def JT:FnScope ["belts"] ["belts"] (ze xQ):=by walk_at "c"
noncomputable abbrev xt:Stmt:=top 33
def QS:FnScope ["wanted","side","step","place"] ["wanted","side"] (ze xt):=by walk_at "c"
noncomputable abbrev jp:Stmt:=top 34
def vX:FnScope ["head","free","side"] ["head","free","side"] (ze jp):=by walk_at "c"
noncomputable abbrev qF:Stmt:=zR (top 35) 0
def Wf:FnScope ["self","ins","outs"] ["self","ins","outs"] (ze qF):=by walk_at "c"
noncomputable abbrev jt:Stmt:=zR (top 36) 0
def QV:FnScope ["self","out","pace","kinds","kind"] ["self","out","pace","kinds"] (ze jt):=by walk_at "c"
noncomputable abbrev jE:Stmt:=zR (top 36) 1
def ZC:FnScope ["self","heads","free","turn","side"] ["self","heads","free","turn","side"] (ze jE):=by walk_at "c"
noncomputable abbrev jD:Stmt:=zR (top 36) 2
def ZB:FnScope ["self"] ["self"] (ze jD):=by walk_at "c"
noncomputable abbrev jM:Stmt:=zR (top 37) 0
def JZ:FnScope ["self","into","pace"] ["self","into","pace"] (ze jM):=by walk_at "c"
noncomputable abbrev j6:Stmt:=zR (top 37) 1
def Qm:FnScope ["self","heads","free","turn","side"] ["self","heads","free","turn","side"] (ze j6):=by walk_at "c"
noncomputable abbrev j5:Stmt:=zR (top 37) 2
def Ql:FnScope ["self"] ["self"] (ze j5):=by walk_at "c"
noncomputable abbrev ju:Stmt:=zR (top 38) 0
def QW:FnScope ["self","into","outs"] ["self","into","outs"] (ze ju):=by walk_at "c"
noncomputable abbrev jG:Stmt:=zR (top 38) 1
def ZE:FnScope ["self","heads","free","turn","side","place"] ["self","heads","free","turn","side"] (ze jG):=by walk_at "c"
noncomputable abbrev jF:Stmt:=zR (top 38) 2
def ZD:FnScope ["self"] ["self"] (ze jF):=by walk_at "c"
noncomputable abbrev qu:Stmt:=zR (top 39) 0
def wZ:FnScope ["self","into","outs"] ["self","into","outs"] (ze qu):=by walk_at "c"
noncomputable abbrev qH:Stmt:=zR (top 39) 1
def wc:FnScope ["self","heads","free","turn","side","place"] ["self","heads","free","turn","side"] (ze qH):=by walk_at "c"
noncomputable abbrev qG:Stmt:=zR (top 39) 2
def wb:FnScope ["self"] ["self"] (ze qG):=by walk_at "c"
noncomputable abbrev jL:Stmt:=zR (top 40) 0
def JY:FnScope ["self","into","outs","kind"] ["self","into","outs","kind"] (ze jL):=by walk_at "c"
noncomputable abbrev jZ:Stmt:=zR (top 40) 1
def Qk:FnScope ["self","heads","free","turn","side","place"] ["self","heads","free","turn","side"] (ze jZ):=by walk_at "c"
noncomputable abbrev jg:Stmt:=zR (top 40) 2
def vD:FnScope ["self","kind"] ["self","kind"] (ze jg):=by walk_at "c"
noncomputable abbrev jY:Stmt:=zR (top 40) 3
def Qj:FnScope ["self"] ["self"] (ze jY):=by walk_at "c"
noncomputable abbrev jv:Stmt:=zR (top 41) 0
def QX:FnScope ["self","ins","out"] ["self","ins","out"] (ze jv):=by walk_at "c"
noncomputable abbrev qU:Stmt:=zR (top 41) 1
def ZG:FnScope ["self","heads","free","turn","side","place"] ["self","heads","free","turn","side"] (ze qU):=by walk_at "c"
noncomputable abbrev jH:Stmt:=zR (top 41) 2
def ZF:FnScope ["self"] ["self"] (ze jH):=by walk_at "c"
noncomputable abbrev jW:Stmt:=top 43
def Vf:FnScope ["work","state","knot","ends"] ["work","state","knot"] (ze jW):=by walk_at "c"
noncomputable abbrev xM:Stmt:=top 44
def JQ:FnScope ["state","number","from_belt","ware"] ["state","number","from_belt"] (ze xM):=by walk_at "c"
noncomputable abbrev ZJ:Stmt:=top 45
def zaq:FnScope ["belts","place"] ["belts","place"] (ze ZJ):=by walk_at "c"
noncomputable abbrev jC:Stmt:=top 46
def ZA:FnScope ["knot","chosen"] ["knot","chosen"] (ze jC):=by walk_at "c"
noncomputable abbrev Vk:Stmt:=top 47
def zfI:FnScope ["work","state","number","knot","free","chosen","from_belt","to_belt","ware"] ["work","state","number"] (ze Vk):=by walk_at "c"
noncomputable abbrev ZK:Stmt:=top 48
def zar:FnScope ["work","state","moves","number","move"] ["work","state"] (ze ZK):=by walk_at "c"
noncomputable abbrev wn:Stmt:=top 49
def Wa:FnScope ["cells","place"] ["cells"] (ze wn):=by walk_at "c"
noncomputable abbrev xh:Stmt:=top 50
def X8:FnScope ["work","state","moves","number","belt"] ["work","state"] (ze xh):=by walk_at "c"
noncomputable abbrev vE:Stmt:=top 51
def Vd:FnScope ["work","state","after"] ["work","state"] (ze vE):=by walk_at "c"
noncomputable abbrev xN:Stmt:=top 53
def JR:FnScope ["work","limit","state","state_by_shape","turn","shape"] ["work","limit"] (ze xN):=by walk_at "c"
noncomputable abbrev qX:Stmt:=top 54
def Vc:FnScope ["work","limit","ends"] ["work","limit"] (ze qX):=by walk_at "c"
noncomputable abbrev vY:Stmt:=top 56
def zb7:FnScope ["one","other","part","rest","left"] ["one","other"] (ze vY):=by walk_at "c"
noncomputable abbrev ZH:Stmt:=top 57
def zao:FnScope ["paces","number","pace"] ["paces"] (ze ZH):=by walk_at "c"
noncomputable abbrev xR:Stmt:=top 61
def JU:FnScope ["belts","knots"] ["belts","knots"] (ze xR):=by walk_at "c"
noncomputable abbrev je:Stmt:=top 62
def vC:FnScope ["named","size"] ["named","size"] (ze je):=by walk_at "c"
noncomputable abbrev jc:Stmt:=zR (top 63) 0
def Wb:FnScope ["self","belts","knots","fed","taken","knot"] ["self","belts","knots"] (ze jc):=by walk_at "c"
noncomputable abbrev js:Stmt:=zR (top 63) 3
def QU:FnScope ["self"] ["self"] (ze js):=by walk_at "c"
noncomputable abbrev jf:Stmt:=zR (top 63) 4
def Qi:FnScope ["self"] ["self"] (ze jf):=by walk_at "c"
noncomputable abbrev xk:Stmt:=zR (top 63) 5
def Wc:FnScope ["self","paces","number","pace"] ["self"] (ze xk):=by walk_at "c"
noncomputable abbrev zaA:Stmt:=top 65
def zev:FnScope ["_law_script","_law_k"] ["_law_script","_law_k"] (ze zaA):=by walk_at "c"
noncomputable abbrev vF:Stmt:=top 66
def Vg:FnScope ["_law_cell","_law_factor"] ["_law_cell","_law_factor"] (ze vF):=by walk_at "c"
noncomputable abbrev ZL:Stmt:=top 67
def zas:FnScope ["_law_found"] ["_law_found"] (ze ZL):=by walk_at "c"
noncomputable abbrev Q1:Stmt:=top 68
def zcb:FnScope ["_law_belts","_law_number","_law_span","_law_room"] ["_law_belts","_law_number","_law_span"] (ze Q1):=by walk_at "c"
noncomputable abbrev xU:Stmt:=top 69
def Vh:FnScope ["_law_out","_law_cell","_law_number","_law_span","_law_many","_law_kinds_here"] ["_law_out","_law_cell","_law_number","_law_span"] (ze xU):=by walk_at "c"
noncomputable abbrev ZP:Stmt:=top 70
def zay:FnScope ["_law_into","_law_number","_law_span"] ["_law_into","_law_number","_law_span"] (ze ZP):=by walk_at "c"
noncomputable abbrev QZ:Stmt:=top 71
def zb9:FnScope ["_law_knots","_law_cell","_law_number","_law_known","_law_knot"] ["_law_knots","_law_cell","_law_number"] (ze QZ):=by walk_at "c"
noncomputable abbrev vH:Stmt:=top 72
def Vj:FnScope ["_law_belts","_law_ends","_law_loops","_law_into","_law_cell","_law_span","_law_number","_law_ins","_law_k"] ["_law_belts","_law_ends","_law_loops","_law_into","_law_cell","_law_span"] (ze vH):=by walk_at "c"
noncomputable abbrev vG:Stmt:=top 73
def Vi:FnScope ["_law_into","_law_outs","_law_kind_here","_law_what"] ["_law_into","_law_outs","_law_kind_here","_law_what"] (ze vG):=by walk_at "c"
noncomputable abbrev Q0:Stmt:=top 74
def zca:FnScope ["_law_belts","_law_knots","_law_ends","_law_loops","_law_cell","_law_span","_law_number","_law_what","_law_into","_law_outs","_law_many","_law_k","_law_factor"] ["_law_belts","_law_knots","_law_ends","_law_loops","_law_cell","_law_span"] (ze Q0):=by walk_at "c"
noncomputable abbrev ZQ:Stmt:=top 75
def zaz:FnScope ["_law_belts","_law_knots","_law_ends","_law_loops","_law_cell","_law_span","_law_k","_law_loop","_law_number","_law_into","_law_outs","_law_end"] ["_law_belts","_law_knots","_law_ends","_law_loops","_law_cell","_law_span"] (ze ZQ):=by walk_at "c"
noncomputable abbrev vZ:Stmt:=top 76
def zb8:FnScope ["_law_script","_law_first","_law_number","_law_span","_law_many","_law_ring","_law_counts","_law_kinds_here","_law_lanes","_law_belts","_law_knots","_law_ends","_law_loops","_law_cell","_law_cut"] ["_law_script"] (ze vZ):=by walk_at "c"
noncomputable abbrev ZN:Stmt:=top 77
def zaw:FnScope ["_law_script","_law_work_here","_law_number"] ["_law_script","_law_work_here"] (ze ZN):=by walk_at "c"
noncomputable abbrev ZM:Stmt:=top 78
def zau:FnScope ["_law_work_here","_law_limit_here","_law_told"] ["_law_work_here","_law_limit_here"] (ze ZM):=by walk_at "c"
noncomputable abbrev wp:Stmt:=top 79
def zcc:FnScope ["_law_work_here","_law_paces","_law_knot","_law_beat_here"] ["_law_work_here"] (ze wp):=by walk_at "c"
noncomputable abbrev ZO:Stmt:=top 80
def zax:FnScope ["_law_work_here","_law_cells","_law_row","_law_ware","_law_kinds_here"] ["_law_work_here","_law_cells"] (ze ZO):=by walk_at "c"
noncomputable abbrev wL:Stmt:=top 81
def zat:FnScope ["_law_work_here","_law_state","_law_beat_here","_law_counts","_law_k","_law_knot","_law_belts"] ["_law_work_here","_law_state","_law_beat_here"] (ze wL):=by walk_at "c"
noncomputable abbrev wM:Stmt:=top 82
def zav:FnScope ["_law_e"] ["_law_e"] (ze wM):=by walk_at "c"
noncomputable abbrev wo:Stmt:=top 83
def We:FnScope ["_law_work_here","_law_limit_here","_law_other_here","_law_e"] ["_law_work_here","_law_limit_here"] (ze wo):=by walk_at "c"
noncomputable abbrev QY:Stmt:=top 84
def zfH:FnScope ["_law_script","_law_work_here","_law_limit_here","_law_beat_here","_law_state","_law_shapes","_law_turn","_law_found","_law_begin","_law_ending","_law_due"] ["_law_script"] (ze QY):=by walk_at "c"
local macro_rules | `(tactic| walk_at "T")=>`(tactic| (have lK:=T.lK;have fU:=T.fU;have kP:=T.kP;have kT:=T.kT;have kU:=T.kU;have gU:=T.gU;have iz:=T.iz;have kD:=T.kD;have lY:=T.lY;have lM:=T.lM;have iK:=T.iK;have lZ:=T.lZ;have gW:=T.gW;have lD:=T.lD))
structure Ad where
 b:Addr
 c:Addr
 d:Addr
 e:Addr
 f:Addr
 g:Addr
 h:Addr
 i:Addr
 j:Addr
 k:Addr
 l:Addr
 m:Addr
 n:Addr
 o:Addr
 p:Addr
 q:Addr
 r:Addr
 s:Addr
 t:Addr
 u:Addr
abbrev KOy (K:A0) (c d:Addr) (b:Bool):Prop:=kitOne K (.ref c) (.ref d)=some b
structure Txt (K:A0) (mg:A4) (a:Ad):Prop where
 kW:FA K mg "kind_of" ZI ["work","ware"]
 km:FA K mg "no_counts" wm ["knot"]
 iL:FA K mg "empty_state" qR ["work"]
 iB:FA K mg "copied_state" jX ["state"]
 kG:FA K mg "kinds_in" xO ["work","cells"]
 iU:FA K mg "kind_place" xP ["work","state","number"]
 kH:FA K mg "shape_of" jV ["work","state"]
 iV:FA K mg "check_pace" xS ["pace","least"]
 iW:FA K mg "check_kind" xT ["kind"]
 iX:FA K mg "check_ways" xQ ["belts"]
 iM:FA K mg "first_place" xt ["wanted","side"]
 gS:FA K mg "place_for_ware" jp ["head","free","side"]
 kI:FA K mg "heads_of" jW ["work","state","knot"]
 iY:FA K mg "taken_ware" xM ["state","number","from_belt"]
 kX:FA K mg "belt_at" ZJ ["belts","place"]
 hW:FA K mg "counted_place" jC ["knot","chosen"]
 l7:FA K mg "act" Vk ["work","state","number"]
 kY:FA K mg "act_all" ZK ["work","state"]
 ko:FA K mg "move_belt" wn ["cells"]
 kq:FA K mg "pass_turn" xh ["work","state"]
 kJ:FA K mg "one_turn" vE ["work","state"]
 iZ:FA K mg "round_ends" xN ["work","limit"]
 iJ:FD K mg "round_of" qX ["work","limit"] [.int 200]
 lE:FA K mg "common" vY ["one","other"]
 kZ:FA K mg "lasting" ZH ["paces"]
 i5:FA K mg "check_size" xR ["belts","knots"]
 gO:FA K mg "check_each_once" je ["named","size"]
 l0:FA K mg "_law_at" zaA ["_law_script","_law_k"]
 kK:FA K mg "_law_spread" vF ["_law_cell","_law_factor"]
 k8:FA K mg "_law_whole" ZL ["_law_found"]
 lF:FA K mg "_law_belt" Q1 ["_law_belts","_law_number","_law_span"]
 kM:FA K mg "_law_source" xU ["_law_out","_law_cell","_law_number","_law_span"]
 k9:FA K mg "_law_drain" ZP ["_law_into","_law_number","_law_span"]
 lG:FA K mg "_law_kind" QZ ["_law_knots","_law_cell","_law_number"]
 kN:FA K mg "_law_joined" vH ["_law_belts","_law_ends","_law_loops","_law_into","_law_cell","_law_span"]
 kO:FA K mg "_law_parted" vG ["_law_into","_law_outs","_law_kind_here","_law_what"]
 lH:FA K mg "_law_grow" Q0 ["_law_belts","_law_knots","_law_ends","_law_loops","_law_cell","_law_span"]
 ld:FA K mg "_law_close" ZQ ["_law_belts","_law_knots","_law_ends","_law_loops","_law_cell","_law_span"]
 lI:FA K mg "_law_work" vZ ["_law_script"]
 lh:FA K mg "_law_limit" ZN ["_law_script","_law_work_here"]
 lj:FA K mg "_law_round" ZM ["_law_work_here","_law_limit_here"]
 lJ:FA K mg "_law_beat" wp ["_law_work_here"]
 ll:FA K mg "_law_kinds" ZO ["_law_work_here","_law_cells"]
 lw:FA K mg "_law_shape" wL ["_law_work_here","_law_state","_law_beat_here"]
 hX:FA K mg "_law_other" wM ["_law_e"]
 kr:FA K mg "_law_refused" wo ["_law_work_here","_law_limit_here"]
 lK:mg "list"=none
 fU:mg "len"=none
 kP:mg "max"=none
 kT:mg "tuple"=none
 kU:mg "range"=none
 gU:mg "isinstance"=none
 iz:mg "enumerate"=none
 kD:mg "sorted"=none
 lY:mg "int"=none
 lM:mg "bool"=none
 iK:mg "reversed"=none
 lZ:mg "all"=none
 gW:mg "ValueError"=none
 lD:mg "set"=none
 ku:mg "WorkError"=some (.ref a.b)
 ly:mg "NoRatio"=some (.ref a.c)
 i6:mg "BadBelt"=some (.ref a.d)
 f9:mg "BadKnot"=some (.ref a.e)
 hZ:mg "BadWork"=some (.ref a.f)
 lN:mg "BadRow"=some (.ref a.g)
 ia:mg "TooLong"=some (.ref a.h)
 kR:mg "BadPaces"=some (.ref a.i)
 lz:mg "TooMany"=some (.ref a.j)
 lO:mg "Moving"=some (.ref a.k)
 lU:mg "State"=some (.ref a.l)
 l5:mg "Belt"=some (.ref a.m)
 gC:mg "Source"=some (.ref a.o)
 kh:mg "Drain"=some (.ref a.p)
 lP:mg "Parter"=some (.ref a.q)
 iN:mg "FirstParter"=some (.ref a.r)
 lV:mg "Sieve"=some (.ref a.s)
 kF:mg "Joiner"=some (.ref a.t)
 l6:mg "Work"=some (.ref a.u)
 ad:Cls K a.l
 fI:NoAttr K a.l "turn"
 fH:NoAttr K a.l "cells"
 fN:NoAttr K a.l "sides"
 fQ:NoAttr K a.l "gone"
 i7:FK K a.l "State.__init__" qP ["self","turn","cells","sides","gone"]
 gq:Cls K a.m
 gD:NoAttr K a.m "room"
 fY:NoAttr K a.m "pace"
 kx:FK K a.m "Belt.__init__" xl ["self","room","pace"]
 fM:FB K mg "Knot" "__init__" "Knot.__init__" qF ["self","ins","outs"]
 fO:Cls K a.o
 fS:NoAttr K a.o "pace"
 fK:NoAttr K a.o "kinds"
 gX:NoAttr K a.o "ins"
 gf:NoAttr K a.o "outs"
 lQ:WI K a.o
 iO:FK K a.o "Source.__init__" jt ["self","out","pace","kinds"]
 ib:FM K a.o "choice" "Source.choice" jE ["self","heads","free","turn","side"]
 ic:FM K a.o "copied" "Source.copied" jD ["self"]
 fZ:Cls K a.p
 fR:NoAttr K a.p "pace"
 gE:NoAttr K a.p "ins"
 gY:NoAttr K a.p "outs"
 lW:WI K a.p
 i8:FK K a.p "Drain.__init__" jM ["self","into","pace"]
 iC:FM K a.p "choice" "Drain.choice" j6 ["self","heads","free","turn","side"]
 iD:FM K a.p "copied" "Drain.copied" j5 ["self"]
 gb:Cls K a.q
 gr:NoAttr K a.q "ins"
 fX:NoAttr K a.q "outs"
 lS:WI K a.q
 iP:FK K a.q "Parter.__init__" ju ["self","into","outs"]
 ie:FM K a.q "choice" "Parter.choice" jG ["self","heads","free","turn","side"]
 ig:FM K a.q "copied" "Parter.copied" jF ["self"]
 fP:Cls K a.r
 fV:NoAttr K a.r "ins"
 fT:NoAttr K a.r "outs"
 iQ:WI K a.r
 gG:FK K a.r "FirstParter.__init__" qu ["self","into","outs"]
 gu:FM K a.r "choice" "FirstParter.choice" qH ["self","heads","free","turn","side"]
 gv:FM K a.r "copied" "FirstParter.copied" qG ["self"]
 fW:Cls K a.s
 gw:NoAttr K a.s "kind"
 gF:NoAttr K a.s "ins"
 gx:NoAttr K a.s "outs"
 lX:WI K a.s
 i9:FK K a.s "Sieve.__init__" jL ["self","into","outs","kind"]
 iE:FM K a.s "choice" "Sieve.choice" jZ ["self","heads","free","turn","side"]
 gP:FM K a.s "place_for" "Sieve.place_for" jg ["self","kind"]
 iF:FM K a.s "copied" "Sieve.copied" jY ["self"]
 gc:Cls K a.t
 gd:NoAttr K a.t "ins"
 gg:NoAttr K a.t "outs"
 lT:WI K a.t
 iR:FK K a.t "Joiner.__init__" jv ["self","ins","out"]
 ij:FM K a.t "choice" "Joiner.choice" qU ["self","heads","free","turn","side"]
 ik:FM K a.t "copied" "Joiner.copied" jH ["self"]
 fG:Cls K a.u
 fJ:NoAttr K a.u "belts"
 fF:NoAttr K a.u "knots"
 ky:FK K a.u "Work.__init__" jc ["self","belts","knots"]
 iS:FM K a.u "drains" "Work.drains" js ["self"]
 iG:FM K a.u "sources" "Work.sources" jf ["self"]
 kz:FM K a.u "beat" "Work.beat" xk ["self"]
 kA:∃ t,mg "MOST_ROOM"=some (.int 6 t)
 iA:∃ t,mg "MOST_PACE"=some (.int 4 t)
 ka:∃ t,mg "MOST_KINDS"=some (.int 6 t)
 iT:∃ t,mg "FEWEST_WAYS"=some (.int 2 t)
 kB:∃ t,mg "MOST_WAYS"=some (.int 4 t)
 kb:∃ t,mg "MOST_BELTS"=some (.int 24 t)
 ke:∃ t,mg "MOST_KNOTS"=some (.int 24 t)
 lA:XC K a.d
 gi:XC K a.e
 lB:XC K a.h
 kS:XI K a.h
 kg:XC K a.f
 lC:subIn K (.ref a.h) (.type "BaseException")=some true
 ge:kitCls K (.ref a.h) (.ref a.h)=some true
 kC:subIn K (.ref a.b) (.type "BaseException")=some true
 gz:kitCls K (.ref a.h) (.ref a.b)=some true
 gZ:KOy K a.o a.t false
 io:KOy K a.p a.t false
 g6:KOy K a.q a.t false
 gj:KOy K a.r a.t false
 ip:KOy K a.s a.t false
 g7:KOy K a.t a.t true
 ir:KOy K a.o a.p false
 iH:KOy K a.p a.p true
 iu:KOy K a.q a.p false
 gy:KOy K a.r a.p false
 iI:KOy K a.s a.p false
 iw:KOy K a.t a.p false
 g8:KOy K a.o a.o true
 ix:KOy K a.p a.o false
 g9:KOy K a.q a.o false
 gk:KOy K a.r a.o false
 iy:KOy K a.s a.o false
 hJ:KOy K a.t a.o false
 gH:KOy K a.h a.c false
 gI:KOy K a.h a.d false
 gJ:KOy K a.h a.e false
 gL:KOy K a.h a.f false
 gQ:KOy K a.h a.g false
 gA:KOy K a.h a.i false
 gM:KOy K a.h a.j false
 gR:KOy K a.h a.k false
 gN:KOy K a.h a.h true
 gm:kitOne K (.ref a.h) (.type "ValueError")=some true
section
variable {P:Af} {w:World} {K:A0} {mg:A4} {base:Heap} {a:Ad} {f:Addr} {fd:FuncData}
def at0 {α:Type} {x:α} {xs:List α}:atI (x :: xs) 0=some x:=by
 have:=zL (xs:=x :: xs) (j:=0) rfl;simpa using this
noncomputable def iv (ns:A6):List V:=ns.map V.int
noncomputable def kf (l1 l2:Addr):List (Str × V):=z5 "outs" (.ref l2) (z5 "ins" (.ref l1) [])
def zf9 {l1 l2:Addr}:(kf l1 l2).lookup ("ins":Str)=some (.ref l1):=by
 unfold kf;rw [zZ,aq (by symm),zZ,aA rfl]
def zeY {l1 l2:Addr}:(kf l1 l2).lookup ("outs":Str)=some (.ref l2):=by
 unfold kf;rw [zZ,aA rfl]
def zaW {l1 l2:Addr}:(kf l1 l2).length < 1000:=by
 unfold kf;have:=xo "outs" (V.ref l2) (z5 "ins" (.ref l1) []);have:=xo "ins" (V.ref l1) [];simp at *;lia
def zgR {l1 l2:Addr} {m:Str} (h1:m≠"ins") (h2:m≠"outs"):(kf l1 l2).lookup m=none:=by
 unfold kf;rw [zZ,aq h2,zZ,aq h1];rfl
def Own (H H':Hp) (y:Addr):Prop:=∀ b o,b≠y->H b=some o->H' b=some o
def Same.own {H H':Hp} {y:Addr} (s:Same H H'):Own H H' y:=λ b o _ h=>s b o h
def Own.trans {H1 H2 H3:Hp} {y:Addr} (s:Own H1 H2 y) (t:Own H2 H3 y):Own H1 H3 y:=λ b o hb h=>t b o hb (s b o hb h)
def qV {y:Addr}:Own H (upd H y o) y:=λ b u hb h=>by rw [mw hb];exact h
def Own.of_new {H H':Hp} {y dx:Addr} {o p:HO} (hy:H y=none) (hd:H dx=none) (s:Own (upd (upd H dx o) y p) H' y):Same H H':=λ b u h =>
 s b u (my h hy) (by rw [mw (my h hy),mw (my h hd)];exact h)
def zG {p b:Addr} (h:upd H p o b=none):H b=none:=by
 by_cases e:b=p
 ·subst e;rw [mv] at h;cases h
 ·rw [mw e] at h;exact h
def QN (K:A0):Sp:=λ vs H Q _=>∃ (y C dx i o:Addr) (xs ys:Ao),vs=[.ref y,.ref i,.ref o]/\H y=some (.ins C dx [])/\Cls K C/\NoAttr K C "ins"/\NoAttr K C "outs"/\SqL K H i xs/\SqL K H o ys/\i≠y/\o≠y /\
 ∀ H' l1 l2,Own H H' y->H' y=some (.ins C dx (kf l1 l2))->H' l1=some (.lst xs)->H' l2=some (.lst ys)->H l1=none->H l2=none->Q .non H'
def zbk {H H':Hp} {y l:Addr} (h:SqL K H l xs) (s:Own H H' y) (hl:l≠y):SqL K H' l xs:=by
 rcases h with h|h
 ·refine .inl ?_;rcases h with h|⟨ob,h⟩
  ·exact .inl (s _ _ hl h)
  ·exact .inr ⟨ob,s _ _ hl h⟩
 ·exact .inr h
def Wp (T:Txt K mg a) (F:Fun K "__init__" "Knot.__init__" qF f fd):FnOk P w K mg base (CXr P w) 1 f fd ["self","ins","outs"] (QN K):=by
 refine F.okx Wf ?_ ?_
 ·walk_at "i"
 walk_at "k";refine oE7 h λ y C dx i o xs ys l9=>oA6 l9 λ m5 hy hC hN1 hN2 mh=>oA5 mh λ hi ho hiy hoy k=>?_;clear l9 mh h;subst m5;walk_at "T";refine ⟨_,(zh (jh (pq 0) (jz wW xq (za (pq 1) zb)) rfl)  (zc (jh (pq 0) (jz wW xq (za (pq 2) zb)) rfl))),?_⟩;exists iE2 i xs (iA3 rfl (.inl hi) (λ l1 h1=>?_));left;have y1:y≠l1:=my hy h1;refine iE4 y C dx ([]) (iA6 rfl (mz hy h1) hC hN1 (by decide) ?_);left;have s1:Own H (upd (upd H l1 (.lst xs)) y (.ins C dx (z5 "ins" (.ref l1) []))) y:=(Same.own (zf h1)).trans qV;refine iE2 o ys (iA3 rfl (.inl (zbk ho s1 hoy)) (λ l2 h2=>?_));left;have y2:y≠l2:=my mv h2;have l12:l1≠l2:=λ z=>by
  rw [<- z,mw (aZ y1),mv] at h2;cases h2
 refine iE4 y C dx _ (iA6 rfl (mz mv h2) hC hN2 (by show 1 < 1000;decide) ?_);refine k _ l1 l2 (s1.trans ((Same.own (zf h2)).trans qV)) mv ?_ ?_ h1 ?_
 ·rw [mw (aZ y1),mw l12,mw (aZ y1),mv]
 ·rw [mw (aZ y2),mv]
 ·rw [mw (aZ y2),mw (aZ l12)] at h2;exact h2
def fM (T:Txt K mg a):BCal P w K mg base "Knot" "__init__" 1 ["self","ins","outs"] [] (QN K):=T.fM.cal (Wp T)
def WX (K:A0) (a:Ad):Sp:=λ vs H Q E=>∃ (l:Addr) (xs:Ao),vs=[.ref l]/\SqL K H l xs/\if 2<=xs.length/\xs.length<=4 then Q .non H else E (.ref a.e) none H
def x6 (T:Txt K mg a):Cal P w K mg base "check_ways" 1 ["belts"] [] (WX K a):=T.iX.cal λ F=>by
 refine F.okx JT ?_ ?_
 ·walk_at "i"
 walk_at "k";refine oE2 h λ l xs l9=>oA3 l9 λ m5 hl k=>?_;clear l9 h;subst m5;walk_at "T";refine ⟨_,(zc (zx (qY (jy jJ jJ qC (zy zN zJ (za (pq 0) zb)) qC))  (zc (qI ⟨rfl,rfl,rfl⟩ rfl (za j9 zb)))  zm)),?_⟩;left;obtain ⟨t1,g1⟩:=T.iT;obtain ⟨t2,g2⟩:=T.kB;have bad:¬ (2<=xs.length/\xs.length<=4)->∃ C,mg "BadKnot"=some (Value.ref C)/\XC K C/\E (Value.ref C) none H:=λ h=>by
  rw [aq h] at k;exact ⟨a.e,iA3 T.f9 T.gi k⟩
 refine iE2 (.int 2) _ (iA3 g1 ⟨_,rfl⟩ ?_);exists ⟨_,.inl ⟨_,hl,rfl⟩,?_⟩;walk_at "r";refine zA (λ h1=>?_) (λ h1=>bad (by lia));refine iE2 (.int 4) _ (iA3 g2 ⟨_,rfl⟩ ?_);walk_at "r";refine zA (λ h2=>?_) (λ h2=>bad (by lia));rw [aA (by lia)] at k;exact k
def WZ (a:Ad):Sp:=λ vs H Q E=>∃ p q:Int,vs=[.int p,.int q]/\if q<=p/\p<=4 then Q .non H else E (.ref a.e) none H
def Zt (T:Txt K mg a):Cal P w K mg base "check_pace" 1 ["pace","least"] [] (WZ a):=T.iV.cal λ F=>by
 refine F.okx JV ?_ ?_
 ·walk_at "i"
 walk_at "k";refine oE2 h λ p q l9=>oA2 l9 λ m5 k=>?_;clear l9 h;subst m5;walk_at "T";refine ⟨_,(zc (zx (qY (jy jJ jJ (pq 1) (pq 0) qC))  (zc (qI ⟨rfl,rfl,rfl⟩ rfl (za j9 zb)))  zm)),?_⟩;left;obtain ⟨t1,g1⟩:=T.iA;have bad:¬ (q<=p/\p<=4)->∃ C,mg "BadKnot"=some (Value.ref C)/\XC K C/\E (Value.ref C) none H:=λ h=>by
  rw [aq h] at k;exact ⟨a.e,iA3 T.f9 T.gi k⟩
 refine zA (λ h1=>?_) (λ h1=>bad (by lia));refine iE2 (.int 4) _ (iA3 g1 ⟨_,rfl⟩ ?_);exists zA (λ h2=>?_) (λ h2=>bad (by lia));rw [aA (by lia)] at k;left;exact k
noncomputable abbrev jl:Int:=1000000000000000000000000000000
def Va (a:Ad):Sp:=λ vs H Q E=>∃ n:Int,vs=[.int n]/\if 0<=n/\n < jl then Q .non H else E (.ref a.e) none H
def Zu (T:Txt K mg a):Cal P w K mg base "check_kind" 1 ["kind"] [] (Va a):=T.iW.cal λ F=>by
 refine F.okx JW ?_ ?_
 ·walk_at "i"
 walk_at "k";obtain ⟨n,rfl,k⟩:=h;walk_at "T";refine ⟨_,(zc (zx (qY (jy jJ Zg zd (pq 0) zdk))  (zc (qI ⟨rfl,rfl,rfl⟩ rfl (za j9 zb)))  zm)),?_⟩;left;have bad:¬ (0<=n/\n < jl)->∃ C,mg "BadKnot"=some (Value.ref C)/\XC K C/\E (Value.ref C) none H:=λ h=>by
  rw [aq h] at k;exact ⟨a.e,iA3 T.f9 T.gi k⟩
 refine zA (λ h1=>?_) (λ h1=>bad (by lia));exists zA (λ h2=>?_) (λ h2=>bad (by unfold jl;lia));rw [aA (by unfold jl;lia)] at k;left;exact k
noncomputable def Ww (bs:Ah) (side:Nat):Nat->Nat->Option Nat
 | 0,_=>none
 | n + 1,k=>if bs.getD ((side + k) % bs.length) false=true then some ((side + k) % bs.length) else Ww bs side n (k + 1)
noncomputable def jr (bs:Ah) (side:Nat):Option Nat:=Ww bs side bs.length 0
noncomputable def w6:Option Nat->V
 | none=>.non
 | some n=>.int n
theorem zbF {bs:Ah} {side:Nat} (h:0 < bs.length):∀ {n k p:Nat},Ww bs side n k=some p->p < bs.length
 | 0,_,_,e=>by simp [Ww] at e
 | n + 1,k,p,e=>by
  unfold Ww at e
  split at e
  ·cases e;exact cI _ h
  ·exact zbF h e
def xF {bs:Ah} {side p:Nat} (e:jr bs side=some p):p < bs.length:=by
 by_cases h:0 < bs.length
 ·exact zbF h e
 ·unfold jr at e;rw [show bs.length=0 by lia] at e;simp [Ww] at e
def X4 (K:A0):Sp:=λ vs H Q _=>∃ (l:Addr) (bs:Ah) (side:Nat),vs=[.ref l,.int side]/\SqL K H l (bs.map V.bl)/\bs.length<=1000/\Q (w6 (jr bs side)) H
theorem vt (T:Txt K mg a):Cal P w K mg base "first_place" 1 ["wanted","side"] [] (X4 K):=T.iM.cal λ F=>by
 refine F.okx QS ?_ ?_
 ·walk_at "i"
 walk_at "k";obtain ⟨l,bs,side,rfl,hl,hb,k⟩:=h;walk_at "T";refine ⟨_,(zh (qq qS rfl (wu (za (zy zN zJ (za (pq 0) zb)) zb)) (qd 2 QS.nd)  (zh (zo 3 QS.nd (zw qa (zw zP (pq 1) (pq 2)) (zy zN zJ (za (pq 0) zb))))  (zc (zx (zK (zt (pq 0) (pq 3)) (λ _=>rfl))  (zc (zj (pq 3)))  zm))))  (zc (zj zz))),?_⟩;walk_at "e";exists ⟨_,.inl ⟨_,hl,rfl⟩,by lia,by rw [ah];lia,?_⟩;refine Z9 (λ i σ H'=>∃ v2 v3,σ=[some (.ref l),some (.int side),v2,v3]/\H'=H/\Q (w6 (Ww bs side (bs.length - i) i)) H) ⟨_,_,rfl,rfl,k⟩ ?_ ?_
 ·rintro i σ H' hi ⟨v2,v3,rfl,rfl,k⟩;have hi:i < bs.length:=by simpa using hi
  exists ⟨_,.inl ⟨_,hl,rfl⟩,?_⟩;walk_at "r";rw [ah];refine And.intro (by lia) ?_;have e:((side:Int) + (0 + (i:Int))) % (bs.length:Int)=(((side + i) % bs.length:Nat):Int):=by push_cast;rw [Int.zero_add]
  rw [e];have hlt:(side + i) % bs.length < bs.length:=cI _ (by lia);refine zq hl (zL (by rw [au,ae hlt];rfl)) ?_;walk_at "r";have em:bs.length - i=(bs.length - (i + 1)) + 1:=by lia
  rw [em,Ww] at k;have eg:bs.getD ((side + i) % bs.length) false=bs[(side + i) % bs.length]:=by simp [hlt]
  rw [eg] at k;cases hbb:bs[(side + i) % bs.length] with
  | true =>
   rw [hbb,aA rfl] at k;walk_at "r";exact k
  | false =>
   rw [hbb,aq (by decide)] at k;walk_at "r"
   first|exact ⟨_,_,rfl,rfl,k⟩|exact ⟨_,_,rfl,k⟩|exact k
 ·rintro σ H' ⟨v2,v3,rfl,rfl,k⟩;walk_at "r";simpa [Ww,w6] using k
def zaf (K:A0):Sp:=λ vs H Q _=>∃ (v:V) (l:Addr) (bs:Ah) (side:Nat),vs=[v,.ref l,.int side]/\SqL K H l (bs.map V.bl)/\bs.length<=1000/\Q (if v=.non then .non else w6 (jr bs side)) H
def xH (T:Txt K mg a):Cal P w K mg base "place_for_ware" 2 ["head","free","side"] [] (zaf K):=T.gS.cal λ F=>by
 refine F.okx vX ?_ ?_
 ·walk_at "i"
 walk_at "k";refine oE4 h λ v l bs side l9=>oA4 l9 λ m5 hl hb k=>?_;clear l9 h;subst m5;walk_at "T";refine ⟨_,(zc (zj (xC (zl qZ (pq 0) zz (zn _)) zz ‹(pq 1) (za (pq 2) zb)›))),?_⟩;exists zA (λ h=>?_) (λ h=>?_)
 ·rw [aA h] at k;walk_at "r";exact k
 ·rw [aq h] at k;walk_at "r";exact iE3 _ _ _ ⟨vt T,⟨l,bs,side,rfl,hl,hb,k⟩⟩
def qN (K:A0) (C CB:Addr):Sp:=λ vs H Q E=>∃ (y dx o:Addr) (into:V) (ys:Ao),vs=[.ref y,into,.ref o]/\H y=some (.ins C dx [])/\SqL K H o ys/\o≠y /\
 if 2<=ys.length/\ys.length<=4 then ∀ H' l1 l2,Own H H' y->H' y=some (.ins C dx (kf l1 l2))->H' l1=some (.lst [into])->H' l2=some (.lst ys)->H l1=none->H l2=none->Q .non H' else E (.ref CB) none H
def Jg (T:Txt K mg a) (F:Fun K "__init__" "Parter.__init__" ju f fd):FnOk P w K mg base (CXr P w) 2 f fd ["self","into","outs"] (qN K a.q a.e):=by
 refine F.okx QW ?_ ?_
 ·walk_at "i"
 walk_at "k";refine oE5 h λ y dx o into ys l9=>oA5 l9 λ m5 hy ho hoy k=>?_;clear l9 h;subst m5;walk_at "T";refine ⟨_,(zh (zp ‹(pq 2) zb›)  (zc (zp (wR ⟨rfl,rfl,rfl⟩ hr (za (pq 0) (za (zC (za (pq 1) zb)) (za (pq 2) zb))))))),?_⟩;exists iE3 _ _ _ ⟨x6 T,⟨o,ys,rfl,ho,zA (λ hok=>?_) (λ hok=>?_)⟩⟩
 ·rw [aA hok] at k;exists iE3 _ _ _ ⟨fM T,λ p hp=>(iE7 y a.q dx p o ([into]) ys (iA6 rfl (mz hy hp) T.gb T.gr T.fX (iA5 (SqL.of mv) ((zf hp).seq ho) ((my hy hp).symm) hoy (λ H' l1 l2 s h1 h2 h3 h4 h5=>?_))))⟩;exact k H' l1 l2 ((Same.own (zf hp)).trans s) h1 h2 h3 (zG h4) (zG h5)
 ·rw [aq hok] at k;exact k
def Ju (T:Txt K mg a):KCal P w K mg base "Parter" a.q 2 ["self","into","outs"] [] (qN K a.q a.e):=T.iP.cal T.lP (Jg T)
def w9 (T:Txt K mg a) (F:Fun K "__init__" "FirstParter.__init__" qu f fd):FnOk P w K mg base (CXr P w) 2 f fd ["self","into","outs"] (qN K a.r a.e):=by
 refine F.okx wZ ?_ ?_
 ·walk_at "i"
 walk_at "k";refine oE5 h λ y dx o into ys l9=>oA5 l9 λ m5 hy ho hoy k=>?_;clear l9 h;subst m5;walk_at "T";refine ⟨_,(zh (zp ‹(pq 2) zb›)  (zc (zp (wR ⟨rfl,rfl,rfl⟩ hr (za (pq 0) (za (zC (za (pq 1) zb)) (za (pq 2) zb))))))),?_⟩;exists iE3 _ _ _ ⟨x6 T,⟨o,ys,rfl,ho,zA (λ hok=>?_) (λ hok=>?_)⟩⟩
 ·rw [aA hok] at k;exists iE3 _ _ _ ⟨fM T,λ p hp=>(iE7 y a.r dx p o ([into]) ys (iA6 rfl (mz hy hp) T.fP T.fV T.fT (iA5 (SqL.of mv) ((zf hp).seq ho) ((my hy hp).symm) hoy (λ H' l1 l2 s h1 h2 h3 h4 h5=>?_))))⟩;exact k H' l1 l2 ((Same.own (zf hp)).trans s) h1 h2 h3 (zG h4) (zG h5)
 ·rw [aq hok] at k;exact k
def vn (T:Txt K mg a):KCal P w K mg base "FirstParter" a.r 2 ["self","into","outs"] [] (qN K a.r a.e):=T.gG.cal T.iN (w9 T)
noncomputable def vf (l1 l2:Addr) (n:Int):List (Str × V):=z5 "kind" (.int n) (kf l1 l2)
def zei {l1 l2:Addr}:(vf l1 l2 n).lookup ("kind":Str)=some (.int n):=by
 unfold vf;rw [zZ,aA rfl]
def zgA {l1 l2:Addr} {m:Str} (h1:m≠"ins") (h2:m≠"outs") (h3:m≠"kind"):(vf l1 l2 n).lookup m=none:=by
 unfold vf;rw [zZ,aq h3];exact zgR h1 h2
def wj (K:A0) (C CB:Addr):Sp:=λ vs H Q E=>∃ (y dx o:Addr) (into:V) (ys:Ao) (n:Int),vs=[.ref y,into,.ref o,.int n]/\H y=some (.ins C dx [])/\SqL K H o ys/\o≠y /\
 if ys.length=2/\0<=n/\n < jl then ∀ H' l1 l2,Own H H' y->H' y=some (.ins C dx (vf l1 l2 n))->H' l1=some (.lst [into])->H' l2=some (.lst ys)->H l1=none->H l2=none->Q .non H' else E (.ref CB) none H
def J1 (T:Txt K mg a) (F:Fun K "__init__" "Sieve.__init__" jL f fd):FnOk P w K mg base (CXr P w) 2 f fd ["self","into","outs","kind"] (wj K a.s a.e):=by
 refine F.okx JY ?_ ?_
 ·walk_at "i"
 walk_at "k";refine oE6 h λ y dx o into ys n l9=>oA5 l9 λ m5 hy ho hoy k=>?_;clear l9 h;subst m5;walk_at "T";refine ⟨_,(zh (zx (zl (Zf hr.units1) (zy zN zJ (za (pq 2) zb)) zd (zn _))  (zc (qI ⟨rfl,rfl,rfl⟩ rfl (za j9 zb)))  zm)  (zh (zp ‹(pq 3) zb›)  (zh (zp (wR ⟨rfl,rfl,rfl⟩ hr (za (pq 0) (za (zC (za (pq 1) zb)) (za (pq 2) zb)))))  (zc (jh (pq 0) (pq 3) rfl))))),?_⟩;exists ⟨_,.inl ⟨_,ho,rfl⟩,?_⟩;exists zA (λ h1=>?_) (λ h1=>?_)
 ·rw [aq (by lia)] at k;exact ⟨a.e,iA3 T.f9 T.gi k⟩
 ·refine iE3 _ _ _ ⟨Zu T,⟨n,rfl,zA (λ hok=>?_) (λ hok=>?_)⟩⟩
  ·rw [aA ⟨by lia,hok⟩] at k;exists iE3 _ _ _ ⟨fM T,λ p hp=>(iE7 y a.s dx p o ([into]) ys (iA6 rfl (mz hy hp) T.fW T.gF T.gx (iA5 (SqL.of mv) ((zf hp).seq ho) ((my hy hp).symm) hoy (λ H' l1 l2 s h1 h2 h3 h4 h5=>?_))))⟩;exists iE4 y a.s dx _ (iA6 rfl h1 T.fW T.gw zaW ?_);exact k _ l1 l2 (((Same.own (zf hp)).trans s).trans qV) mv (by rw [mw (Z5 h2 h1 (by intro z;cases z))];exact h2) (by rw [mw (Z5 h3 h1 (by intro z;cases z))];exact h3) (zG h4) (zG h5)
  ·rw [aq (λ z=>hok z.2)] at k;exact k
def zbz (T:Txt K mg a):KCal P w K mg base "Sieve" a.s 2 ["self","into","outs","kind"] [] (wj K a.s a.e):=T.i9.cal T.lV (J1 T)
def xL (K:A0) (C CB:Addr):Sp:=λ vs H Q E=>∃ (y dx o:Addr) (out:V) (ys:Ao),vs=[.ref y,.ref o,out]/\H y=some (.ins C dx [])/\SqL K H o ys/\o≠y /\
 if 2<=ys.length/\ys.length<=4 then ∀ H' l1 l2,Own H H' y->H' y=some (.ins C dx (kf l1 l2))->H' l1=some (.lst ys)->H' l2=some (.lst [out])->H l1=none->H l2=none->Q .non H' else E (.ref CB) none H
def Jh (T:Txt K mg a) (F:Fun K "__init__" "Joiner.__init__" jv f fd):FnOk P w K mg base (CXr P w) 2 f fd ["self","ins","out"] (xL K a.t a.e):=by
 refine F.okx QX ?_ ?_
 ·walk_at "i"
 walk_at "k";refine oE5 h λ y dx o out ys l9=>oA5 l9 λ m5 hy ho hoy k=>?_;clear l9 h;subst m5;walk_at "T";refine ⟨_,(zh (zp ‹(pq 1) zb›)  (zc (zp (wR ⟨rfl,rfl,rfl⟩ hr (za (pq 0) (za (pq 1) (za (zC (za (pq 2) zb)) zb))))))),?_⟩;exists iE3 _ _ _ ⟨x6 T,⟨o,ys,rfl,ho,zA (λ hok=>?_) (λ hok=>?_)⟩⟩
 ·rw [aA hok] at k;exists iE3 _ _ _ ⟨fM T,λ p hp=>(iE7 y a.t dx o p ys ([out]) (iA6 rfl (mz hy hp) T.gc T.gd T.gg (iA5 ((zf hp).seq ho) (SqL.of mv) hoy ((my hy hp).symm) (λ H' l1 l2 s h1 h2 h3 h4 h5=>?_))))⟩;exact k H' l1 l2 ((Same.own (zf hp)).trans s) h1 h2 h3 (zG h4) (zG h5)
 ·rw [aq hok] at k;exact k
def Jv (T:Txt K mg a):KCal P w K mg base "Joiner" a.t 2 ["self","ins","out"] [] (xL K a.t a.e):=T.iR.cal T.kF (Jh T)
noncomputable def df (l1 l2:Addr) (p:Int):List (Str × V):=z5 "pace" (.int p) (kf l1 l2)
def Wz {l1 l2:Addr} {p:Int}:(df l1 l2 p).lookup ("pace":Str)=some (.int p):=by
 unfold df;rw [zZ,aA rfl]
theorem Zc (f:Str) (v:V):∀ fs:List (Str × V),(z5 f v fs).length<=fs.length + 1
 | []=>by simp [z5]
 | (g,x) :: r=>by
  unfold z5
  split
  ·simp
  ·have:=Zc f v r;simp;lia
def zeZ {l1 l2:Addr}:(kf l1 l2).length<=2:=by
 unfold kf;have h1:=Zc "outs" (V.ref l2) (z5 "ins" (.ref l1) []);have h2:=Zc "ins" (V.ref l1) [];simp only [c9] at h2
 lia
def zgl {l1 l2:Addr} {p:Int}:(df l1 l2 p).length < 1000:=by
 unfold df;have h1:=Zc "pace" (V.int p) (kf l1 l2);have h2:=zeZ (l1:=l1) (l2:=l2)
 lia
def wl (C CB:Addr):Sp:=λ vs H Q E=>∃ (y dx:Addr) (into:V) (p:Int),vs=[.ref y,into,.int p]/\H y=some (.ins C dx []) /\
 if 0<=p/\p<=4 then ∀ H' l1 l2,Own H H' y->H' y=some (.ins C dx (df l1 l2 p))->H' l1=some (.lst [into])->H' l2=some (.lst [])->H l1=none->H l2=none->Q .non H' else E (.ref CB) none H
def J3 (T:Txt K mg a) (F:Fun K "__init__" "Drain.__init__" jM f fd):FnOk P w K mg base (CXr P w) 2 f fd ["self","into","pace"] (wl a.p a.e):=by
 refine F.okx JZ ?_ ?_
 ·walk_at "i"
 walk_at "k";refine oE4 h λ y dx into p l9=>oA3 l9 λ m5 hy k=>?_;clear l9 h;subst m5;walk_at "T";refine ⟨_,(zh (zp ‹(pq 2) (za zd zb)›)  (zh (zp (wR ⟨rfl,rfl,rfl⟩ hr (za (pq 0) (za (zC (za (pq 1) zb)) (za (zC zb) zb)))))  (zc (jh (pq 0) (pq 2) rfl)))),?_⟩;exists iE3 _ _ _ ⟨Zt T,⟨p,0,rfl,zA (λ hok=>?_) (λ hok=>?_)⟩⟩
 ·rw [aA hok] at k;exists iE3 _ _ _ ⟨fM T,λ q1 hq1 q2 hq2=>?_⟩;have n12:q1≠q2:=my mv hq2;have hy2:=mz (o:=.lst []) (mz (o:=.lst [into]) hy hq1) hq2;refine iE7 y a.p dx q1 q2 ([into]) ([]) (iA6 rfl hy2 T.fZ T.gE T.gY (iA5 (SqL.of (mz mv hq2)) (SqL.of mv) ((my hy hq1).symm) ((my (mz hy hq1) hq2).symm) (λ H' l1 l2 s h1 h2 h3 h4 h5=>?_)));exists iE4 y a.p dx _ (iA6 rfl h1 T.fZ T.fR zaW ?_);exact k _ l1 l2 (((Same.own ((zf hq1).trans (zf hq2))).trans s).trans qV) mv (by rw [mw (Z5 h2 h1 (by intro z;cases z))];exact h2) (by rw [mw (Z5 h3 h1 (by intro z;cases z))];exact h3) (zG (zG h4)) (zG (zG h5))
 ·rw [aq hok] at k;exact k
def Zm (T:Txt K mg a):KCal P w K mg base "Drain" a.p 2 ["self","into","pace"] [] (wl a.p a.e):=T.i8.cal T.kh (J3 T)
noncomputable def sf (l1 l2:Addr) (p:Int) (l3:Addr):List (Str × V):=z5 "kinds" (.ref l3) (df l1 l2 p)
def zet {l1 l2 l3:Addr} {p:Int}:(sf l1 l2 p l3).lookup ("pace":Str)=some (.int p):=by
 unfold sf;rw [zZ,aq (by symm)];exact Wz
def xg (ks:A6):Prop:=∀ n∈ks,0<=n/\n < jl
def xK (K:A0) (C CB:Addr):Sp:=λ vs H Q E=>∃ (y dx l:Addr) (out:V) (p:Int) (ks:A6),vs=[.ref y,out,.int p,.ref l]/\H y=some (.ins C dx [])/\SqL K H l (ks.map V.int)/\l≠y /\
 ((1<=p/\p<=4/\1<=ks.length/\ks.length<=6/\xg ks->∀ H' l1 l2 l3,Own H H' y->H' y=some (.ins C dx (sf l1 l2 p l3))->H' l1=some (.lst [])->H' l2=some (.lst [out])->H' l3=some (.lst (ks.map V.int))->H l1=none->H l2=none->H l3=none->Q .non H') /\
   (¬ (1<=p/\p<=4/\1<=ks.length/\ks.length<=6/\xg ks)->E (.ref CB) none H))
def Jf (T:Txt K mg a) (F:Fun K "__init__" "Source.__init__" jt f fd):FnOk P w K mg base (CXr P w) 2 f fd ["self","out","pace","kinds"] (xK K a.o a.e):=by
 refine F.okx QV ?_ ?_
 ·walk_at "i"
 walk_at "k";refine oE6 h λ y dx l out p ks l9=>oA6 l9 λ m5 hy hl hly kok kbad=>?_;clear l9 h;subst m5;obtain ⟨t1,g1⟩:=T.ka;walk_at "T";refine ⟨_,(zh (zp ‹(pq 2) (za zd zb)›)  (zh (zx (qY (jy jJ jJ zd (zy zN zJ (za (pq 3) zb)) qC))  (zc (qI ⟨rfl,rfl,rfl⟩ rfl (za j9 zb)))  zm)  (zh (qq qS rfl (zX (pq 3)) (qd 4 QV.nd)  (zc (zp ‹(pq 4) zb›)))  (zh (zp (wR ⟨rfl,rfl,rfl⟩ hr (za (pq 0) (za (zC zb) (za (zC (za (pq 1) zb)) zb)))))  (zh (jh (pq 0) (pq 2) rfl)  (zc (jh (pq 0) (jz wW xq (za (pq 3) zb)) rfl))))))),?_⟩;exists iE3 _ _ _ ⟨Zt T,⟨p,1,rfl,zA (λ hp=>?_) (λ hp=>kbad λ z=>hp ⟨z.1,z.2.1⟩)⟩⟩;exists ⟨_,.inl ⟨_,hl,rfl⟩,?_⟩;rw [ah];left;have bad:¬ (1<=ks.length/\ks.length<=6)->∃ C,mg "BadKnot"=some (Value.ref C)/\XC K C/\E (Value.ref C) none H:=λ h=>⟨a.e,T.f9,T.gi,kbad λ z=>h ⟨z.2.2.1,z.2.2.2.1⟩⟩;refine zA (λ h1=>?_) (λ h1=>bad (by lia));refine iE2 (.int 6) _ (iA3 g1 ⟨_,rfl⟩ ?_);exists zA (λ h2=>?_) (λ h2=>bad (by lia));walk_at "e";refine ⟨l,rfl,.inl ⟨⟨_,hl⟩,?_⟩⟩;refine qt (K:=K) (a:=l) (xs:=ks.map V.int) (λ i σ H'=>∃ v4,σ=[some (.ref y),some out,some (.int p),some (.ref l),v4]/\H'=H/\xg (ks.take i)) ⟨_,iA3 rfl rfl (λ _ h=>nomatch h)⟩ (λ i σ H' _ ⟨_,_,e,_⟩=>e ▸ hl) ?_ ?_
 ·intro i x σ H' hi m8;refine oE1 m8 λ v4 l9=>oA3 l9 λ m5 mh hk=>?_;clear l9 m8;subst m5 mh;rw [au,aC] at hi;obtain ⟨n,hn,rfl⟩:=hi;exists iE3 _ _ _ ⟨Zu T,⟨n,rfl,zA (λ hok=>?_) (λ hok=>kbad λ z=>hok (z.2.2.2.2 n (ai hn)))⟩⟩;left;have:xg (ks.take (i + 1)):=λ m hm=>by
   rw [fu,hn] at hm;rcases aF.mp hm with z|z
   ·exact hk m z
   ·have e:m=n:=by simpa using z
    rw [e];exact hok
  first|exact ⟨_,rfl,rfl,this⟩|exact ⟨_,rfl,this⟩
 ·intro σ H' m8;refine oE1 m8 λ v4 l9=>oA3 l9 λ m5 mh hk=>?_;clear l9 m8;subst m5 mh;rw [ah,aV] at hk;have kok:=kok ⟨hp.1,hp.2,by lia,by lia,hk⟩;exists iE3 _ _ _ ⟨fM T,λ q1 hq1 q2 hq2=>?_⟩;have hy2:=mz (o:=.lst [out]) (mz (o:=.lst []) hy hq1) hq2;have s12:Same H' (upd (upd H' q1 (.lst [])) q2 (.lst [out])):=(zf hq1).trans (zf hq2);refine iE7 y a.o dx q1 q2 ([]) ([out]) (iA6 rfl hy2 T.fO T.gX T.gf (iA5 (SqL.of (mz mv hq2)) (SqL.of mv) ((my hy hq1).symm) ((my (mz hy hq1) hq2).symm) (λ H2 l1 l2 s h1 h2 h3 h4 h5=>?_)));exists iE4 y a.o dx _ (iA6 rfl h1 T.fO T.fS zaW ?_);left;have s3:Own H' (upd H2 y (.ins a.o dx (df l1 l2 p))) y:=((Same.own s12).trans s).trans qV;have h2':upd H2 y (.ins a.o dx (df l1 l2 p)) l1=some (.lst []):=by rw [mw (Z5 h2 h1 (by intro z;cases z))];exact h2
  have h3':upd H2 y (.ins a.o dx (df l1 l2 p)) l2=some (.lst [out]):=by rw [mw (Z5 h3 h1 (by intro z;cases z))];exact h3
  refine iE2 l _ (iA3 rfl (.inl (zbk hl s3 hly)) (λ l3 hl3=>?_));left;have hy3:upd (upd H2 y (.ins a.o dx (df l1 l2 p))) l3 (.lst (ks.map V.int)) y=some (.ins a.o dx (df l1 l2 p)):=mz mv hl3;refine iE4 y a.o dx _ (iA6 rfl hy3 T.fO T.fK zgl ?_);have n1:l1≠y:=Z5 h2 h1 (by intro z;cases z);have n2:l2≠y:=Z5 h3 h1 (by intro z;cases z);have n3:l3≠y:=(my (mv (H:=H2)) hl3).symm;refine kok _ l1 l2 l3 ((s3.trans (Same.own (zf hl3))).trans qV) mv ?_ ?_ ?_ (zG (zG h4)) (zG (zG h5)) ?_
  ·rw [mw n1];exact mz h2' hl3
  ·rw [mw n2];exact mz h3' hl3
  ·rw [mw n3];exact mv
  ·cases e:H' l3 with
   | none=>rfl
   | some o=>exact absurd (hl3.symm.trans (s3 l3 o n3 e)) (by intro z;cases z)
def Zl (T:Txt K mg a):KCal P w K mg base "Source" a.o 2 ["self","out","pace","kinds"] [] (xK K a.o a.e):=T.iO.cal T.gC (Jf T)
noncomputable def bf (rm pc:Int):List (Str × V):=z5 "pace" (.int pc) (z5 "room" (.int rm) [])
abbrev zF (rm pc:Int):Prop:=1<=rm/\rm<=6/\1<=pc/\pc<=4
def vz (C CB:Addr):Sp:=λ vs H Q E=>∃ (y dx:Addr) (rm pc:Int),vs=[.ref y,.int rm,.int pc]/\H y=some (.ins C dx [])/\if zF rm pc then Q .non (upd H y (.ins C dx (bf rm pc))) else E (.ref CB) none H
def Wq (T:Txt K mg a) (F:Fun K "__init__" "Belt.__init__" xl f fd):FnOk P w K mg base (CXr P w) 1 f fd ["self","room","pace"] (vz a.m a.d):=by
 refine F.okx Wg ?_ ?_
 ·walk_at "i"
 walk_at "k";refine oE4 h λ y dx rm pc l9=>oA3 l9 λ m5 hy k=>?_;clear l9 h;subst m5;obtain ⟨t1,g1⟩:=T.kA;obtain ⟨t2,g2⟩:=T.iA;walk_at "T";refine ⟨_,(zh (zx (qY (jy jJ jJ zd (pq 1) qC))  (zc (qI ⟨rfl,rfl,rfl⟩ rfl (za j9 zb)))  zm)  (zh (zx (qY (jy jJ jJ zd (pq 2) qC))  (zc (qI ⟨rfl,rfl,rfl⟩ rfl (za j9 zb)))  zm)  (zh (jh (pq 0) (pq 1) rfl)  (zc (jh (pq 0) (pq 2) rfl))))),?_⟩;left;have bad:¬ zF rm pc->∃ C,mg "BadBelt"=some (Value.ref C)/\XC K C/\E (Value.ref C) none H:=λ h=>by
  rw [aq h] at k;exact ⟨a.d,iA3 T.i6 T.lA k⟩
 refine zA (λ h1=>?_) (λ h1=>bad (by unfold zF;lia));refine iE2 (.int 6) _ (iA3 g1 ⟨_,rfl⟩ ?_);exists zA (λ h2=>?_) (λ h2=>bad (by unfold zF;lia));exists zA (λ h3=>?_) (λ h3=>bad (by unfold zF;lia));refine iE2 (.int 4) _ (iA3 g2 ⟨_,rfl⟩ ?_);exists zA (λ h4=>?_) (λ h4=>bad (by unfold zF;lia));rw [aA (by unfold zF;lia)] at k;exists iE4 y a.m dx ([]) (iA6 rfl hy T.gq T.gD (by decide) ?_);exists iE4 y a.m dx _ (iA6 rfl mv T.gq T.fY (by show 1 < 1000;decide) ?_);rw [vV];exact k
def vM (T:Txt K mg a):KCal P w K mg base "Belt" a.m 1 ["self","room","pace"] [] (vz a.m a.d):=T.kx.cal T.l5 (Wq T)
def qe {y dx b C:Addr} {u:HO} (hy:H y=none) (hdx:H dx=none) (h:H b=some u):upd (upd H dx (.own y)) y (.ins C dx []) b=some u:=by
 rw [mw (my h hy),mw (my h hdx)];exact h
def zD {y dx b:Addr} {o p:HO} (h:upd (upd H dx o) y p b=none):H b=none:=zG (zG h)
def zM {H H':Hp} (s:Same H H') (h:H' b=none):H b=none:=by
 cases e:H b with
 | none=>rfl
 | some o=>rw [s b o e] at h;cases h
inductive Wd|source|drain|parter|first|sieve|joiner
deriving DecidableEq
noncomputable def xf (a:Ad):Wd->Addr
 | .source=>a.o
 | .drain=>a.p
 | .parter=>a.q
 | .first=>a.r
 | .sieve=>a.s
 | .joiner=>a.t
structure Row where
 wd:Wd
 ins:List Int
 outs:List Int
 pace:Int
 kinds:List Int
abbrev As:=List Row
def Row.ok (r:Row):Prop:=match r.wd with
 | .source=>r.ins=[]/\(∃ o,r.outs=[o])/\1<=r.pace/\r.pace<=4/\1<=r.kinds.length/\r.kinds.length<=6/\xg r.kinds
 | .drain=>(∃ i,r.ins=[i])/\r.outs=[]/\0<=r.pace/\r.pace<=4
 | .parter=>(∃ i,r.ins=[i])/\2<=r.outs.length/\r.outs.length<=4
 | .first=>(∃ i,r.ins=[i])/\2<=r.outs.length/\r.outs.length<=4
 | .sieve=>(∃ i,r.ins=[i])/\r.outs.length=2/\∃ k,r.kinds=[k]/\0<=k/\k < jl
 | .joiner=>(∃ o,r.outs=[o])/\2<=r.ins.length/\r.ins.length<=4
noncomputable def VF (r:Row):List (Str × D):=match r.wd with
 | .source=>[("pace",.int r.pace),("kinds",.ints r.kinds)]
 | .drain=>[("pace",.int r.pace)]
 | .sieve=>[("kind",.int (r.kinds.headD 0))]
 | _=>[]
noncomputable def Jr (r:Row):List (Str × D):=("ins",.ints r.ins) :: ("outs",.ints r.outs) :: VF r
noncomputable def wa (a:Ad) (r:Row):D:=.ob (xf a r.wd) (Jr r)
noncomputable def vo (a:Ad) (b:Int × Int):D:=.ob a.m [("room",.int b.1),("pace",.int b.2)]
def qK {α:Type} {f:Str} {x:α} {r:List (Str × α)}:((f,x) :: r).lookup f=some x:=by simp [List.lookup]
def zH {α:Type} {f g:Str} {x:α} {r:List (Str × α)} (h:f≠g):((g,x) :: r).lookup f=r.lookup f:=by
 have hb:(f == g)=false:=a8.mpr h;simp [List.lookup,hb]
def zeW (r:Row):(Jr r).lookup ("ins":Str)=some (.ints r.ins):=qK
def zdG (r:Row):(Jr r).lookup ("outs":Str)=some (.ints r.outs):=(zH (by symm)).trans qK
def zdF {r:Row} (h:r.wd=.source\/r.wd=.drain):(Jr r).lookup ("pace":Str)=some (.int r.pace):=by
 refine (zH (by symm)).trans ((zH (by symm)).trans ?_);unfold VF;rcases h with h|h <;> (rw [h];exact qK)
def zct {r:Row} (h:r.wd=.source):(Jr r).lookup ("kinds":Str)=some (.ints r.kinds):=by
 refine (zH (by symm)).trans ((zH (by symm)).trans ?_);unfold VF;rw [h];exact (zH (by symm)).trans qK
def zdI {r:Row} {k:Int} (h:r.wd=.sieve) (e:r.kinds=[k]):(Jr r).lookup ("kind":Str)=some (.int k):=by
 refine (zH (by symm)).trans ((zH (by symm)).trans ?_);unfold VF;rw [h,e];exact qK
def zdH {r:Row} {f:Str} (h1:f≠"ins") (h2:f≠"outs") (h3:f≠"pace") (h4:f≠"kinds") (h5:f≠"kind"):(Jr r).lookup f=none:=by
 refine (zH h1).trans ((zH h2).trans ?_);unfold VF
 split
 ·exact (zH h3).trans (zH h4)
 ·exact zH h3
 ·exact zH h5
 ·rfl
def KnP (a:Ad) (H:Hp) (p:A5) (v:V) (r:Row):Prop:=Rep H p v (wa a r)
def KnP.keep {H H':Hp} {p q:A5} {r:Row} (h:KnP a H p v r) (s:∀ b o,p b->H b=some o->q b/\H' b=some o):KnP a H' q v r:=Rep.keep s h
def KnP.inv {r:Row} (h:KnP a H p v r):∃ y dx l1 l2 l3 fs,v=.ref y/\p y/\p l1/\p l2/\(r.wd=.source->p l3)/\H y=some (.ins (xf a r.wd) dx fs)/\fs.lookup ("ins":Str)=some (.ref l1)/\fs.lookup ("outs":Str)=some (.ref l2) /\
  fs.lookup ("copied":Str)=none/\H l1=some (.lst (iv r.ins))/\H l2=some (.lst (iv r.outs))/\(r.wd=.source->fs.lookup ("kinds":Str)=some (.ref l3)/\H l3=some (.lst (iv r.kinds)))/\((r.wd=.source\/r.wd=.drain)->fs.lookup ("pace":Str)=some (.int r.pace)):=by
 refine oE3 (Rep.ob' h) λ y dx fs l9=>oA5 l9 λ m5 py hy g1 g2=>?_;clear l9;subst m5;obtain ⟨u1,e1,r1⟩:=g1 _ _ (zeW r);refine oE1 r1.ints' λ l1 l9=>oA3 l9 λ m5 p1 h1=>?_;clear l9;subst m5;obtain ⟨u2,e2,r2⟩:=g1 _ _ (zdG r);refine oE1 r2.ints' λ l2 l9=>oA3 l9 λ m5 p2 h2=>?_;clear l9;subst m5;have e3:=g2 ("copied":Str) (zdH (by symm) (by symm) (by symm) (by symm) (by symm));have pc:(r.wd=.source\/r.wd=.drain)->fs.lookup ("pace":Str)=some (.int r.pace):=λ z=>by
  obtain ⟨u,e,ru⟩:=g1 _ _ (zdF z);cases ru;exact e
 by_cases hs:r.wd=.source
 ·obtain ⟨u3,e4,r3⟩:=g1 _ _ (zct hs);refine oE1 r3.ints' λ l3 l9=>oA3 l9 λ m5 p3 h3=>?_;clear l9;subst m5;exact iE6 y dx l1 l2 l3 fs (iA9 rfl py p1 p2 (λ _=>p3) hy e1 e2 (iA5 e3 h1 h2 (λ _=>⟨e4,h3⟩) pc))
 ·exact iE6 y dx l1 l2 l1 fs (iA9 rfl py p1 p2 (λ z=>absurd z hs) hy e1 e2 (iA5 e3 h1 h2 (λ z=>absurd z hs) pc))
def Jt {l1 l2:Addr}:kf l1 l2=([(("ins":Str),V.ref l1),(("outs":Str),V.ref l2)]:Aq):=by
 unfold kf;simp only [z5];rw [aq (by symm)]
def zd2 {l1 l2:Addr}:df l1 l2 n=([(("ins":Str),V.ref l1),(("outs":Str),V.ref l2),(("pace":Str),V.int n)]:Aq):=by
 unfold df;rw [Jt];simp only [z5];rw [aq (by symm),aq (by symm)]
def zfj {l1 l2 l3:Addr}:sf l1 l2 n l3=([(("ins":Str),V.ref l1),(("outs":Str),V.ref l2),(("pace":Str),V.int n),(("kinds":Str),V.ref l3)]:Aq):=by
 unfold sf;rw [zd2];simp only [z5];rw [aq (by symm),aq (by symm),aq (by symm)]
def zff {l1 l2:Addr}:vf l1 l2 n=([(("ins":Str),V.ref l1),(("outs":Str),V.ref l2),(("kind":Str),V.int n)]:Aq):=by
 unfold vf;rw [Jt];simp only [z5];rw [aq (by symm),aq (by symm)]
def xu {l C dx:Addr} {gs:List (Str × D)} (pl:p l) (e:H l=some (.ins C dx fs)) (n:fs.map (·.1)=gs.map (·.1)) (r:Reps H p (fs.map (·.2)) (gs.map (·.2))):Rep H p (.ref l) (.ob C gs) :=
 .ob pl e n λ i f g hf hg=>r.g i f.2 g.2 (by rw [au,hf];rfl) (by rw [au,hg];rfl)
section
variable {H:Hp} {p:A5} {z dz m1 m2 m3:Addr} {ins outs kinds:A6} {pace:Int}
def Xz (q0:p z) (q1:p m1) (q2:p m2) (q3:p m3) (h0:H z=some (.ins a.o dz (sf m1 m2 pace m3))) (h1:H m1=some (.lst (iv ins))) (h2:H m2=some (.lst (iv outs))) (h3:H m3=some (.lst (iv kinds))):KnP a H p (.ref z) ⟨.source,ins,outs,pace,kinds⟩:=by
 rw [zfj] at h0;exact xu q0 h0 rfl (.cons (zY q1 h1) (.cons (zY q2 h2) (.cons .int (.cons (zY q3 h3) .nil))))
def VP (q0:p z) (q1:p m1) (q2:p m2) (h0:H z=some (.ins a.p dz (df m1 m2 pace))) (h1:H m1=some (.lst (iv ins))) (h2:H m2=some (.lst (iv outs))):KnP a H p (.ref z) ⟨.drain,ins,outs,pace,kinds⟩:=by
 rw [zd2] at h0;exact xu q0 h0 rfl (.cons (zY q1 h1) (.cons (zY q2 h2) (.cons .int .nil)))
def VN {k:Int} (q0:p z) (q1:p m1) (q2:p m2) (h0:H z=some (.ins a.s dz (vf m1 m2 k))) (h1:H m1=some (.lst (iv ins))) (h2:H m2=some (.lst (iv outs))):KnP a H p (.ref z) ⟨.sieve,ins,outs,pace,[k]⟩:=by
 rw [zff] at h0;exact xu q0 h0 rfl (.cons (zY q1 h1) (.cons (zY q2 h2) (.cons .int .nil)))
def XA (q0:p z) (q1:p m1) (q2:p m2) (h0:H z=some (.ins a.q dz (kf m1 m2))) (h1:H m1=some (.lst (iv ins))) (h2:H m2=some (.lst (iv outs))):KnP a H p (.ref z) ⟨.parter,ins,outs,pace,kinds⟩:=by
 rw [Jt] at h0;exact xu q0 h0 rfl (.cons (zY q1 h1) (.cons (zY q2 h2) .nil))
def VO (q0:p z) (q1:p m1) (q2:p m2) (h0:H z=some (.ins a.r dz (kf m1 m2))) (h1:H m1=some (.lst (iv ins))) (h2:H m2=some (.lst (iv outs))):KnP a H p (.ref z) ⟨.first,ins,outs,pace,kinds⟩:=by
 rw [Jt] at h0;exact xu q0 h0 rfl (.cons (zY q1 h1) (.cons (zY q2 h2) .nil))
def XB (q0:p z) (q1:p m1) (q2:p m2) (h0:H z=some (.ins a.t dz (kf m1 m2))) (h1:H m1=some (.lst (iv ins))) (h2:H m2=some (.lst (iv outs))):KnP a H p (.ref z) ⟨.joiner,ins,outs,pace,kinds⟩:=by
 rw [Jt] at h0;exact xu q0 h0 rfl (.cons (zY q1 h1) (.cons (zY q2 h2) .nil))
end
def BtP (a:Ad) (H:Hp) (p:A5) (v:V) (r:Int × Int):Prop:=Rep H p v (vo a r)
def BtP.keep {H H':Hp} {p q:A5} {r:Int × Int} (h:BtP a H p v r) (s:∀ b o,p b->H b=some o->q b/\H' b=some o):BtP a H' q v r:=Rep.keep s h
def zg4 {rm pc:Int}:bf rm pc=([(("room":Str),V.int rm),(("pace":Str),V.int pc)]:Aq):=by
 unfold bf;simp only [z5];rw [aq (by symm)]
def zft {y dx:Addr} {rm pc:Int} (q0:p y) (h0:H y=some (.ins a.m dx (bf rm pc))):BtP a H p (.ref y) (rm,pc):=by
 rw [zg4] at h0;exact xu q0 h0 rfl (.cons .int (.cons .int .nil))
def BtP.inv {r:Int × Int} (h:BtP a H p v r):∃ y dx fs,v=.ref y/\p y/\H y=some (.ins a.m dx fs)/\fs.lookup ("room":Str)=some (.int r.1)/\fs.lookup ("pace":Str)=some (.int r.2):=by
 refine oE3 (Rep.ob' h) λ y dx fs l9=>oA5 l9 λ m5 py hy g1 g2=>?_;clear l9;subst m5;obtain ⟨u1,e1,r1⟩:=g1 ("room":Str) _ qK;obtain ⟨u2,e2,r2⟩:=g1 ("pace":Str) _ ((zH (by symm)).trans qK);cases r1;cases r2;exact iE3 y dx fs (iA5 rfl py hy e1 e2)
structure Kns (a:Ad) (H:Hp) (p:A5) (vs:Ao) (rs:As):Prop where
 len:vs.length=rs.length
 g:∀ (i:Nat) v r,vs[i]?=some v->rs[i]?=some r->KnP a H p v r
def Kns.keep {H H':Hp} {p q:A5} {rs:As} (h:Kns a H p vs rs) (s:∀ b o,p b->H b=some o->q b/\H' b=some o):Kns a H' q vs rs:=⟨h.len,λ i v r e1 e2=>(h.g i v r e1 e2).keep s⟩
def Kns.nil:Kns a H p [] []:=⟨rfl,λ i v r h=>by simp at h⟩
def Kns.append {vs us:Ao} {rs qs:As} (h:Kns a H p vs rs) (k:Kns a H p us qs):Kns a H p (vs ++ us) (rs ++ qs):=by
 refine ⟨by rw [aM,aM,h.len,k.len],λ i v r e1 e2=>?_⟩;by_cases hi:i < vs.length
 ·rw [aY hi] at e1;rw [aY (by rw [<- h.len];exact hi)] at e2;exact h.g i v r e1 e2
 ·rw [aS (by lia)] at e1;rw [aS (by rw [<- h.len];lia),<- h.len] at e2;exact k.g _ v r e1 e2
def Kns.one {r:Row} (h:KnP a H p v r):Kns a H p [v] [r] :=
 ⟨rfl,λ i u q e1 e2=>by
  have hi:=(aa.mp e1).1;have:i=0:=by simp at hi;lia
  subst this;have e1:v=u:=by simpa using e1
  have e2:r=q:=by simpa using e2
  rw [<- e1,<- e2];exact h⟩
def Kns.at {rs:As} (h:Kns a H p vs rs) (e:vs[i]?=some v):∃ r,rs[i]?=some r/\KnP a H p v r:=by
 have hi:=(aa.mp e).1;have e2:rs[i]?=some (rs[i]'(by rw [<- h.len];exact hi)):=ae _;exact ⟨_,e2,h.g i v _ e e2⟩
structure Bts (a:Ad) (H:Hp) (p:A5) (vs:Ao) (rs:A1):Prop where
 len:vs.length=rs.length
 g:∀ (i:Nat) v r,vs[i]?=some v->rs[i]?=some r->BtP a H p v r
def Bts.keep {H H':Hp} {p q:A5} {rs:A1} (h:Bts a H p vs rs) (s:∀ b o,p b->H b=some o->q b/\H' b=some o):Bts a H' q vs rs:=⟨h.len,λ i v r e1 e2=>(h.g i v r e1 e2).keep s⟩
def Bts.nil:Bts a H p [] []:=⟨rfl,λ i v r h=>by simp at h⟩
def Bts.push {rs:A1} {r:Int × Int} (h:Bts a H p vs rs) (k:BtP a H p v r):Bts a H p (vs ++ [v]) (rs ++ [r]):=by
 refine ⟨by rw [aM,aM,h.len];rfl,λ i u q e1 e2=>?_⟩;by_cases hi:i < vs.length
 ·rw [aY hi] at e1;rw [aY (by rw [<- h.len];exact hi)] at e2;exact h.g i u q e1 e2
 ·rw [aS (by lia)] at e1;rw [aS (by rw [<- h.len];lia),<- h.len] at e2;have hj:=(aa.mp e1).1;have:i - vs.length=0:=by simp at hj;lia
  rw [this] at e1 e2;have e1:v=u:=by simpa using e1
  have e2:r=q:=by simpa using e2
  rw [<- e1,<- e2];exact k
def Bts.at {rs:A1} (h:Bts a H p vs rs) (e:vs[i]?=some v):∃ r,rs[i]?=some r/\BtP a H p v r:=by
 have hi:=(aa.mp e).1;have e2:rs[i]?=some (rs[i]'(by rw [<- h.len];exact hi)):=ae _;exact ⟨_,e2,h.g i v _ e e2⟩
abbrev New (H:Hp):Addr->Prop:=λ b=>H b=none
def jT (a:Ad) (wd:Wd):Sp:=λ vs H Q _=>∃ (y:Addr) (r:Row) (p:A5),vs=[.ref y]/\KnP a H p (.ref y) r/\r.wd=wd/\r.ok/\∀ v H',Same H H'->KnP a H' (New H) v r->Q v H'
def Kns.reps {rs:As} (h:Kns a H p vs rs):Reps H p vs (rs.map (wa a)):=⟨by rw [h.len,ah],λ i v d e1 e2=>by
 rw [au,aC] at e2;obtain ⟨r,e2,rfl⟩:=e2;exact h.g i v r e1 e2⟩
def Bts.reps {rs:A1} (h:Bts a H p vs rs):Reps H p vs (rs.map (vo a)):=⟨by rw [h.len,ah],λ i v d e1 e2=>by
 rw [au,aC] at e2;obtain ⟨r,e2,rfl⟩:=e2;exact h.g i v r e1 e2⟩
def Kns.of {rs:As} (h:Reps H p vs (rs.map (wa a))):Kns a H p vs rs:=⟨by rw [h.len,ah],λ i v r e1 e2=>h.g i v _ e1 (by rw [au,e2];rfl)⟩
def Bts.of {rs:A1} (h:Reps H p vs (rs.map (vo a))):Bts a H p vs rs:=⟨by rw [h.len,ah],λ i v r e1 e2=>h.g i v _ e1 (by rw [au,e2];rfl)⟩
def Qn (T:Txt K mg a):MCal P w K mg base a.o "copied" 4 ["self"] [] (jT a .source):=T.ic.cal T.fO λ F=>by
 refine F.okx ZB ?_ ?_
 ·walk_at "i"
 walk_at "k";refine oE3 h λ y l9 p m5=>oA5 m5 λ mh hK hw hok k=>?_;clear m5 h;obtain ⟨wd,ins,outs,pace,kinds⟩:=l9;subst mh;cases hw;have hK0:=hK;refine oE6 hK.inv λ y' dx l1 l2 l3 fs l9=>oA9 l9 λ e p0 p1 p2 p3 h0 e1 e2 m5=>oA5 m5 λ e3 h1 h2 h3 h4=>?_;clear l9 m5;cases e;obtain ⟨hk,hk'⟩:=h3 rfl;have hp:=h4 (.inl rfl);refine oA7 hok λ q1 l9 q3 q4 q5 q6 q7=>?_;clear hok;obtain ⟨ov,q2⟩:=l9;simp only at q1 q2;subst q1 q2;walk_at "T";refine ⟨_,(zc (zj (qh (x:="Source") ⟨rfl,rfl,rfl⟩ hr (za (zt (zk (pq 0) rfl) zd) (za (zk (pq 0) rfl) (za (zk (pq 0) rfl) zb)))))),?_⟩;exists iE4 a.o _ _ _ ⟨(Zl T).mono,iE5 y a.o dx fs _ (iA6 rfl h0 T.fO T.gf e2 (zq (SqL.of h2) at0 ?_))⟩;refine ra h0 T.fO T.fS hp ?_;refine ra h0 T.fO T.fK hk ?_;intro z dz hz hdz hne;refine iE6 z dz l3 (.int ov) pace kinds (iA6 rfl mv (SqL.of (qe hz hdz hk')) (my hk' hz) (λ _ H' m1 m2 m3 s' g1 g2 g3 g4 n1 n2 n3=>⟨rfl,?_⟩) (λ hbad=>absurd (iA5 q3 q4 q5 q6 q7) hbad));exact k _ _ (Own.of_new hz hdz s') (Xz (p:=New H) (ins:=[]) (outs:=[ov]) hz (zD n1) (zD n2) (zD n3) g1 g2 g3 g4)
def Jo (T:Txt K mg a):MCal P w K mg base a.p "copied" 4 ["self"] [] (jT a .drain):=T.iD.cal T.fZ λ F=>by
 refine F.okx Ql ?_ ?_
 ·walk_at "i"
 walk_at "k";refine oE3 h λ y l9 p m5=>oA5 m5 λ mh hK hw hok k=>?_;clear m5 h;obtain ⟨wd,ins,outs,pace,kinds⟩:=l9;subst mh;cases hw;have hK0:=hK;refine oE6 hK.inv λ y' dx l1 l2 l3 fs l9=>oA9 l9 λ e p0 p1 p2 p3 h0 e1 e2 m5=>oA5 m5 λ e3 h1 h2 h3 h4=>?_;clear l9 m5;cases e;have hp:=h4 (.inr rfl);refine oA4 hok λ l9 q2 q3 q4=>?_;clear hok;obtain ⟨iv',q1⟩:=l9;simp only at q1 q2;subst q1 q2;walk_at "T";refine ⟨_,(zc (zj (qh (x:="Drain") ⟨rfl,rfl,rfl⟩ hr (za (zt (zk (pq 0) rfl) zd) (za (zk (pq 0) rfl) zb))))),?_⟩;exists iE4 a.p _ _ _ ⟨(Zm T).mono,iE5 y a.p dx fs _ (iA6 rfl h0 T.fZ T.gE e1 (zq (SqL.of h1) at0 ?_))⟩;refine ra h0 T.fZ T.fR hp ?_;intro z dz hz hdz hne;refine iE4 z dz (.int iv') pace (iA3 rfl mv ?_);rw [aA ⟨q3,q4⟩];intro H' m1 m2 s' g1 g2 g3 n1 n2;exact ⟨rfl,k _ _ (Own.of_new hz hdz s') (VP (p:=New H) (ins:=[iv']) (outs:=[]) hz (zD n1) (zD n2) g1 g2 g3)⟩
def Qp (T:Txt K mg a):MCal P w K mg base a.q "copied" 4 ["self"] [] (jT a .parter):=T.ig.cal T.gb λ F=>by
 refine F.okx ZD ?_ ?_
 ·walk_at "i"
 walk_at "k";refine oE3 h λ y l9 p m5=>oA5 m5 λ mh hK hw hok k=>?_;clear m5 h;obtain ⟨wd,ins,outs,pace,kinds⟩:=l9;subst mh;cases hw;have hK0:=hK;refine oE6 hK.inv λ y' dx l1 l2 l3 fs l9=>oA9 l9 λ e p0 p1 p2 p3 h0 e1 e2 m5=>oA5 m5 λ e3 h1 h2 h3 h4=>?_;clear l9 m5;cases e;obtain ⟨⟨iv',q1⟩,q3,q4⟩:=hok;simp only at q1 q3 q4;subst q1;walk_at "T";refine ⟨_,(zc (zj (qh (x:="Parter") ⟨rfl,rfl,rfl⟩ hr (za (zt (zk (pq 0) rfl) zd) (za (zk (pq 0) rfl) zb))))),?_⟩;exists iE4 a.q _ _ _ ⟨(Ju T).mono,iE5 y a.q dx fs _ (iA6 rfl h0 T.gb T.gr e1 (zq (SqL.of h1) at0 ?_))⟩;refine ra h0 T.gb T.fX e2 ?_;intro z dz hz hdz hne;refine iE5 z dz l2 (.int iv') (iv outs) (iA5 rfl mv (SqL.of (qe hz hdz h2)) (my h2 hz) ?_);rw [aA (by rw [iv,ah];exact ⟨q3,q4⟩)];intro H' m1 m2 s' g1 g2 g3 n1 n2;exact ⟨rfl,k _ _ (Own.of_new hz hdz s') (XA (p:=New H) (ins:=[iv']) (outs:=outs) hz (zD n1) (zD n2) g1 g2 g3)⟩
def wy (T:Txt K mg a):MCal P w K mg base a.r "copied" 4 ["self"] [] (jT a .first):=T.gv.cal T.fP λ F=>by
 refine F.okx wb ?_ ?_
 ·walk_at "i"
 walk_at "k";refine oE3 h λ y l9 p m5=>oA5 m5 λ mh hK hw hok k=>?_;clear m5 h;obtain ⟨wd,ins,outs,pace,kinds⟩:=l9;subst mh;cases hw;have hK0:=hK;refine oE6 hK.inv λ y' dx l1 l2 l3 fs l9=>oA9 l9 λ e p0 p1 p2 p3 h0 e1 e2 m5=>oA5 m5 λ e3 h1 h2 h3 h4=>?_;clear l9 m5;cases e;obtain ⟨⟨iv',q1⟩,q3,q4⟩:=hok;simp only at q1 q3 q4;subst q1;walk_at "T";refine ⟨_,(zc (zj (qh (x:="FirstParter") ⟨rfl,rfl,rfl⟩ hr (za (zt (zk (pq 0) rfl) zd) (za (zk (pq 0) rfl) zb))))),?_⟩;exists iE4 a.r _ _ _ ⟨(vn T).mono,iE5 y a.r dx fs _ (iA6 rfl h0 T.fP T.fV e1 (zq (SqL.of h1) at0 ?_))⟩;refine ra h0 T.fP T.fT e2 ?_;intro z dz hz hdz hne;refine iE5 z dz l2 (.int iv') (iv outs) (iA5 rfl mv (SqL.of (qe hz hdz h2)) (my h2 hz) ?_);rw [aA (by rw [iv,ah];exact ⟨q3,q4⟩)];intro H' m1 m2 s' g1 g2 g3 n1 n2;exact ⟨rfl,k _ _ (Own.of_new hz hdz s') (VO (p:=New H) (ins:=[iv']) (outs:=outs) hz (zD n1) (zD n2) g1 g2 g3)⟩
def Jm (T:Txt K mg a):MCal P w K mg base a.s "copied" 4 ["self"] [] (jT a .sieve):=T.iF.cal T.fW λ F=>by
 refine F.okx Qj ?_ ?_
 ·walk_at "i"
 walk_at "k";refine oE3 h λ y l9 p m5=>oA5 m5 λ mh hK hw hok k=>?_;clear m5 h;obtain ⟨wd,ins,outs,pace,kinds⟩:=l9;subst mh;cases hw;have hK0:=hK;refine oE6 hK.inv λ y' dx l1 l2 l3 fs l9=>oA9 l9 λ e p0 p1 p2 p3 h0 e1 e2 m5=>oA5 m5 λ e3 h1 h2 h3 h4=>?_;clear l9 m5;cases e;refine oA3 hok λ l9 q3 m5=>oE1 m5 λ kk mh=>oA3 mh λ q4 q5 q6=>?_;clear m5 mh hok;obtain ⟨iv',q1⟩:=l9;simp only at q1 q3 q4;subst q1 q4;walk_at "T";refine ⟨_,(zc (zj (qh (x:="Sieve") ⟨rfl,rfl,rfl⟩ hr (za (zt (zk (pq 0) rfl) zd) (za (zk (pq 0) rfl) (za (zk (pq 0) rfl) zb)))))),?_⟩;exists iE4 a.s _ _ _ ⟨(zbz T).mono,iE5 y a.s dx fs _ (iA6 rfl h0 T.fW T.gF e1 (zq (SqL.of h1) at0 ?_))⟩;refine ra h0 T.fW T.gx e2 ?_;refine zeA hK0 T.fW T.gw (zdI rfl rfl) λ u ru=>?_;cases ru;intro z dz hz hdz hne;refine iE6 z dz l2 (.int iv') (iv outs) kk (iA5 rfl mv (SqL.of (qe hz hdz h2)) (my h2 hz) ?_);rw [aA (by rw [iv,ah];exact ⟨q3,q5,q6⟩)];intro H' m1 m2 s' g1 g2 g3 n1 n2;exact ⟨rfl,k _ _ (Own.of_new hz hdz s') (VN (p:=New H) (ins:=[iv']) (outs:=outs) hz (zD n1) (zD n2) g1 g2 g3)⟩
def Qr (T:Txt K mg a):MCal P w K mg base a.t "copied" 4 ["self"] [] (jT a .joiner):=T.ik.cal T.gc λ F=>by
 refine F.okx ZF ?_ ?_
 ·walk_at "i"
 walk_at "k";refine oE3 h λ y l9 p m5=>oA5 m5 λ mh hK hw hok k=>?_;clear m5 h;obtain ⟨wd,ins,outs,pace,kinds⟩:=l9;subst mh;cases hw;have hK0:=hK;refine oE6 hK.inv λ y' dx l1 l2 l3 fs l9=>oA9 l9 λ e p0 p1 p2 p3 h0 e1 e2 m5=>oA5 m5 λ e3 h1 h2 h3 h4=>?_;clear l9 m5;cases e;obtain ⟨⟨ov,q1⟩,q3,q4⟩:=hok;simp only at q1 q3 q4;subst q1;walk_at "T";refine ⟨_,(zc (zj (qh (x:="Joiner") ⟨rfl,rfl,rfl⟩ hr (za (zk (pq 0) rfl) (za (zt (zk (pq 0) rfl) zd) zb))))),?_⟩;exists iE4 a.t _ _ _ ⟨(Jv T).mono,iE5 y a.t dx fs _ (iA6 rfl h0 T.gc T.gd e1 ?_)⟩;refine ra h0 T.gc T.gg e2 (zq (SqL.of h2) at0 ?_);intro z dz hz hdz hne;refine iE5 z dz l1 (.int ov) (iv ins) (iA5 rfl mv (SqL.of (qe hz hdz h1)) (my h1 hz) ?_);rw [aA (by rw [iv,ah];exact ⟨q3,q4⟩)];intro H' m1 m2 s' g1 g2 g3 n1 n2;exact ⟨rfl,k _ _ (Own.of_new hz hdz s') (XB (p:=New H) (ins:=ins) (outs:=[ov]) hz (zD n1) (zD n2) g1 g2 g3)⟩
def CT (T:Txt K mg a) (wd:Wd):Cls K (xf a wd):=by
 cases wd
 ·exact T.fO
 ·exact T.fZ
 ·exact T.gb
 ·exact T.fP
 ·exact T.fW
 ·exact T.gc
def NI (T:Txt K mg a) (wd:Wd):NoAttr K (xf a wd) "ins":=by
 cases wd
 ·exact T.gX
 ·exact T.gE
 ·exact T.gr
 ·exact T.fV
 ·exact T.gF
 ·exact T.gd
def NO (T:Txt K mg a) (wd:Wd):NoAttr K (xf a wd) "outs":=by
 cases wd
 ·exact T.gf
 ·exact T.gY
 ·exact T.fX
 ·exact T.fT
 ·exact T.gx
 ·exact T.gg
def WT (T:Txt K mg a) (wd:Wd):WI K (xf a wd):=by
 cases wd
 ·exact T.lQ
 ·exact T.lW
 ·exact T.lS
 ·exact T.iQ
 ·exact T.lX
 ·exact T.lT
def zdz (T:Txt K mg a) (wd:Wd):MCal P w K mg base (xf a wd) "copied" 4 ["self"] [] (jT a wd):=by
 cases wd
 ·exact Qn T
 ·exact Jo T
 ·exact Qp T
 ·exact wy T
 ·exact Jm T
 ·exact Qr T
theorem Xp:∀ (xs ys:A6),xs.Perm ys->xs.Pairwise (·<=·)->ys.Pairwise (·<=·)->xs=ys
 | [],ys,h,_,_=>(List.nil_perm.mp h).symm
 | x :: xs,[],h,_,_=>absurd h.length_eq (by simp)
 | x :: xs,y :: ys,h,hx,hy=>by
  have e:x=y:=by
   have h1:y∈x :: xs:=h.mem_iff.mpr (by simp);have h2:x∈y :: ys:=h.mem_iff.mp (by simp);rcases az.mp h1 with e|m1
   ·exact e.symm
   rcases az.mp h2 with e|m2
   ·exact e
   have:=(cX.mp hx).1 y m1;have:=(cX.mp hy).1 x m2
   lia
  subst e;rw [Xp xs ys h.cons_inv (cX.mp hx).2 (cX.mp hy).2]
noncomputable def rgI (n:Nat):List Int:=(List.range n).map λ (i:Nat)=>(i:Int)
def zaF (n:Nat):(rgI n).Pairwise (·<=·):=by
 unfold rgI;rw [List.pairwise_map];exact eR.imp λ {i j} h=>by lia
def zey (n:Nat):rgL 0 n=iv (rgI n):=by
 simp [rgL,iv,rgI,dC,dZ]
theorem QR:∀ ms ns:List Int,jU (iv ms) (iv ns)=decide (ms=ns)
 | [],[]=>rfl
 | [],_ :: _=>rfl
 | _ :: _,[]=>rfl
 | m :: ms,n :: ns=>by
  show (eqV (.int m) (.int n) && jU (iv ms) (iv ns))=_
  rw [QR ms ns];by_cases e:m=n
  ·subst e;simp [eqV]
  ·simp [eqV,e]
def zbG (ns:A6):(iv ns).all xE=true:=dc.mpr λ x hx=>by
 obtain ⟨n,_,rfl⟩:=aP.mp hx
 rfl
def zez {p q:Addr} {ms ns:A6} (h1:SqL K H p (iv ms)) (h2:SqL K H q (iv ns)) (k:Q (.bl (!decide (ms=ns))) H):Vp K (.ref p) (.ref q) H Q :=
 .inr (.inl ⟨p,q,iv ms,iv ns,rfl,rfl,.inl ⟨h1,h2⟩,zbG ms,zbG ns,by rw [QR];exact k⟩)
def WY (K:A0) (a:Ad):Sp:=λ vs H Q E=>∃ (bl kl:Addr) (xs ys:Ao),vs=[.ref bl,.ref kl]/\SqL K H bl xs/\SqL K H kl ys/\if (1<=xs.length/\xs.length<=24)/\1<=ys.length/\ys.length<=24 then Q .non H else E (.ref a.f) none H
def WE (T:Txt K mg a):Cal P w K mg base "check_size" 1 ["belts","knots"] [] (WY K a):=T.i5.cal λ F=>by
 refine F.okx JU ?_ ?_
 ·walk_at "i"
 walk_at "k";refine oE4 h λ bl kl xs ys l9=>oA4 l9 λ m5 h1 h2 k=>?_;clear l9 h;subst m5;obtain ⟨t1,g1⟩:=T.kb;obtain ⟨t2,g2⟩:=T.ke;walk_at "T";refine ⟨_,(zh (zx (qY (jy jJ jJ zd (zy zN zJ (za (pq 0) zb)) qC))  (zc (qI ⟨rfl,rfl,rfl⟩ rfl (za j9 zb)))  zm)  (zc (zx (qY (jy jJ jJ zd (zy zN zJ (za (pq 1) zb)) qC))  (zc (qI ⟨rfl,rfl,rfl⟩ rfl (za j9 zb)))  zm))),?_⟩;left;have bad:¬ ((1<=xs.length/\xs.length<=24)/\1<=ys.length/\ys.length<=24)->∃ C,mg "BadWork"=some (Value.ref C)/\XC K C/\E (Value.ref C) none H:=λ h=>by
  rw [aq h] at k;exact ⟨a.f,iA3 T.hZ T.kg k⟩
 refine ⟨_,.inl ⟨_,h1,rfl⟩,?_⟩;exists zA (λ b1=>?_) (λ b1=>bad (by lia));refine iE2 (.int 24) _ (iA3 g1 ⟨_,rfl⟩ ?_);exists zA (λ b2=>?_) (λ b2=>bad (by lia));exists ⟨_,.inl ⟨_,h2,rfl⟩,?_⟩;exists zA (λ b3=>?_) (λ b3=>bad (by lia));refine iE2 (.int 24) _ (iA3 g2 ⟨_,rfl⟩ ?_);exists zA (λ b4=>?_) (λ b4=>bad (by lia));rw [aA (by lia)] at k;left;exact k
def zai (K:A0) (a:Ad):Sp:=λ vs H Q E=>∃ (l:Addr) (ns:A6) (n:Nat),vs=[.ref l,.int n]/\SqL K H l (iv ns)/\ns.length < 64/\n<=1000/\(ns.Perm (rgI n)->∀ H',Same H H'->Q .non H')/\(¬ ns.Perm (rgI n)->∀ H',Same H H'->E (.ref a.f) none H')
def xp (T:Txt K mg a):Cal P w K mg base "check_each_once" 1 ["named","size"] [] (zai K a):=T.gO.cal λ F=>by
 refine F.okx vC ?_ ?_
 ·walk_at "i"
 walk_at "k";refine oE3 h λ l ns n l9=>oA6 l9 λ m5 hl h64 hn kok kbad=>?_;clear l9 h;subst m5;walk_at "T";refine ⟨_,(zc (zx (zl (Zf hr.units1) (zy zcL zcK (za (pq 0) zb)) (jz (zd9 rfl) xq (za (zfT (za (pq 1) zb)) zb)) (zn _))  (zc (qI ⟨rfl,rfl,rfl⟩ rfl (za j9 zb)))  zm)),?_⟩;exists iE2 l ns (iA4 rfl hl h64 (λ ms q1 hp hs hq1=>?_));left;intro q2 hq2;refine iE3 q2 0 n (iA4 rfl mv (iA5 (by lia) (by lia) (by lia) (by lia) (by lia)) (λ q3 hq3=>?_));rw [show ((n:Int) - 0).toNat=n by lia,zey];left;have sm:Same H (upd (upd (upd H q1 (.lst (iv ms))) q2 (.rng 0 n)) q3 (.lst (iv (rgI n)))):=(zf hq1).trans ((zf hq2).trans (zf hq3));refine zez (ms:=ms) (ns:=rgI n) (SqL.of (mz (mz mv hq2) hq3)) (SqL.of mv) ?_;exists zA (λ b1=>?_) (λ b1=>?_)
 ·refine ⟨a.f,iA3 T.hZ T.kg (kbad (λ z=>b1 (Xp _ _ (hp.trans z) hs (zaF n))) _ sm)⟩
 ·exists kok ?_ _ sm;have e:ms=rgI n:=fe b1;rw [<- e];exact hp.symm
noncomputable def jK (rs:As):List Int:=rs.flatMap Row.outs
noncomputable def qm (rs:As):List Int:=rs.flatMap Row.ins
noncomputable def wf (l1 l2:Addr):List (Str × V):=z5 "knots" (.ref l2) (z5 "belts" (.ref l1) [])
def qc (bs:A1) (rs:As):Prop:=((1<=bs.length/\bs.length<=24)/\1<=rs.length/\rs.length<=24)/\(jK rs).Perm (rgI bs.length)/\(qm rs).Perm (rgI bs.length)
def vy (K:A0) (a:Ad):Sp:=λ vs H Q E=>∃ (y dx bl kl:Addr) (bvs me:Ao) (bs:A1) (rs:As) (p:A5),vs=[.ref y,.ref bl,.ref kl]/\H y=some (.ins a.u dx [])/\bl≠y/\kl≠y/\(∀ b,p b->b≠y) /\
 H bl=some (.lst bvs)/\H kl=some (.lst me)/\Bts a H p bvs bs/\Kns a H p me rs/\(∀ b∈bs,zF b.1 b.2)/\(∀ r∈rs,r.ok)/\(jK rs).length < 64/\(qm rs).length < 64/\bs.length<=1000 /\
 (qc bs rs->∀ H' l1 l2 bvs' kvs',Own H H' y->H' y=some (.ins a.u dx (wf l1 l2))->H' l1=some (.lst bvs')->H' l2=some (.lst kvs')->Bts a H' (New H) bvs' bs->Kns a H' (New H) kvs' rs->H l1=none->H l2=none->Q .non H') /\
 (¬ qc bs rs->∀ H',Same H H'->E (.ref a.f) none H')
def za7 {rs:As} {r:Row} (h:rs[i]?=some r):jK (rs.take (i + 1))=jK (rs.take i) ++ r.outs:=by
 unfold jK;rw [aR,h,eU];simp
def X0 {rs:As} {r:Row} (h:rs[i]?=some r):qm (rs.take (i + 1))=qm (rs.take i) ++ r.ins:=by
 unfold qm;rw [aR,h,eU];simp
def jO (f:Row->List Int) (rs:As) (i:Nat):((rs.take i).flatMap f).length<=(rs.flatMap f).length:=by
 conv=>rhs;rw [<- eV i rs,eU,aM]
 lia
def zaY (xs ys:A6):iv xs ++ iv ys=iv (xs ++ ys):=by rw [iv,iv,iv,a7]
def Wo (T:Txt K mg a) (F:Fun K "__init__" "Work.__init__" jc f fd):FnOk P w K mg base (CXr P w) 5 f fd ["self","belts","knots"] (vy K a):=by
 refine F.okx Wb ?_ ?_
 ·walk_at "i"
 walk_at "k";refine oE5 h λ y dx bl kl bvs l9=>oE4 l9 λ me bs rs p m5=>oA9 m5 λ mh hy nby nky hpy hb hk hB mq=>oA8 mq λ hKs hbo hro h64 h64' hlb kok kbad=>?_;clear l9 m5 mq h;subst mh;walk_at "T";refine ⟨_,(zg (zp ‹(pq 1) (za (pq 2) zb)›)  (zg (zo 3 Wb.nd (zC zb))  (zg (zo 4 Wb.nd (zC zb))  (zg (qq qS rfl (zX (pq 2)) (qd 5 Wb.nd)  (zg (zp (qk am ck cj wT (pq 3) (za (zk (pq 5) rfl) zb)))  (zc (zp (qk am ck cj wT (pq 4) (za (zk (pq 5) rfl) zb))))))  (zg (zp ‹(pq 3) (za (zy zN zJ (za (pq 1) zb)) zb)›)  (zg (zp ‹(pq 4) (za (zy zN zJ (za (pq 1) zb)) zb)›)  (zg (jh (pq 0) (xb (vars:=["belt"]) (caps:=[]) (N:=["belt"]) (ON:=["self","belts","knots","fed","taken","knot"]) (osc:=ze jc) rfl rfl (by right) rfl rfl (zX (pq 1)) (λ _ _ _ _=>(qd 0 (show (["belt"]:A8).Nodup from by symm))) (λ _ _ _ _=>z6) (λ _ _ _ _=>(zfU (x:="Belt") hr (za (zk (pq 0) rfl) (za (zk (pq 0) rfl) zb))))) rfl)  (zc (jh (pq 0) (xb (vars:=["knot"]) (caps:=[]) (N:=["knot"]) (ON:=["self","belts","knots","fed","taken","knot"]) (osc:=ze jc) rfl rfl (by right) rfl rfl (zX (pq 2)) (λ _ _ _ _=>(qd 0 (show (["knot"]:A8).Nodup from by symm))) (λ _ _ _ _=>z6) (λ _ _ _ _=>(zdl hr (pq 0)))) rfl))))))))),?_⟩;exists uc (WE T).mono (iE4 bl kl bvs me (iA4 rfl (SqL.of hb) (SqL.of hk) (zA (λ b1=>?_) (λ b1=>?_))))
 rotate_left
 ·refine kbad (λ z=>b1 ?_) H (Same.refl _);rw [hB.len,hKs.len];exact z.1
 rw [hB.len,hKs.len] at b1;left;intro fl hfl;left;intro tl htl;have nft:fl≠tl:=my mv htl;have htl0:H tl=none:=zG htl;walk_at "e";left;have s2:Same H (upd (upd H fl (.lst [])) tl (.lst [])):=(zf hfl).trans (zf htl);refine ⟨kl,rfl,.inl ⟨⟨_,SqL.of (s2 _ _ hk)⟩,?_⟩⟩;let mj:Nat->St->Hp->Prop:=λ i σ H'=>∃ v5,σ=[some (.ref y),some (.ref bl),some (.ref kl),some (.ref fl),some (.ref tl),v5]/\Same H H'/\H' fl=some (.lst (iv (jK (rs.take i))))/\H' tl=some (.lst (iv (qm (rs.take i))));refine qt (K:=K) (a:=kl) (xs:=me) mj ⟨_,iA4 rfl s2 (mz mv htl) mv⟩ (λ i σ H' _ ⟨_,_,s,_⟩=>SqL.of (s _ _ hk)) ?_ ?_
 ·intro i x σ H' hi m8;refine oE1 m8 λ v5 l9=>oA4 l9 λ m5 s3 e1 e2=>?_;ext;obtain ⟨r,hr',hKn0⟩:=hKs.at hi;refine oE6 hKn0.inv λ y1 dx1 l1 l2 l3 fs l9=>oA9 l9 λ m5 p0 p1 p2 p3 h0 f1 f2 mh=>oA5 mh λ f3 h1 h2 h3 h4=>?_;clear l9 mh;subst m5;have L1:=jO Row.outs rs i;have L2':=jO Row.ins rs i;have L3:=jO Row.outs rs (i + 1);have L4:=jO Row.ins rs (i + 1);have E1:=za7 hr';have E2:=X0 hr';have n1:∀ {b:Addr} {o:HO},H b=some o->b≠fl:=λ h=>my h hfl;have n2:∀ {b:Addr} {o:HO},H b=some o->b≠tl:=λ h=>my h htl0;exists ⟨.inl ⟨rfl,_,SqL.of e1⟩,iE5 y1 (xf a r.wd) dx1 fs _ (iA6 rfl (s3 _ _ h0) (CT T _) (NO T _) f2 ?_)⟩;refine iE4 fl l2 _ _ (iA6 rfl rfl e1 (s3 _ _ h2) ?_ ?_)
  ·refine bV (zi ?_);have:=ce List.length E1;rw [aM] at this;rw [iv,iv,ah,ah];unfold jK at this h64 ⊢
   lia
  left;have e2':upd H' fl (.lst (iv (jK (rs.take i)) ++ iv r.outs)) tl=some (.lst (iv (qm (rs.take i)))):=by rw [mw (aZ nft)];exact e2
  refine ⟨.inl ⟨rfl,_,SqL.of e2'⟩,iE5 y1 (xf a r.wd) dx1 fs _ (iA6 rfl ?_ (CT T _) (NI T _) f1 ?_)⟩
  ·rw [mw (n1 h0)];exact s3 _ _ h0
  refine iE4 tl l1 _ (iv r.ins) (iA6 rfl rfl e2' ?_ ?_ ?_)
  ·rw [mw (n1 h1)];exact s3 _ _ h1
  ·refine bV (zi ?_);have:=ce List.length E2;rw [aM] at this;rw [iv,iv,ah,ah];unfold qm at this h64' ⊢
   lia
  refine ⟨_,iA4 rfl (λ b o hb=>?_) ?_ ?_⟩
  ·rw [mw (n2 hb),mw (n1 hb)];exact s3 _ _ hb
  ·rw [mw nft,mv,E1,zaY]
  ·rw [mv,E2,zaY]
 ·intro σ H1 m8;refine oE1 m8 λ v5 l9=>oA4 l9 λ m5 s3 e1 e2=>?_;ext;rw [hKs.len,aV] at e1 e2;exists uc (xp T).mono ⟨fU,⟨_,⟨.inl ⟨_,SqL.of (s3 _ _ hb),rfl⟩,?_⟩⟩⟩;rw [hB.len];refine iE3 fl (jK rs) bs.length (iA6 rfl (SqL.of e1) h64 hlb (λ g1 H2 s4=>?_) (λ g1 H2 s4=>kbad (λ z=>g1 z.2.1) _ (s3.trans s4)));exists uc (xp T).mono ⟨fU,⟨_,⟨.inl ⟨_,SqL.of (s4 _ _ (s3 _ _ hb)),rfl⟩,?_⟩⟩⟩;rw [hB.len];refine iE3 tl (qm rs) bs.length (iA6 rfl (SqL.of (s4 _ _ e2)) h64' hlb (λ g2 H3 s5=>?_) (λ g2 H3 s5=>kbad (λ z=>g2 z.2.2) _ (s3.trans (s4.trans s5))));have kok:=kok ⟨b1,g1,g2⟩;have s6:=s3.trans (s4.trans s5);clear s3 s4 s5 e1 e2;clear g1 g2;left;walk_at "d";exists ⟨bl,rfl,.inl ⟨⟨_,SqL.of (s6 _ _ hb)⟩,λ _ _ _ _ mf hacc=>?_⟩⟩;have nacc:H mf=none:=zM s6 hacc;let ml:Nat->St->Hp->Prop:=λ i σ H'=>∃ v us,σ=[v]/\Same H3 H'/\H' mf=some (.lst us)/\Bts a H' (λ b=>H3 b=none/\b≠mf) us (bs.take i);refine qt (K:=K) (a:=bl) (xs:=bvs) ml (iE2 _ ([]) (iA4 rfl (zf hacc) mv (by rw [cq];exact .nil))) (λ i σ H' _ ⟨_,_,_,s,_⟩=>SqL.of (s _ _ (s6 _ _ hb))) ?_ ?_
  ·intro i x σ H' hi m8;refine oE2 m8 λ v us l9=>oA4 l9 λ m5 s7 e1 hU=>?_;ext;obtain ⟨⟨rm,pc⟩,hr',hBt0⟩:=hB.at hi;refine oE3 hBt0.inv λ y1 dx1 fs l9=>oA5 l9 λ m5 p0 h0 f1 f2=>?_;clear l9;subst m5;have hok:=hbo _ (ai hr');have hil:i < bs.length:=(aa.mp hr').1;have h0':=s7 _ _ (s6 _ _ h0);exists iE4 a.m _ _ _ ⟨(vM T).mono,iE5 y1 a.m dx1 fs _ (iA6 rfl h0' T.gq T.gD f1 (iE5 y1 a.m dx1 fs _ (iA6 rfl h0' T.gq T.fY f2 ?_)))⟩;intro z dz hz hdz hne;refine iE4 z dz rm pc (iA3 rfl mv ?_);rw [aA hok,vV];have sN:Same H' (upd (upd H' dz (.own z)) z (.ins a.m dz (bf rm pc))):=λ b o h=>by rw [mw (my h hz),mw (my h hdz)];exact h
   have hz':upd (upd H' dz (.own z)) z (.ins a.m dz (bf rm pc)) z=some (.ins a.m dz (bf rm pc)):=mv;generalize upd (upd H' dz (.own z)) z (.ins a.m dz (bf rm pc))=H4 at sN hz' ⊢;have hzn:z≠mf:=λ q=>by rw [q,e1] at hz;cases hz
   refine ⟨rfl,⟨_,iA3 (sN _ _ e1) (zi (by have:=hU.len;rw [aW] at this;lia)) (iE2 _ (us ++ [.ref z]) (iA4 rfl (λ b o hb=>?_) mv ?_))⟩⟩
   ·rw [mw (my hb hacc)];exact sN _ _ (s7 _ _ hb)
   ·rw [aR,hr'];refine Bts.push (hU.keep λ b o hp hb=>⟨hp,by rw [mw hp.2];exact sN _ _ hb⟩) (zft (p:=λ b=>H3 b=none/\b≠mf) ⟨zM s7 hz,hzn⟩ (by rw [mw hzn];exact hz'))
  ·intro σ H4 m8;refine oE2 m8 λ v us l9=>oA4 l9 λ m5 s7 e1 hU=>?_;ext;rw [hB.len,aV] at hU;have s8:=s6.trans s7;have nacy:mf≠y:=(my hy nacc).symm;exists iE4 y a.u dx ([]) (iA6 rfl (s8 _ _ hy) T.fG T.fJ (by decide) ?_);have o9:Own H (upd H4 y (.ins a.u dx (z5 "belts" (.ref mf) []))) y:=(Same.own s8).trans qV;have hy9:upd H4 y (.ins a.u dx (z5 "belts" (.ref mf) [])) y=some (.ins a.u dx (z5 "belts" (.ref mf) [])):=mv;have e9:upd H4 y (.ins a.u dx (z5 "belts" (.ref mf) [])) mf=some (.lst us):=by rw [mw nacy];exact e1
   have hU9:Bts a (upd H4 y (.ins a.u dx (z5 "belts" (.ref mf) []))) (λ b=>H b=none/\b≠y) us bs:=hU.keep λ b o hp hb=>by
    have q1:H b=none:=zM s6 hp.1;have q2:b≠y:=(my hy q1).symm;exact ⟨⟨q1,q2⟩,by rw [mw q2];exact hb⟩
   generalize upd H4 y (.ins a.u dx (z5 "belts" (.ref mf) []))=H5 at o9 hy9 e9 hU9 ⊢;left;walk_at "d";exists ⟨kl,rfl,.inl ⟨⟨_,SqL.of (o9 _ _ nky hk)⟩,λ _ _ _ _ ac2 hac2=>?_⟩⟩;let mr:Nat->St->Hp->Prop:=λ i σ H'=>∃ v us2,σ=[v]/\Same H5 H'/\H' ac2=some (.lst us2)/\Kns a H' (λ b=>H5 b=none/\b≠ac2) us2 (rs.take i);refine qt (K:=K) (a:=kl) (xs:=me) mr (iE2 _ ([]) (iA4 rfl (zf hac2) mv (by rw [cq];exact .nil))) (λ i σ H' _ ⟨_,_,_,s,_⟩=>SqL.of (s _ _ (o9 _ _ nky hk))) ?_ ?_
   ·intro i x σ H' hi m8;refine oE2 m8 λ v us2 l9=>oA4 l9 λ m5 s10 e2 hV=>?_;ext;obtain ⟨r,hr',hKn⟩:=hKs.at hi;have hok:=hro _ (ai hr');have hil:i < rs.length:=(aa.mp hr').1;have hKn':KnP a H' p x r:=hKn.keep λ b o hp hb=>⟨hp,s10 _ _ (o9 _ _ (hpy b hp) hb)⟩;refine oE6 hKn'.inv λ y1 dx1 l1 l2 l3 fs l9=>oA9 l9 λ m5 p0 p1 p2 p3 h0 f1 f2 mh=>oA5 mh λ f3 h1 h2 h3 h4=>?_;clear l9 mh;subst m5;exists iE7 y1 (xf a r.wd) dx1 fs _ _ _ (iA5 rfl h0 f3 ((zdz T r.wd).mono) ?_);refine iE3 y1 r p (iA5 rfl hKn' rfl hok (λ v' H6 s11 hN=>?_));refine ⟨_,iA3 (s11 _ _ e2) (zi (by have:=hV.len;rw [aW] at this;lia)) (iE2 _ (us2 ++ [v']) (iA4 rfl (λ b o hb=>?_) mv ?_))⟩
    ·rw [mw (my hb hac2)];exact s11 _ _ (s10 _ _ hb)
    ·rw [aR,hr'];refine Kns.append (hV.keep λ b o hp hb=>⟨hp,by rw [mw hp.2];exact s11 _ _ hb⟩) (Kns.one (hN.keep λ b o hp hb=>?_));have q2:b≠ac2:=λ z=>by rw [z] at hp;rw [New,e2] at hp;cases hp
     exact ⟨⟨zM s10 hp,q2⟩,by rw [mw q2];exact hb⟩
   ·intro σ H6 m8;refine oE2 m8 λ v us2 l9=>oA4 l9 λ m5 s10 e2 hV=>?_;ext;rw [hKs.len,aV] at hV;have hy10:=s10 _ _ hy9;exists iE4 y a.u dx _ (iA6 rfl hy10 T.fG T.fF (by show 1 < 1000;decide) ?_);have n2y:ac2≠y:=λ z=>by rw [z,hy9] at hac2;cases hac2
    have ho:∀ b,H5 b=none->b≠y->H b=none:=λ b h1 h2=>by
     cases e:H b with
     | none=>rfl
     | some o=>rw [o9 b o h2 e] at h1;cases h1
    refine kok _ mf ac2 us us2 ((o9.trans (Same.own s10)).trans qV) mv ?_ ?_ ?_ ?_ nacc (ho _ hac2 n2y)
    ·rw [mw nacy];exact s10 _ _ e9
    ·rw [mw n2y];exact e2
    ·exact hU9.keep λ b o hp hb=>⟨hp.1,by rw [mw hp.2];exact s10 _ _ hb⟩
    ·refine hV.keep λ b o hp hb=>?_;have q:b≠y:=λ z=>by rw [z,hy9] at hp;cases hp.1
     exact ⟨ho b hp.1 q,by rw [mw q];exact hb⟩
def zaX (T:Txt K mg a):KCal P w K mg base "Work" a.u 5 ["self","belts","knots"] [] (vy K a):=T.ky.cal T.l6 (Wo T)
noncomputable def zg2 (b:Int × Int):D:=.tup [.int b.1,.int b.2]
def Wh (n:Nat):(rgI n).length=n:=by simp [rgI]
def Vm (n:Nat):rgI (n + 1)=rgI n ++ [(n:Int)]:=by simp [rgI,d7]
def zu (ns:A6):(iv ns).length=ns.length:=by rw [iv,ah]
def Zn {x:V} (h:(iv ns)[i]?=some x):∃ n,ns[i]?=some n/\x=.int n:=by
 rw [iv,au,aC] at h;obtain ⟨n,h1,h2⟩:=h;exact ⟨n,h1,h2.symm⟩
def wD (h:ns[i]?=some n):(iv ns)[i]?=some (.int n):=by rw [iv,au,h];rfl
def Jx (ns:A6) (k:Nat):(iv ns).eraseIdx k=iv (ns.eraseIdx k):=by
 induction ns generalizing k with
 | nil=>simp [iv]
 | cons n ns ih =>
  cases k with
  | zero=>simp [iv]
  | succ k=>simpa [iv] using ih k
def qw (ns:A6) (n:Int):iv ns ++ [.int n]=iv (ns ++ [n]):=by simp [iv]
abbrev ms4 (L R E B:Addr):List Addr:=[L,R,E,B]
structure WInv (bs:A1) (rs:As) (es ks:A6):Prop where
 tk:(qm rs ++ es).Perm (rgI bs.length)
 fd:(jK rs ++ ks).Perm (rgI bs.length)
 ro:∀ r∈rs,r.ok
 bo:∀ b∈bs,zF b.1 b.2
def za8 (rs:As) (r:Row):jK (rs ++ [r])=jK rs ++ r.outs:=by simp [jK]
def X1 (rs:As) (r:Row):qm (rs ++ [r])=qm rs ++ r.ins:=by simp [qm]
def zbP {us:Ao} {n:Nat} (h:us.length=n + 1):∃ a vs,us=a :: vs/\vs.length=n:=by
 cases us with
 | nil=>cases h
 | cons a vs=>exact ⟨a,vs,rfl,Nat.succ.inj h⟩
def two_of {us:Ao} (h:us.length=2):∃ a b,us=[a,b]:=by
 obtain ⟨a,_,rfl,h1⟩:=zbP h;obtain ⟨b,_,rfl,h2⟩:=zbP h1;exact ⟨a,b,by rw [bK.mp h2]⟩
theorem Zd:∀ {es:A6} {j:Nat} {y:Int},es[j]?=some y->(y :: es.eraseIdx j).Perm es
 | [],_,_,h=>by simp at h
 | e :: es,0,y,h=>by
  have h:e=y:=by simpa using h
  subst h;simp
 | e :: es,j + 1,y,h=>by
  have ih:=Zd (es:=es) (j:=j) (y:=y) (by simpa using h);rw [List.eraseIdx_cons_succ];exact (List.Perm.swap e y _).trans (ih.cons e)
def zeR {n:Nat} {x:Int} (h:x∈rgI n):0<=x/\x < n:=by
 unfold rgI at h;obtain ⟨i,hi,rfl⟩:=aP.mp h;have:=bu.mp hi
 lia
def zbJ {α:Type} {xs:List α} {x:α} (h:xs[i]?=some x):xs.drop i=x :: xs.drop (i + 1):=by
 obtain ⟨hi,rfl⟩:=aa.mp h;exact List.drop_eq_getElem_cons hi
def Jc {b:Int × Int} (h:Rep H p v (zg2 b)):∃ t,v=.ref t/\H t=some (.tup [.int b.1,.int b.2]):=by
 obtain ⟨t,us,rfl,_,ht,rr⟩:=Rep.tup' h;have g:=rr.g;obtain ⟨x0,x1,rfl⟩:=two_of rr.len;have a0:=g 0 x0 _ rfl rfl;have a1:=g 1 x1 _ rfl rfl;cases a0;cases a1;exact ⟨t,rfl,ht⟩
noncomputable def qf (a:Ad) (bs:A1) (rs:As):D:=.ob a.u [("belts",.lst (bs.map (vo a))),("knots",.lst (rs.map (wa a)))]
def zgy {l1 l2:Addr}:wf l1 l2=([(("belts":Str),V.ref l1),(("knots":Str),V.ref l2)]:Aq):=by
 unfold wf;simp only [z5];rw [aq (by symm)]
def WH {a:Ad} {rs:As}:([("belts",.lst (bs.map (vo a))),("knots",.lst (rs.map (wa a)))]:List (Str × D)).lookup ("belts":Str)=some (.lst (bs.map (vo a))):=qK
def zcS {a:Ad} {rs:As}:([("belts",.lst (bs.map (vo a))),("knots",.lst (rs.map (wa a)))]:List (Str × D)).lookup ("knots":Str)=some (.lst (rs.map (wa a))):=(zH (by symm)).trans qK
def zgx {a:Ad} {rs:As} {f:Str} (h1:f≠"belts") (h2:f≠"knots"):([("belts",.lst (bs.map (vo a))),("knots",.lst (rs.map (wa a)))]:List (Str × D)).lookup f=none:=(zH h1).trans (zH h2)
def zdr {x b:Addr} (h:H x=some o) (hb:H b=none):b ∉ [x]:=λ z=>by rw [ay.mp z,h] at hb;cases hb
section
variable {H:Hp} {z dz:Addr} {Q:VK} {EX:XK}
def wU {rm pc:Int} (hz:H z=none) (hdz:H dz=none) (ok:zF rm pc) (k:∀ H',Same H H'->BtP a H' (New H) (.ref z) (rm,pc)->Q .non H'):vz a.m a.d [.ref z,.int rm,.int pc] (upd (upd H dz (.own z)) z (.ins a.m dz [])) Q EX:=by
 refine iE4 z dz rm pc (iA3 rfl mv ?_);rw [aA ok,vV];exact k _ (λ b o h=>by rw [mw (my h hz),mw (my h hdz)];exact h) (zft hz mv)
def Zh {y pc:Int} (hz:H z=none) (hdz:H dz=none) (h0:0<=pc) (h4:pc<=4) (k:∀ H',Same H H'->KnP a H' (New H) (.ref z) ⟨.drain,[y],[],pc,[]⟩->Q .non H'):wl a.p a.e [.ref z,.int y,.int pc] (upd (upd H dz (.own z)) z (.ins a.p dz [])) Q EX:=by
 refine iE4 z dz (.int y) pc (iA3 rfl mv ?_);rw [aA ⟨h0,h4⟩];intro H' m1 m2 s' g1 g2 g3 n1 n2;exact k _ (Own.of_new hz hdz s') (VP (p:=New H) (ins:=[y]) (outs:=[]) hz (zD n1) (zD n2) g1 g2 g3)
def ZX {y pc:Int} {kd:A6} (hz:H z=none) (hdz:H dz=none) (hl:H l=some (.lst (iv kd))) (h1:1<=pc) (h4:pc<=4) (k1:1<=kd.length) (k6:kd.length<=6) (kk:xg kd) (k:∀ H',Same H H'->KnP a H' (New H) (.ref z) ⟨.source,[],[y],pc,kd⟩->Q .non H'):xK K a.o a.e [.ref z,.int y,.int pc,.ref l] (upd (upd H dz (.own z)) z (.ins a.o dz [])) Q EX:=by
 refine iE6 z dz l (.int y) pc kd (iA6 rfl mv (SqL.of (qe hz hdz hl)) (my hl hz) (λ _ H' m1 m2 m3 s' g1 g2 g3 g4 n1 n2 n3=>?_) (λ hbad=>absurd (iA5 h1 h4 k1 k6 kk) hbad));exact k _ (Own.of_new hz hdz s') (Xz (p:=New H) (ins:=[]) (outs:=[y]) hz (zD n1) (zD n2) (zD n3) g1 g2 g3 g4)
def Xu {y:Int} (hz:H z=none) (hdz:H dz=none) (hl:H l=some (.lst (iv outs))) (h2:2<=outs.length) (h4:outs.length<=4) (k:∀ H',Same H H'->KnP a H' (New H) (.ref z) ⟨.parter,[y],outs,0,[]⟩->Q .non H'):qN K a.q a.e [.ref z,.int y,.ref l] (upd (upd H dz (.own z)) z (.ins a.q dz [])) Q EX:=by
 refine iE5 z dz l (.int y) (iv outs) (iA5 rfl mv (SqL.of (qe hz hdz hl)) (my hl hz) ?_);rw [aA (by rw [zu];exact ⟨h2,h4⟩)];intro H' m1 m2 s' g1 g2 g3 n1 n2;exact k _ (Own.of_new hz hdz s') (XA (p:=New H) (ins:=[y]) (outs:=outs) hz (zD n1) (zD n2) g1 g2 g3)
def zdy {y:Int} (hz:H z=none) (hdz:H dz=none) (hl:H l=some (.lst (iv outs))) (h2:2<=outs.length) (h4:outs.length<=4) (k:∀ H',Same H H'->KnP a H' (New H) (.ref z) ⟨.first,[y],outs,0,[]⟩->Q .non H'):qN K a.r a.e [.ref z,.int y,.ref l] (upd (upd H dz (.own z)) z (.ins a.r dz [])) Q EX:=by
 refine iE5 z dz l (.int y) (iv outs) (iA5 rfl mv (SqL.of (qe hz hdz hl)) (my hl hz) ?_);rw [aA (by rw [zu];exact ⟨h2,h4⟩)];intro H' m1 m2 s' g1 g2 g3 n1 n2;exact k _ (Own.of_new hz hdz s') (VO (p:=New H) (ins:=[y]) (outs:=outs) hz (zD n1) (zD n2) g1 g2 g3)
def zdx {y kk:Int} (hz:H z=none) (hdz:H dz=none) (hl:H l=some (.lst (iv outs))) (h2:outs.length=2) (k0:0<=kk) (k1:kk < jl) (k:∀ H',Same H H'->KnP a H' (New H) (.ref z) ⟨.sieve,[y],outs,0,[kk]⟩->Q .non H'):wj K a.s a.e [.ref z,.int y,.ref l,.int kk] (upd (upd H dz (.own z)) z (.ins a.s dz [])) Q EX:=by
 refine iE6 z dz l (.int y) (iv outs) kk (iA5 rfl mv (SqL.of (qe hz hdz hl)) (my hl hz) ?_);rw [aA (by rw [zu];exact ⟨h2,k0,k1⟩)];intro H' m1 m2 s' g1 g2 g3 n1 n2;exact k _ (Own.of_new hz hdz s') (VN (p:=New H) (ins:=[y]) (outs:=outs) hz (zD n1) (zD n2) g1 g2 g3)
def Xv {y:Int} {ins:A6} (hz:H z=none) (hdz:H dz=none) (hl:H l=some (.lst (iv ins))) (h2:2<=ins.length) (h4:ins.length<=4) (k:∀ H',Same H H'->KnP a H' (New H) (.ref z) ⟨.joiner,ins,[y],0,[]⟩->Q .non H'):xL K a.t a.e [.ref z,.ref l,.int y] (upd (upd H dz (.own z)) z (.ins a.t dz [])) Q EX:=by
 refine iE5 z dz l (.int y) (iv ins) (iA5 rfl mv (SqL.of (qe hz hdz hl)) (my hl hz) ?_);rw [aA (by rw [zu];exact ⟨h2,h4⟩)];intro H' m1 m2 s' g1 g2 g3 n1 n2;exact k _ (Own.of_new hz hdz s') (XB (p:=New H) (ins:=ins) (outs:=[y]) hz (zD n1) (zD n2) g1 g2 g3)
end
def WInv.knot {rs:As} {es ks es' ks':A6} {r:Row} (h:WInv bs rs es ks) (pe:(r.ins ++ es').Perm es) (pk:(r.outs ++ ks').Perm ks) (ok:r.ok):WInv bs (rs ++ [r]) es' ks':=by
 refine ⟨?_,?_,λ x hx=>?_,h.bo⟩
 ·rw [X1,bP];exact (bQ _ pe).trans h.tk
 ·rw [za8,bP];exact (bQ _ pk).trans h.fd
 ·rcases aF.mp hx with hx|hx
  ·exact h.ro x hx
  ·rw [ay.mp hx];exact ok
def WInv.perm {rs:As} {es ks es' ks':A6} (h:WInv bs rs es ks) (pe:es'.Perm es) (pk:ks'.Perm ks):WInv bs rs es' ks':=⟨(bQ _ pe).trans h.tk,(bQ _ pk).trans h.fd,h.ro,h.bo⟩
def WInv.belt {rs:As} {es ks:A6} {b:Int × Int} (h:WInv bs rs es ks) (hb:zF b.1 b.2):WInv (bs ++ [b]) rs (es ++ [(bs.length:Int)]) (ks ++ [(bs.length:Int)]):=by
 refine ⟨?_,?_,h.ro,λ x hx=>?_⟩
 ·rw [aM,cu,Vm,<- bP];exact cC _ h.tk
 ·rw [aM,cu,Vm,<- bP];exact cC _ h.fd
 ·rcases aF.mp hx with hx|hx
  ·exact h.bo x hx
  ·rw [ay.mp hx];exact hb
structure GS (a:Ad) (ms:Ab) (H0 H:Hp) (L R E B:Addr) (bs:A1) (rs:As) (es ks:A6):Prop where
 f:Fr (ms4 L R E B) H0 H
 nLR:L≠R
 nLE:L≠E
 nLB:L≠B
 nRE:R≠E
 nRB:R≠B
 nEB:E≠B
 m:∀ b∈ms4 L R E B,b∈ms
 hs:∀ b∈ms,∃ xs,H b=some (.lst xs)
 hL:∃ bvs,H L=some (.lst bvs)/\Reps H (Off ms) bvs (bs.map (vo a))
 hR:∃ rvs,H R=some (.lst rvs)/\Reps H (Off ms) rvs (rs.map (wa a))
 hE:H E=some (.lst (iv es))
 hB:H B=some (.lst (iv ks))
section
variable {ms:Ab} {H0 H H':Hp} {L R E B:Addr} {bs bs':A1} {rs rs':As} {es ks es' ks':A6}
def GS.same (w:GS a ms H0 H L R E B bs rs es ks) (s:Same H H'):GS a ms H0 H' L R E B bs rs es ks:=by
 obtain ⟨bvs,h1,r1⟩:=w.hL;obtain ⟨rvs,h2,r2⟩:=w.hR;exact { w with f:=w.f.trans s.fr,hs:=λ b hb=>by obtain ⟨xs,h⟩:=w.hs b hb;exact ⟨xs,s _ _ h⟩,hL:=⟨bvs,s _ _ h1,r1.same s⟩,hR:=⟨rvs,s _ _ h2,r2.same s⟩,hE:=s _ _ w.hE,hB:=s _ _ w.hB }
def GS.off (w:GS a ms H0 H L R E B bs rs es ks) (h:H x=none):x ∉ ms:=λ z=>by
 obtain ⟨xs,hx⟩:=w.hs x z;rw [hx] at h;cases h
def GS.here (w:GS a ms H0 H L R E B bs rs es ks):GS a ms H H L R E B bs rs es ks:={ w with f:=Fr.refl }
def GS.trans (w:GS a ms H0 H L R E B bs rs es ks) (v:GS a ms H H' L R E B bs' rs' es' ks'):GS a ms H0 H' L R E B bs' rs' es' ks':={ v with f:=w.f.trans v.f }
def JB (h:∀ b∈ms,∃ xs,H b=some (.lst xs)):∀ b∈ms,∃ ys,upd H x (.lst xs) b=some (.lst ys):=λ b hb=>by
 by_cases e:b=x
 ·subst e;exact ⟨_,mv⟩
 ·obtain ⟨ys,h⟩:=h b hb;exact ⟨ys,by rw [mw e];exact h⟩
def GS.setE (w:GS a ms H0 H L R E B bs rs es ks) (es':A6):GS a ms H0 (upd H E (.lst (iv es'))) L R E B bs rs es' ks:=by
 obtain ⟨bvs,h1,r1⟩:=w.hL;obtain ⟨rvs,h2,r2⟩:=w.hR;have f:Fr ms H (upd H E (.lst (iv es'))):=qx (w.m E (by simp));exact { w with f:=w.f.trans (qx (by simp)),hs:=JB w.hs,hL:=⟨bvs,by rw [mw w.nLE];exact h1,r1.fr f⟩,hR:=⟨rvs,by rw [mw w.nRE];exact h2,r2.fr f⟩,hE:=mv,hB:=by rw [mw w.nEB.symm];exact w.hB }
def GS.setB (w:GS a ms H0 H L R E B bs rs es ks) (ks':A6):GS a ms H0 (upd H B (.lst (iv ks'))) L R E B bs rs es ks':=by
 obtain ⟨bvs,h1,r1⟩:=w.hL;obtain ⟨rvs,h2,r2⟩:=w.hR;have f:Fr ms H (upd H B (.lst (iv ks'))):=qx (w.m B (by simp));exact { w with f:=w.f.trans (qx (by simp)),hs:=JB w.hs,hL:=⟨bvs,by rw [mw w.nLB];exact h1,r1.fr f⟩,hR:=⟨rvs,by rw [mw w.nRB];exact h2,r2.fr f⟩,hE:=by rw [mw w.nEB];exact w.hE,hB:=mv }
def GS.setX (w:GS a ms H0 H L R E B bs rs es ks) (hx:x∈ms) (nx:x ∉ ms4 L R E B) (h0:H0 x=none):GS a ms H0 (upd H x (.lst xs)) L R E B bs rs es ks:=by
 obtain ⟨bvs,h1,r1⟩:=w.hL;obtain ⟨rvs,h2,r2⟩:=w.hR;have f:Fr ms H (upd H x (.lst xs)):=qx hx;have n:∀ b∈ms4 L R E B,b≠x:=λ b hb z=>nx (by rw [<- z];exact hb);refine { w with f:=λ b o nb hb=>?_,hs:=JB w.hs,hL:=⟨bvs,by rw [mw (n L (by simp))];exact h1,r1.fr f⟩,hR:=⟨rvs,by rw [mw (n R (by simp))];exact h2,r2.fr f⟩,hE:=by rw [mw (n E (by simp))];exact w.hE,hB:=by rw [mw (n B (by simp))];exact w.hB };rw [mw (λ z=>by rw [z,h0] at hb;cases hb)];exact w.f b o nb hb
def GS.ext (w:GS a ms H0 H L R E B bs rs es ks) (hx:H x=none):GS a (x :: ms) H0 (upd H x (.lst xs)) L R E B bs rs es ks/\x ∉ ms4 L R E B:=by
 have w1:=w.same (zf (o:=.lst xs) hx);have nx:=w.off hx;obtain ⟨bvs,h1,r1⟩:=w.hL;obtain ⟨rvs,h2,r2⟩:=w.hR;have s:=zf (o:=.lst xs) hx;have mo:∀ b∈x :: ms,b∈ms\/H b=none:=λ b hb=>by
  rcases az.mp hb with rfl|hb
  ·exact .inr hx
  ·exact .inl hb
 refine ⟨{ w1 with m:=λ b hb=>aB _ (w.m b hb),hs:=λ b hb=>?_,hL:=⟨bvs,s _ _ h1,(r1.more mo).same s⟩,hR:=⟨rvs,s _ _ h2,(r2.more mo).same s⟩ },λ z=>nx (w.m x z)⟩;rcases az.mp hb with rfl|hb
 ·exact ⟨_,mv⟩
 ·exact w1.hs b hb
def GS.less (w:GS a (x :: ms) H0 H L R E B bs rs es ks) (nx:x ∉ ms4 L R E B):GS a ms H0 H L R E B bs rs es ks:=by
 obtain ⟨bvs,h1,r1⟩:=w.hL;obtain ⟨rvs,h2,r2⟩:=w.hR;have mo:∀ b∈ms,b∈x :: ms\/H b=none:=λ b hb=>.inl (aB _ hb);refine { w with m:=λ b hb=>?_,hs:=λ b hb=>w.hs b (aB _ hb),hL:=⟨bvs,h1,r1.more mo⟩,hR:=⟨rvs,h2,r2.more mo⟩ };rcases az.mp (w.m b hb) with rfl|h
 ·exact absurd hb nx
 ·exact h
def GS.addL (w:GS a ms H0 H L R E B bs rs es ks) {H1:Hp} {b:Int × Int} {bvs:Ao} (e:H L=some (.lst bvs)) (s:Same H H1) (q:BtP a H1 (New H) v b):GS a ms H0 (upd H1 L (.lst (bvs ++ [v]))) L R E B (bs ++ [b]) rs es ks/\bvs.length=bs.length:=by
 have w1:=w.same s;obtain ⟨bvs',h1,r1⟩:=w1.hL;rw [s _ _ e] at h1;cases h1;obtain ⟨rvs,h2,r2⟩:=w1.hR;have f:Fr ms H1 (upd H1 L (.lst (bvs ++ [v]))):=qx (w.m L (by simp));refine ⟨{ w1 with f:=w1.f.trans (qx (by simp)),hs:=JB w1.hs,hL:=⟨_,mv,?_⟩,hR:=⟨rvs,by rw [mw w.nLR.symm];exact h2,r2.fr f⟩,hE:=by rw [mw w.nLE.symm];exact w1.hE,hB:=by rw [mw w.nLB.symm];exact w1.hB },by rw [r1.len,ah]⟩;rw [a7];exact (r1.fr f).append (.one (Rep.fr (q.keep λ b o hb ho=>⟨w.off hb,ho⟩) f))
def GS.addR (w:GS a ms H0 H L R E B bs rs es ks) {H1:Hp} {r:Row} {rvs:Ao} (e:H R=some (.lst rvs)) (s:Same H H1) (q:KnP a H1 (Off ms) v r):GS a ms H0 (upd H1 R (.lst (rvs ++ [v]))) L R E B bs (rs ++ [r]) es ks/\rvs.length=rs.length:=by
 have w1:=w.same s;obtain ⟨bvs,h1,r1⟩:=w1.hL;obtain ⟨rvs',h2,r2⟩:=w1.hR;rw [s _ _ e] at h2;cases h2;have f:Fr ms H1 (upd H1 R (.lst (rvs ++ [v]))):=qx (w.m R (by simp));refine ⟨{ w1 with f:=w1.f.trans (qx (by simp)),hs:=JB w1.hs,hL:=⟨bvs,by rw [mw w.nLR];exact h1,r1.fr f⟩,hR:=⟨_,mv,?_⟩,hE:=by rw [mw w.nRE.symm];exact w1.hE,hB:=by rw [mw w.nRB.symm];exact w1.hB },by rw [r2.len,ah]⟩;rw [a7];exact (r2.fr f).append (.one (Rep.fr q f))
def GS.newK (w:GS a ms H0 H L R E B bs rs es ks) {H1:Hp} {r:Row} (q:KnP a H1 (New H) v r):KnP a H1 (Off ms) v r:=q.keep λ b o hb ho=>⟨w.off hb,ho⟩
end
def zbB {A C P G:Prop} [Decidable A] (p:A\/C->P) (g:¬ A->(C->P)->G):if A then P else G:=by
 by_cases a:A
 ·rw [aA a];exact p (.inl a)
 ·rw [aq a];exact g a λ c=>p (.inr c)
def Zb {α:Type} (xs:List α) (k:Nat):(xs.drop k ++ xs.take k).Perm xs:=by
 refine List.perm_append_comm.trans ?_;rw [eV]
def VU (xs:Ao) (k:Nat) (h:k<=xs.length):Zs xs (some (k:Int)) none=xs.drop k:=by
 unfold Zs;rw [HT.sIx_nat,HT.sIx_none,d9 h];exact cM (by rw [dg];lia)
def Zr (xs:Ao) (n:Nat):Zs xs none (some (n:Int))=xs.take n:=by
 have h:=HT.sIx_nat xs.length xs.length n;unfold Zs;rw [HT.sIx_none,h,Nat.sub_zero,List.drop_zero];by_cases e:n<=xs.length
 ·rw [d9 e]
 ·rw [Nat.min_eq_right (by lia),aV,cM (by lia)]
def zgp (ns:A6) (m:Nat):∃ cs:List Int,Zs (iv ns) (some 1) (some (1 + (m:Int)))=iv cs/\cs.length<=m:=by
 unfold Zs;rw [show (1:Int) + (m:Int)=((1 + m:Nat):Int) by lia,show (some (1:Int))=some ((1:Nat):Int) from rfl,HT.sIx_nat,HT.sIx_nat,zu];refine ⟨(ns.drop (min 1 ns.length)).take (min (1 + m) ns.length - min 1 ns.length),by simp [iv],?_⟩;rw [aW]
 lia
def Wr {z dz L R:Addr} {EX:XK} {bvs rvs:Ao} {rs:As} {p q:A5} (hz:H z=none) (hdz:H dz=none) (hL:H L=some (.lst bvs)) (hR:H R=some (.lst rvs)) (rB:Reps H p bvs (bs.map (vo a))) (rK:Reps H q rvs (rs.map (wa a))) (mi:qc bs rs) (bo:∀ b∈bs,zF b.1 b.2) (ro:∀ r∈rs,r.ok)
  (k:∀ H',Same H H'->Rep H' (Off []) (.ref z) (qf a bs rs)->Q .non H'):vy K a [.ref z,.ref L,.ref R] (upd (upd H dz (.own z)) z (.ins a.u dz [])) Q EX:=by
 have lb:=mi.1.1.2;refine ⟨z,dz,L,R,bvs,rvs,bs,rs,λ b=>b≠z,rfl,mv,my hL hz,my hR hz,λ _ h=>h,qe hz hdz hL,qe hz hdz hR,
  (Bts.of rB).keep λ b o _ hb=>⟨my hb hz,qe hz hdz hb⟩,(Kns.of rK).keep λ b o _ hb=>⟨my hb hz,qe hz hdz hb⟩,bo,ro,by rw [mi.2.1.length_eq,Wh];lia,by rw [mi.2.2.length_eq,Wh];lia,by lia,λ _ H4 m1 m2 bv kv o4 g0 g1 g2 gB gK n1 n2=>?_,λ y=>absurd mi y⟩
 refine k _ (Own.of_new hz hdz o4) ?_;rw [zgy] at g0;exact xu (λ z=>nomatch z) g0 rfl (.cons (gB.reps.all.mk' (λ z=>nomatch z) g1) (.cons (gK.reps.all.mk' (λ z=>nomatch z) g2) .nil))
def WInv.work {rs rs':As} (h:WInv bs rs [] []) (pm:rs'.Perm rs) (b24:bs.length<=24) (r1:1<=rs.length) (r24:rs.length<=24):qc bs rs'/\(∀ r∈rs',r.ok):=by
 have tk:=h.tk;have fd:=h.fd;rw [bH] at tk fd;have pl:=pm.length_eq;have b1:1<=bs.length:=by
  obtain ⟨r,rs0,rfl⟩:=cf (dP (by lia:0 < rs.length));have ok:=h.ro r (by simp);have lt:=tk.length_eq;have lf:=fd.length_eq;rw [Wh] at lt lf;have e1:(qm (r :: rs0)).length=r.ins.length + (qm rs0).length:=by simp [qm]
  have e2:(jK (r :: rs0)).length=r.outs.length + (jK rs0).length:=by simp [jK]
  have:1<=r.ins.length + r.outs.length:=by
   obtain ⟨wd,ins,outs,pc,kd⟩:=r;cases wd
   ·obtain ⟨_,⟨o,q⟩,_⟩:=ok;simp only at q;subst q;simp
   ·obtain ⟨⟨o,q⟩,_⟩:=ok;simp only at q;subst q;simp
   ·obtain ⟨⟨o,q⟩,_⟩:=ok;simp only at q;subst q;simp
   ·obtain ⟨⟨o,q⟩,_⟩:=ok;simp only at q;subst q;simp
   ·obtain ⟨⟨o,q⟩,_⟩:=ok;simp only at q;subst q;simp
   ·obtain ⟨⟨o,q⟩,_⟩:=ok;simp only at q;subst q;simp
  lia
 refine ⟨⟨⟨⟨b1,b24⟩,by lia,by lia⟩,?_,?_⟩,λ r hr=>h.ro r (pm.mem_iff.mp hr)⟩
 ·exact (pm.flatMap_right _).trans fd
 ·exact (pm.flatMap_right _).trans tk
noncomputable def Qb (ns:A6) (k:Nat):Int:=ns.getD k 0
def zfD (K:A0):Sp:=λ vs H Q _=>∃ (l:Addr) (ns:A6) (k:Nat),vs=[.ref l,.int k]/\SqL K H l (ns.map V.int)/\Q (.int (Qb ns k)) H
def zd8 (T:Txt K mg a):Cal P w K mg base "_law_at" 1 ["_law_script","_law_k"] [] (zfD K):=T.l0.cal λ F=>by
 refine F.okx zev ?_ ?_
 ·walk_at "i"
 walk_at "k";refine oE3 h λ l ns n l9=>oA3 l9 λ m5 hl k=>?_;clear l9 h;subst m5;walk_at "T";refine ⟨_,(zh (zx (zl Zg (pq 1) (zy zN zJ (za (pq 0) zb)) (zn _))  (zc (zj (zt (pq 0) (pq 1))))  zm)  (zc (zj zd))),?_⟩;exists ⟨_,.inl ⟨_,hl,rfl⟩,?_⟩;walk_at "r";rw [ah];refine zA (λ h=>?_) (λ h=>?_)
 ·have h:n < ns.length:=by lia
  refine zq hl (zL (by rw [au,ae h];rfl)) ?_;have e:ns[n]=Qb ns n:=by simp [Qb,h]
  rw [e];exact k
 ·have e:Qb ns n=0:=by
   have h:ns.length<=n:=by lia
   simp [Qb,h]
  rw [e] at k;walk_at "r";exact k
def xJ (c f:Int):Int:=(c % 2147483647 + 1) * f % 2147483647
def jb (c f:Int):0<=xJ c f:=aH _ (by decide)
def zcZ:Sp:=λ vs H Q _=>∃ c f:Int,vs=[.int c,.int f]/\0<=f/\f < 2147483647/\Q (.int (xJ c f)) H
def qM (T:Txt K mg a):Cal P w K mg base "_law_spread" 1 ["_law_cell","_law_factor"] [] zcZ:=T.kK.cal λ F=>by
 refine F.okx Vg ?_ ?_
 ·walk_at "i"
 walk_at "k";refine oE2 h λ c n l9=>oA4 l9 λ m5 h0 h1 k=>?_;clear l9 h;subst m5;walk_at "T";refine ⟨_,(zc (zj (zO (zw Ji (zw zP (zO (pq 0)) zd) (pq 1))))),?_⟩;walk_at "r";exact ⟨mul_okR (by lia) (by lia),k⟩
def zfE (a:Ad):Sp:=λ vs H Q _=>∃ (L:Addr) (bvs:Ao) (n sp:Int),vs=[.ref L,.int n,.int sp]/\0<=n/\1<=sp/\sp<=4/\H L=some (.lst bvs)/\bvs.length<=100 /\
 ∀ rm pc z H1,zF rm pc->Same H H1->BtP a H1 (New H) (.ref z) (rm,pc)->Q (.int bvs.length) (upd H1 L (.lst (bvs ++ [.ref z])))
def wH (T:Txt K mg a):Cal P w K mg base "_law_belt" 3 ["_law_belts","_law_number","_law_span"] [] (zfE a):=T.lF.cal λ F=>by
 refine F.okx zcb ?_ ?_
 ·walk_at "i"
 walk_at "j";refine oE4 h λ L bvs n sp l9=>oA7 l9 λ m5 n0 p1 p4 hL lb k=>?_;clear l9 h;subst m5;walk_at "T";refine ⟨_,(zh (zo 3 zcb.nd (zw zP zd (zO (pq 1))))  (zQ (zx (PW.pt (pw_and (zl (qA hr.units1) (zO (zU (pq 1))) zd (zn _)) (pw_and1 (zl Zg (zy zN zJ (za (pq 0) zb)) zd (zn _)))))  (zc (zo 3 zcb.nd (zw zP (pq 3) zd)))  zm)  (zh (zp (qk am ax aw zE (pq 0) (za (qh (x:="Belt") ⟨rfl,rfl,rfl⟩ hr (za (pq 3) (za (zw zP zd (zw qa (zU (pq 1)) (pq 2))) zb))) zb)))  (zc (zj (zw Wm (zy zN zJ (za (pq 0) zb)) zd)))))),?_⟩;left;have z0:=aH n (show (3:Int)≠0 by decide);have z1:=aD n (show (0:Int) < 3 by decide);refine cut (λ σ' H'=>∃ rm:Int,σ'=[some (.ref L),some (.int n),some (.int sp),some (.int rm)]/\H'=H/\1<=rm/\rm<=6) ?_ ?_
 ·exists (zA (λ _=>⟨fU,⟨_,⟨.inl ⟨_,SqL.of hL,rfl⟩,zA (λ _=>⟨_,iA3 rfl (by lia) (by lia)⟩) (λ _=>⟨_,iA3 rfl (by lia) (by lia)⟩)⟩⟩⟩) (λ _=>⟨_,iA3 rfl (by lia) (by lia)⟩))
 intro σ' H' m8;refine oE1 m8 λ rm l9=>oA4 l9 λ m5 mh r1 r6=>?_;clear l9 m8;subst m5 mh;left;have y0:=aH (n / 24) (show (sp:Int)≠0 by lia);have y1:=aD (n / 24) (show (0:Int) < sp by lia);refine ⟨.inl ⟨rfl,_,SqL.of hL⟩,iE4 a.m _ _ _ (iA3 ((vM T).mono) (by lia) ?_)⟩;intro z dz hz hdz hne;refine wU hz hdz (iA4 r1 r6 (by lia) (by lia)) λ H1 s1 q1=>⟨rfl,?_⟩;refine iE3 L bvs _ (iA5 rfl rfl (s1 _ _ hL) (zi (by lia)) ?_);have k:=k rm _ z H1 ⟨r1,r6,by lia,by lia⟩ s1 q1;have e:upd H1 L (.lst (bvs ++ [.ref z])) L=some (.lst (bvs ++ [.ref z])):=mv;generalize upd H1 L (.lst (bvs ++ [.ref z]))=H2 at k e ⊢;exists ⟨_,.inl ⟨_,SqL.of e,rfl⟩,?_⟩;rw [aM,cu,show (((bvs.length + 1:Nat):Int) - 1)=bvs.length by lia];exact k
def zep (a:Ad):Sp:=λ vs H Q _=>∃ y n sp:Int,vs=[.int y,.int n,.int sp]/\0<=n/\1<=sp/\sp<=4/\∀ v H' pc,Same H H'->0<=pc->pc<=4->KnP a H' (New H) v ⟨.drain,[y],[],pc,[]⟩->Q v H'
def XU (T:Txt K mg a):Cal P w K mg base "_law_drain" 4 ["_law_into","_law_number","_law_span"] [] (zep a):=T.k9.cal λ F=>by
 refine F.okx zay ?_ ?_
 ·walk_at "i"
 walk_at "j";refine oE3 h λ y n sp l9=>oA5 l9 λ m5 n0 p1 p4 k=>?_;clear l9 h;subst m5;walk_at "T";refine ⟨_,(zh (zx (zl (qA hr.units1) (zO (pq 1)) zd (zn _))  (zc (zj (qh (x:="Drain") ⟨rfl,rfl,rfl⟩ hr (za (pq 0) (za zd zb)))))  zm)  (zc (zj (qh (x:="Drain") ⟨rfl,rfl,rfl⟩ hr (za (pq 0) (za (zw zP zd (zw qa (zU (pq 1)) (pq 2))) zb)))))),?_⟩;exists zA (λ _=>?_) (λ _=>?_)
 ·exists iE4 a.p _ _ _ ⟨(Zm T).mono,?_⟩;intro z dz hz hdz hne;exact Zh hz hdz (by decide) (by decide) λ H1 s1 q1=>⟨rfl,k _ _ _ s1 (by decide) (by decide) q1⟩
 ·left;have y0:=aH (n / 8) (show (sp:Int)≠0 by lia);have y1:=aD (n / 8) (show (0:Int) < sp by lia);refine iE4 a.p _ _ _ (iA3 ((Zm T).mono) (by lia) ?_);intro z dz hz hdz hne;exact Zh hz hdz (by lia) (by lia) λ H1 s1 q1=>⟨rfl,k _ _ _ s1 (by lia) (by lia) q1⟩
def zeS {n u:Int} (u0:1<=u) (u6:u<=6):∃ m:Int,atI [V.int 1,.int 1,.int 2,.int 2,.int 3,.int u] (n % 6)=some (.int m)/\1<=m/\m<=6:=by
 have h0:=aH n (show (6:Int)≠0 by decide);have h1:=aD n (show (0:Int) < 6 by decide);generalize n % 6=j at h0 h1 ⊢;have:j=0\/j=1\/j=2\/j=3\/j=4\/j=5:=by lia
 rcases this with rfl|rfl|rfl|rfl|rfl|rfl
 ·exact ⟨1,iA3 rfl (by decide) (by decide)⟩
 ·exact ⟨1,iA3 rfl (by decide) (by decide)⟩
 ·exact ⟨2,iA3 rfl (by decide) (by decide)⟩
 ·exact ⟨2,iA3 rfl (by decide) (by decide)⟩
 ·exact ⟨3,iA3 rfl (by decide) (by decide)⟩
 ·exact ⟨u,iA3 rfl u0 u6⟩
def zc0 (a:Ad):Sp:=λ vs H Q _=>∃ y c n sp:Int,vs=[.int y,.int c,.int n,.int sp]/\0<=n/\1<=sp/\sp<=4/\∀ v H' pc kd,Same H H'->1<=pc->pc<=4->1<=kd.length->kd.length<=6->xg kd->KnP a H' (New H) v ⟨.source,[],[y],pc,kd⟩->Q v H'
def JI (T:Txt K mg a):Cal P w K mg base "_law_source" 4 ["_law_out","_law_cell","_law_number","_law_span"] [] (zc0 a):=T.kM.cal λ F=>by
 refine F.okx Vh ?_ ?_
 ·walk_at "i"
 walk_at "j";refine oE4 h λ y c n sp l9=>oA5 l9 λ m5 n0 p1 p4 k=>?_;clear l9 h;subst m5;walk_at "T";refine ⟨_,(zg (zo 4 Vh.nd (zt (zC (za zd (za zd (za zd (za zd (za zd (za (zw zP zd (zO (zU (pq 2)))) zb))))))) (zO (pq 2))))  (zQ (zx (zl (qA hr.units1) (zO (zU (pq 2))) zd (zn _))  (zc (zaI (i:=1) Vh.nd rfl (Or.inr rfl) (zO (pq 1))))  zm)  (zg (Q6 (i:=5) Vh.nd rfl (Or.inl rfl) (vars:=["_law_k"]) (caps:=[1,2]) (N:=["_law_k","_law_cell","_law_number"]) (ON:=["_law_out","_law_cell","_law_number","_law_span","_law_many","_law_kinds_here"]) (osc:=ze xU) rfl rfl (by right) rfl rfl (wu (za (pq 4) zb)) (λ _ _ _ _=>(qd 0 (show (["_law_k","_law_cell","_law_number"]:A8).Nodup from by symm))) (λ _ _ _ _=>z6) (λ _ _ _ _=>(zaK (zw zP (pq 1) (zw Ji (pq 0) (zO (zU (pq 2))))))))  (zc (zj (qh (x:="Source") ⟨rfl,rfl,rfl⟩ hr (za (pq 0) (za (zw zP zd (zw qa (zU (pq 2)) (pq 3))) (za (pq 5) zb))))))))),?_⟩;left;have u0:=aH (n / 6) (show (6:Int)≠0 by decide);have u1:=aD (n / 6) (show (0:Int) < 6 by decide);refine oE1 (zeS (n:=n) (u:=1 + n / 6 % 6) (by lia) (by lia)) λ m l9=>oA3 l9 λ em m1 m6=>?_;clear l9;refine (λ q hq=>zq (SqL.of mv) em ?_);have s1:=zf (o:=.lst [V.int 1,.int 1,.int 2,.int 2,.int 3,.int (1 + n / 6 % 6)]) hq;generalize upd H q (.lst [V.int 1,.int 1,.int 2,.int 2,.int 3,.int (1 + n / 6 % 6)])=H1 at s1 ⊢;clear em u0 u1;exists cut (λ σ' H'=>∃ c:Int,σ'=[some (.int y),some (.int c),some (.int n),some (.int sp),some (.int m),none]/\H'=H1) ?_ ?_
 ·left;walk_at "f";left;exact zA (λ _=>⟨_,rfl⟩) (λ _=>⟨_,rfl⟩)
 rintro σ' H2 ⟨c2,rfl,rfl⟩;walk_at "d";exists ⟨by lia,by lia,λ _ _ _ _ mf hacc=>?_⟩;refine Z9 (n:=m.toNat) (λ i σ H'=>∃ v ks,σ=[v,some (.int c2),some (.int n)]/\Same H2 H'/\ks.length=i/\xg ks/\H' mf=some (.lst (iv ks))) (iE2 _ ([]) (iA5 rfl (zf hacc) rfl (λ _ z=>nomatch z) mv)) ?_ ?_
 ·intro i σ H3 hi m8;refine oE2 m8 λ v ks l9=>oA5 l9 λ m5 s3 lk hkk ha=>?_;ext;left;have w0:=aH (n / 36) (show (3:Int)≠0 by decide);have w1:=aD (n / 36) (show (0:Int) < 3 by decide);refine ⟨mul_okR (by lia) (by lia),?_⟩;left;have x0:=aH (c2 + (0 + (i:Int)) * (n / 36 % 3)) (show (1000000000000000000000000000000:Int)≠0 by decide);have x1:=aD (c2 + (0 + (i:Int)) * (n / 36 % 3)) (show (0:Int) < 1000000000000000000000000000000 by decide);generalize (c2 + (0 + (i:Int)) * (n / 36 % 3)) % 1000000000000000000000000000000=kk at x0 x1 ⊢;refine ⟨_,iA3 ha (zi (by rw [zu];lia)) (iE2 _ (ks ++ [kk]) (iA5 rfl (λ b o hb=>by rw [mw (my hb hacc)];exact s3 b o hb) (by simp [lk]) ?_ (by rw [mv,qw])))⟩;intro z hz;rcases aF.mp hz with hz|hz
  ·exact hkk z hz
  ·rw [ay.mp hz];exact ⟨x0,x1⟩
 intro σ H3 m8;refine oE2 m8 λ v ks l9=>oA5 l9 λ m5 s3 lk hkk ha=>?_;ext;left;have y0:=aH (n / 108) (show (sp:Int)≠0 by lia);have y1:=aD (n / 108) (show (0:Int) < sp by lia);refine iE4 a.o _ _ _ (iA3 ((Zl T).mono) (by lia) ?_);intro z dz hz hdz hne;have s13:=s1.trans s3;refine ZX hz hdz ha (by lia) (by lia) (by lia) (by lia) hkk λ H4 s4 q4=>⟨rfl,k _ _ _ _ (s13.trans s4) (by lia) (by lia) (by lia) (by lia) hkk (q4.keep λ b o hb ho=>⟨zM s13 hb,ho⟩)⟩
def zeX (T:Txt K mg a) (wd:Wd):kitOne K (.ref (xf a wd)) (.ref a.o)=some (decide (wd=.source)):=by
 cases wd
 ·exact T.g8
 ·exact T.ix
 ·exact T.g9
 ·exact T.gk
 ·exact T.iy
 ·exact T.hJ
def zfB (a:Ad):Sp:=λ vs H Q _=>∃ (R:Addr) (rvs:Ao) (rs:As) (c n:Int) (p:A5),vs=[.ref R,.int c,.int n]/\H R=some (.lst rvs)/\Reps H p rvs (rs.map (wa a))/\(∀ r∈rs,r.ok)/\rs.length<=60/\0<=n/\∀ H' kk,Same H H'->0<=kk->kk < jl->Q (.int kk) H'
def V3 (T:Txt K mg a):Cal P w K mg base "_law_kind" 1 ["_law_knots","_law_cell","_law_number"] [] (zfB a):=T.lG.cal λ F=>by
 refine F.okx zb9 ?_ ?_
 ·walk_at "i"
 walk_at "j";obtain ⟨R,rvs,rs,c,n,p,rfl,hR,rR,ro,lr,n0,k⟩:=h;have lR:rvs.length=rs.length:=by rw [rR.len,ah]
 walk_at "T";refine ⟨_,(zh (zo 3 zb9.nd (zC (za (zaK (pq 1)) zb)))  (zQ (qq qS rfl (zX (pq 0)) (qd 4 zb9.nd)  (zc (zx (zK (zy qr zr (za (pq 4) (za qC zb))) (λ _=>rfl))  (zc (zp (qk am ck cj wT (pq 3) (za (zk (pq 4) rfl) zb))))  zm)))  (zc (zj (zt (pq 3) (zw qa (pq 2) (zy zN zJ (za (pq 3) zb)))))))),?_⟩;left;have x0:=aH c (show (1000000000000000000000000000000:Int)≠0 by decide);have x1:=aD c (show (0:Int) < 1000000000000000000000000000000 by decide);intro I hI;have s1:=zf (o:=.lst [V.int (c % 1000000000000000000000000000000)]) hI;have hI1:upd H I (.lst [V.int (c % 1000000000000000000000000000000)]) I=some (.lst (iv [c % 1000000000000000000000000000000])):=mv;generalize upd H I (.lst [V.int (c % 1000000000000000000000000000000)])=H1 at s1 hI1 ⊢;generalize c % 1000000000000000000000000000000=k0 at x0 x1 hI1;refine cut (λ σ' H'=>∃ (v4:Ap) (ks:A6),σ'=[some (.ref R),some (.int c),some (.int n),some (.ref I),v4]/\Same H H'/\H' I=some (.lst (iv ks))/\1<=ks.length/\ks.length<=1 + 6 * rs.length/\xg ks) ?_ ?_
 ·walk_at "e";exists ⟨R,rfl,.inl ⟨⟨_,SqL.of (s1 _ _ hR)⟩,?_⟩⟩;refine qt (K:=K) (a:=R) (xs:=rvs) (λ i σ H'=>∃ (v4:Ap) (ks:A6),σ=[some (.ref R),some (.int c),some (.int n),some (.ref I),v4]/\Same H H'/\H' I=some (.lst (iv ks))/\1<=ks.length/\ks.length<=1 + 6 * i/\xg ks) ⟨_,[k0],rfl,s1,hI1,ap _,ap _,λ z hz=>by rw [ay.mp hz];exact ⟨x0,x1⟩⟩ (λ i σ H' _ h=>by obtain ⟨_,_,_,s,_⟩:=h;exact SqL.of (s _ _ hR)) ?_ ?_
  ·rintro i x σ H2 hi ⟨v4,ks,rfl,s2,hI2,k1,k6,kk⟩;obtain ⟨d,hd,rx⟩:=rR.at hi;rw [au,aC] at hd;obtain ⟨r,hr',rfl⟩:=hd;have hil:=(aa.mp hr').1;have ok:=ro r (ai hr');obtain ⟨y1,dx1,m1,m2,m3,fs1,rfl,_,_,_,_,g0,f1,f2,_,g1,g2,g3,_⟩:=KnP.inv rx;exists ⟨.ref a.o,_,T.gC,rfl,_,_,_,_,rfl,(WT T r.wd).ty (CT T r.wd) (s2 _ _ g0),.inl ⟨_,rfl,zeX T r.wd⟩,?_⟩;exists zA (λ b=>?_) (λ b=>⟨_,ks,rfl,s2,hI2,k1,by lia,kk⟩);obtain ⟨f3,h3⟩:=g3 b;have ok:r.kinds.length<=6/\xg r.kinds:=by
    unfold Row.ok at ok;rw [b] at ok;exact ⟨ok.2.2.2.2.2.1,ok.2.2.2.2.2.2⟩
   rw [b] at g0;refine ⟨.inl ⟨rfl,_,SqL.of hI2⟩,y1,a.o,dx1,fs1,_,rfl,s2 _ _ g0,T.fO,T.fK,f3,?_⟩;refine ⟨I,m3,iv ks,iv r.kinds,rfl,rfl,hI2,s2 _ _ h3,?_,?_⟩
   ·rw [zu,zu];exact bV (zi (by lia))
   refine ⟨_,ks ++ r.kinds,rfl,(λ b o hb=>by rw [mw (my hb hI)];exact s2 b o hb),by rw [mv];simp [iv],by simp;lia,by simp;lia,λ z hz=>?_⟩;rcases aF.mp hz with hz|hz
   ·exact kk z hz
   ·exact ok.2 z hz
  ·rintro σ H2 ⟨v4,ks,rfl,s2,hI2,k1,k6,kk⟩;rw [lR] at k6;exact ⟨v4,ks,rfl,s2,hI2,k1,k6,kk⟩
 rintro σ' H2 ⟨v4,ks,rfl,s2,hI2,k1,k6,kk⟩;exists ⟨_,.inl ⟨_,SqL.of hI2,rfl⟩,?_⟩;rw [zu];refine ⟨by lia,?_⟩;have v0:=aH n (show (ks.length:Int)≠0 by lia);have v1:=aD n (show (0:Int) < (ks.length:Int) by lia);obtain ⟨j,ej⟩:∃ j:Nat,n % (ks.length:Int)=j:=⟨(n % (ks.length:Int)).toNat,by lia⟩;rw [ej] at v1 ⊢;obtain ⟨y,hy⟩:∃ y,ks[j]?=some y:=⟨ks[j]'(by lia),ae _⟩;refine zq (SqL.of hI2) (zL (wD hy)) ?_;have:=kk y (ai hy);exact k _ y s2 this.1 this.2
def zfw (n:Int):Wd:=if n=0 then .first else if n=1 then .sieve else .parter
def Xq (y kk wt:Int) (outs:A6):Row:=⟨zfw wt,[y],outs,0,if wt=1 then [kk] else []⟩
def Vv {y kk wt:Int} (h2:2<=outs.length) (h4:outs.length<=4) (h1:wt=1->outs.length=2) (k0:0<=kk) (k1:kk < jl):(Xq y kk wt outs).ok:=by
 unfold Xq zfw Row.ok;by_cases z:wt=0
 ·subst z;exact ⟨⟨_,rfl⟩,h2,h4⟩
 ·by_cases o:wt=1
  ·subst o;exact iA3 ⟨_,rfl⟩ (h1 rfl) ⟨kk,iA3 rfl k0 k1⟩
  ·simp only [aq z,aq o];exact ⟨⟨_,rfl⟩,h2,h4⟩
def zc4 (a:Ad):Sp:=λ vs H Q _=>∃ (y kk wt:Int) (O:Addr) (outs:A6),vs=[.int y,.ref O,.int kk,.int wt]/\H O=some (.lst (iv outs))/\2<=outs.length/\outs.length<=4/\(wt=1->outs.length=2)/\0<=kk/\kk < jl/\∀ v H',Same H H'->KnP a H' (New H) v (Xq y kk wt outs)->Q v H'
def JJ (T:Txt K mg a):Cal P w K mg base "_law_parted" 4 ["_law_into","_law_outs","_law_kind_here","_law_what"] [] (zc4 a):=T.kO.cal λ F=>by
 refine F.okx Vi ?_ ?_
 ·walk_at "i"
 walk_at "j";refine oE5 h λ y kk wt O outs l9=>oA8 l9 λ m5 hO o2 o4 o1 k0 k1 k=>?_;clear l9 h;subst m5;walk_at "T";refine ⟨_,(zh (zx (zl (qA hr.units1) (pq 3) zd (zn _))  (zc (zj (qh (x:="FirstParter") ⟨rfl,rfl,rfl⟩ hr (za (pq 0) (za (pq 1) zb)))))  zm)  (zh (zx (zl (qA hr.units1) (pq 3) zd (zn _))  (zc (zj (qh (x:="Sieve") ⟨rfl,rfl,rfl⟩ hr (za (pq 0) (za (xa vA (pq 1) wO (xm zd)) (za (pq 2) zb))))))  zm)  (zc (zj (qh (x:="Parter") ⟨rfl,rfl,rfl⟩ hr (za (pq 0) (za (pq 1) zb))))))),?_⟩;exists zA (λ b=>?_) (λ b=>?_)
 ·subst b;exists iE4 a.r _ _ _ ⟨(vn T).mono,?_⟩;intro z dz hz hdz hne;exact zdy hz hdz hO o2 o4 λ H1 s1 q1=>⟨rfl,k _ _ s1 q1⟩
 exists zA (λ b1=>?_) (λ b1=>?_)
 ·subst b1;exists iE4 a.s _ _ _ ⟨(zbz T).mono,vI (SqL.of hO) λ q hq=>?_⟩;have s1:=zf (o:=.lst (iv outs)) hq;rw [show Zs (iv outs) none (some 2)=iv outs from (Zr (iv outs) 2).trans (cM (by rw [zu];have:=o1 rfl;lia))];have hq1:upd H q (.lst (iv outs)) q=some (.lst (iv outs)):=mv;generalize upd H q (.lst (iv outs))=H1 at s1 hq1 ⊢;intro z dz hz hdz hne;exact zdx hz hdz hq1 (o1 rfl) k0 k1 λ H2 s2 q2=>⟨rfl,k _ _ (s1.trans s2) (q2.keep λ b o hb ho=>⟨zM s1 hb,ho⟩)⟩
 exists iE4 a.q _ _ _ ⟨(Ju T).mono,?_⟩;intro z dz hz hdz hne;refine Xu hz hdz hO o2 o4 λ H1 s1 q1=>⟨rfl,k _ _ s1 ?_⟩;unfold Xq zfw;rw [aq b,aq b1,aq b1];exact q1
def zf3 {p q:Addr} {xs:A6} (h1:H p=some (.lst (iv xs))) (h2:H q=some (.lst [])) (k:Q (.bl (!decide (xs=[]))) H):Vp K (.ref p) (.ref q) H Q:=by
 refine .inr (.inl (iE4 p q (iv xs) ([]) (iA6 rfl rfl (.inl ⟨SqL.of h1,SqL.of h2⟩) (by simp [iv,xE]) rfl ?_)));cases xs with
 | nil=>exact k
 | cons x xs=>exact k
def zd0 {p q:Addr} {xs:A6} (h1:H p=some (.lst (iv xs))) (h2:H q=some (.lst [])) (k:Q (.bl (decide (xs=[]))) H):Q5 K (.ref p) (.ref q) H Q:=by
 refine .inr (.inl (iE4 p q (iv xs) ([]) (iA6 rfl rfl (.inl ⟨SqL.of h1,SqL.of h2⟩) (by simp [iv,xE]) rfl ?_)));cases xs with
 | nil=>exact k
 | cons x xs=>exact k
def Zv {xs:A6} {y:Int}:atI (iv (xs ++ [y])) (-1)=some (.int y):=by
 rw [show iv (xs ++ [y])=iv xs ++ [V.int y] by simp [iv]];unfold atI ixN;rw [aq (by decide),aM,cu,aA (by lia),show (-1 + (((iv xs).length + 1:Nat):Int)).toNat=(iv xs).length by lia];simp
def zc7 (a:Ad):Sp:=λ vs H Q _=>∃ (ms:Ab) (L R En B:Addr) (bs:A1) (rs:As) (es ks:A6) (y c sp:Int),vs=[.ref L,.ref En,.ref B,.int y,.int c,.int sp]/\GS a ms H H L R En B bs rs es ks/\WInv bs rs (y :: es) ks/\1<=sp/\sp<=4/\bs.length<=60/\es.length<=60/\ks.length<=60 /\
 ∀ v H' bs' es' ks' r,GS a ms H H' L R En B bs' rs es' ks'->KnP a H' (Off ms) v r->WInv bs' (rs ++ [r]) es' ks'->bs'.length + ks'.length<=bs.length + ks.length + 3->es'.length + ks'.length<=es.length + ks.length + 2->Q v H'
def zbi (T:Txt K mg a):Cal P w K mg base "_law_joined" 4 ["_law_belts","_law_ends","_law_loops","_law_into","_law_cell","_law_span"] [] (zc7 a):=T.kN.cal λ F=>by
 refine F.okx Vj ?_ ?_
 ·walk_at "i"
 walk_at "j";refine oE8 h λ ms L R E B bs rs es l9=>oE4 l9 λ ks y c sp m5=>oA9 m5 λ mh W I0 p1 p4 lb le lk k=>?_;clear l9 m5 h;subst mh;walk_at "T";refine ⟨_,(zg (zo 6 Vj.nd ‹(pq 4) (za zd zb)›)  (zg (zo 7 Vj.nd (zC (za (pq 3) zb)))  (zQ (qq qS rfl (wu (za (zO (pq 6)) zb)) (qd 8 Vj.nd)  (zc (zx (zl (Zf hr.units1) (pq 1) (zC zb) (zn _))  (zc (zp (qk am ax aw zE (pq 7) (za (qk am du dr Jl (pq 1) (za (zw qa (zU (pq 6)) (zy zN zJ (za (pq 1) zb))) zb)) zb))))  zm)))  (zQ (zx (zl (qA hr.units1) (zy zN zJ (za (pq 7) zb)) zd (zn _))  (zg (zp (qk am ax aw zE (pq 2) (za ‹(pq 0) (za ‹(pq 4) (za zd zb)› (za (pq 5) zb))› zb)))  (zc (zp (qk am ax aw zE (pq 7) (za (zt (pq 2) (vd xr zd)) zb)))))  zm)  (zQ (zx (zl (qA hr.units1) (zO (zU (pq 6))) zd (zn _))  (zc (zo 7 Vj.nd (zw zP (xa vA (pq 7) (xm zd) wO) (xa vA (pq 7) wO (xm zd)))))  zm)  (zg (zp (qk am ax aw zE (pq 1) (za ‹(pq 0) (za (zU (pq 6)) (za (pq 5) zb))› zb)))  (zc (zj (qh (x:="Joiner") ⟨rfl,rfl,rfl⟩ hr (za (pq 7) (za (zt (pq 1) (vd xr zd)) zb))))))))))),?_⟩;exists uc (qM T).mono (iE2 c _ (iA4 rfl (by decide) (by decide) ?_));have n0:=jb c 1618033989;generalize xJ c 1618033989=nu at n0 ⊢;left;intro I hI;obtain ⟨W1,nI⟩:=W.ext (xs:=[V.int y]) hI;have hI1:upd H I (.lst [V.int y]) I=some (.lst (iv [y])):=mv;generalize upd H I (.lst [V.int y])=H1 at W1 hI1 ⊢;have mI:I∈I :: ms:=by simp
 have nu0:=aH nu (show (4:Int)≠0 by decide);have nu1:=aD nu (show (0:Int) < 4 by decide);exists cut (λ σ' H'=>∃ (v8:Ap) (ins es2:A6),σ'=[some (.ref L),some (.ref E),some (.ref B),some (.int y),some (.int c),some (.int sp),some (.int nu),some (.ref I),v8]/\GS a (I :: ms) H H' L R E B bs rs es2 ks/\H' I=some (.lst (iv ins))/\(ins ++ es2).Perm (y :: es)/\1<=ins.length/\ins.length<=4) ?_ ?_
 ·walk_at "e";exists ⟨by lia,by lia,?_⟩;refine Z9 (n:=(nu % 4).toNat) (λ i σ' H'=>∃ (v8:Ap) (ins es2:A6),σ'=[some (.ref L),some (.ref E),some (.ref B),some (.int y),some (.int c),some (.int sp),some (.int nu),some (.ref I),v8]/\GS a (I :: ms) H H' L R E B bs rs es2 ks/\H' I=some (.lst (iv ins))/\(ins ++ es2).Perm (y :: es)/\1<=ins.length/\ins.length<=1 + i) (iE3 _ ([y]) es (iA6 rfl W1 hI1 (aN _) (ap _) (ap _))) ?_ ?_
  ·clear W1 hI1;intro i σ' H3 hi m8;refine oE3 m8 λ v8 ins es2 l9=>oA6 l9 λ m5 W3 hI3 p3 i1 ii=>?_;ext;have pl:=p3.length_eq;rw [aM,bg] at pl;left;intro q hq;have sq:=zf (o:=.lst []) hq;have W4:=W3.same sq;have hI4:=sq _ _ hI3;refine zf3 W4.hE (mv) ?_;generalize upd H3 q (.lst [])=H4 at W4 hI4 ⊢;clear W3 hI3 hq sq;exists zA (λ b=>?_) (λ b=>(iE3 _ ins es2 (iA6 rfl W4 hI4 p3 i1 (by lia))));have el:(0:Int) < es2.length:=by
    rcases dN es2.length with z|z
    ·exact absurd (bK.mp z) (by simpa using b)
    ·lia
   refine iA4 (.inl ⟨rfl,_,SqL.of hI4⟩) (.inl ⟨rfl,_,SqL.of W4.hE⟩) fU ⟨_,⟨.inl ⟨_,SqL.of W4.hE,rfl⟩,?_⟩⟩;rw [zu];refine ⟨el,?_⟩;have v0:=aH (nu / 4) (show (es2.length:Int)≠0 by lia);have v1:=aD (nu / 4) el;generalize nu / 4 % (es2.length:Int)=jj at v0 v1 ⊢;obtain ⟨y2,hy⟩:∃ y,es2[jj.toNat]?=some y:=⟨es2[jj.toNat]'(by lia),ae _⟩;refine iE5 E (iv es2) jj jj.toNat (.int y2) (iA8 rfl rfl W4.hE (by lia) (by lia) (Q8 v0 (by rw [zu];exact v1)) (wD hy) ?_);rw [Jx];have W5:=W4.setE (es2.eraseIdx jj.toNat);have p5:=Zd hy;have nIE:I≠E:=λ z=>nI (by rw [z];simp);have hI5:upd H4 E (.lst (iv (es2.eraseIdx jj.toNat))) I=some (.lst (iv ins)):=by rw [mw nIE];exact hI4
   generalize upd H4 E (.lst (iv (es2.eraseIdx jj.toNat)))=H5 at W5 hI5 ⊢;generalize es2.eraseIdx jj.toNat=es3 at p5 W5 ⊢;refine iE3 I _ _ (iA5 rfl rfl hI5 (zi (by rw [zu];lia)) ?_);rw [qw];refine iE3 _ (ins ++ [y2]) es3 (iA6 rfl (W5.setX mI nI hI) mv ?_ (by simp) (by simp;lia));rw [bP];exact (bQ _ p5).trans p3
  ·intro σ' H3 m8;refine oE3 m8 λ v8 ins es2 l9=>oA6 l9 λ m5 W3 hI3 p3 i1 ii=>?_;ext;exact iE3 v8 ins es2 (iA6 rfl W3 hI3 p3 i1 (by lia))
 clear W1 hI1;intro σ' H2 m8;refine oE3 m8 λ v8 ins es2 l9=>oA6 l9 λ m5 W2 hI2 p2 i1 i4=>?_;ext;have I2:WInv bs rs (ins ++ es2) ks:=I0.perm p2 (aN _);have pl:=p2.length_eq;rw [aM,bg] at pl;clear I0 p2;exists cut (λ σ' H'=>∃ (bs1:A1) (ins ks1:A6),σ'=[some (.ref L),some (.ref E),some (.ref B),some (.int y),some (.int c),some (.int sp),some (.int nu),some (.ref I),v8]/\GS a (I :: ms) H H' L R E B bs1 rs es2 ks1/\H' I=some (.lst (iv ins))/\WInv bs1 rs (ins ++ es2) ks1/\2<=ins.length/\ins.length<=4/\bs1.length + ks1.length<=bs.length + ks.length + 2/\ks1.length<=ks.length + 1/\bs1.length<=bs.length + 1) ?_ ?_
 ·exists ⟨_,.inl ⟨_,SqL.of hI2,rfl⟩,?_⟩;rw [zu];exists zA (λ b=>?_) (λ b=>(iE3 bs ins ks (iA8 W2 hI2 I2 (by lia) i4 (by lia) (by lia) (by lia))));obtain ⟨bv,hL,rL⟩:=W2.hL;have lL:bv.length=bs.length:=by rw [rL.len,ah]
  exists ⟨.inl ⟨rfl,_,SqL.of W2.hB⟩,iE3 _ _ _ ⟨(wH T).mono,iE3 _ _ _ ⟨(qM T).mono,⟨c,_,rfl,by decide,by decide,?_⟩⟩⟩⟩;refine iE4 L bv _ sp (iA7 rfl (jb _ _) p1 p4 hL (by lia) (λ rm pc z H3 bk s3 q3=>?_));obtain ⟨W3,_⟩:=W2.addL hL s3 q3;rw [lL];have nIL:I≠L:=λ z=>nI (by rw [z];simp);have hI3:upd H3 L (.lst (bv ++ [.ref z])) I=some (.lst (iv ins)):=by rw [mw nIL];exact s3 _ _ hI2
  generalize upd H3 L (.lst (bv ++ [.ref z]))=H4 at W3 hI3 ⊢;have I3:=I2.belt (b:=(rm,pc)) bk;refine iE3 B _ _ (iA5 rfl rfl W3.hB (zi (by rw [zu];lia)) ?_);rw [qw];have W4:=W3.setB (ks ++ [(bs.length:Int)]);have nIB:I≠B:=λ z=>nI (by rw [z];simp);have hI4:upd H4 B (.lst (iv (ks ++ [(bs.length:Int)]))) I=some (.lst (iv ins)):=by rw [mw nIB];exact hI3
  generalize upd H4 B (.lst (iv (ks ++ [(bs.length:Int)])))=H5 at W4 hI4 ⊢;exists ⟨.inl ⟨rfl,_,SqL.of hI4⟩,zq (SqL.of W4.hB) Zv ?_⟩;refine iE3 I _ _ (iA5 rfl rfl hI4 (zi (by rw [zu];lia)) ?_);rw [qw];refine iE3 (bs ++ [(rm,pc)]) (ins ++ [(bs.length:Int)]) (ks ++ [(bs.length:Int)]) (iA8 (W4.setX mI nI hI) mv (I3.perm ?_ (aN _)) (by simp;lia) (by simp;lia) (by simp;lia) (by simp) (by simp));rw [bP,bP];exact bQ _ cr
 have e2l:es2.length<=es.length:=by lia
 clear W2 hI2 I2 i1 i4;intro σ' H3 m8;refine oE3 m8 λ bs1 ins ks1 l9=>oA9 l9 λ m5 W3 hI3 I3 i2 i4 q1 q2 q3=>?_;ext;exists cut (λ σ' H'=>∃ (J:Addr) (ins:A6),σ'=[some (.ref L),some (.ref E),some (.ref B),some (.int y),some (.int c),some (.int sp),some (.int nu),some (.ref J),v8]/\GS a ms H H' L R E B bs1 rs es2 ks1/\H' J=some (.lst (iv ins))/\J ∉ ms4 L R E B/\WInv bs1 rs (ins ++ es2) ks1/\2<=ins.length/\ins.length<=4) ?_ ?_
 ·left;walk_at "f";exists zA (λ b=>?_) (λ b=>(iE2 I ins (iA7 rfl (W3.less nI) hI3 nI I3 i2 i4)));exists vI (SqL.of hI3) λ j1 hj1=>?_;rw [show Zs (iv ins) (some 1) none=iv (ins.drop 1) from (VU (iv ins) 1 (by rw [zu];lia)).trans (by simp [iv])];have a1:=zf (o:=.lst (iv (ins.drop 1))) hj1;refine vI (SqL.of (a1 _ _ hI3)) λ j2 hj2=>?_;rw [show Zs (iv ins) none (some 1)=iv (ins.take 1) from (Zr (iv ins) 1).trans (by simp [iv])];have a2:=zf (o:=.lst (iv (ins.take 1))) hj2;refine Wj (SqL.of (a2 _ _ mv)) (SqL.of mv) (wK (by rw [zu,zu,dg,aW];lia)) λ j3 hj3=>?_;have a3:=zf (o:=.lst (iv (ins.drop 1) ++ iv (ins.take 1))) hj3;have sA:=(a1.trans a2).trans a3;have W4:=W3.same sA;have n3:=(W3.same (a1.trans a2)).off hj3;refine iE2 j3 (ins.drop 1 ++ ins.take 1) (iA7 rfl (W4.less nI) (by rw [mv];simp [iv]) (λ z=>n3 (aB _ ?_)) (I3.perm (cC _ (Zb ins 1)) (aN _)) (by rw [(Zb ins 1).length_eq];exact i2) (by rw [(Zb ins 1).length_eq];exact i4));exact W.m _ z
 clear W3 hI3 I3 i2 i4;intro σ' H4 m8;refine oE2 m8 λ J ins l9=>oA7 l9 λ m5 W4 hJ4 nJ I4 i2 i4=>?_;ext;obtain ⟨bv,hL,rL⟩:=W4.hL;have lL:bv.length=bs1.length:=by rw [rL.len,ah]
 exists ⟨.inl ⟨rfl,_,SqL.of W4.hE⟩,iE3 _ _ _ ⟨(wH T).mono,?_⟩⟩;refine iE4 L bv _ sp (iA7 rfl (b8 n0 (by decide)) p1 p4 hL (by lia) (λ rm pc z H5 bk s5 q5=>?_));obtain ⟨W5,_⟩:=W4.addL hL s5 q5;rw [lL];have nJL:J≠L:=λ z=>nJ (by rw [z];simp);have hJ5:upd H5 L (.lst (bv ++ [.ref z])) J=some (.lst (iv ins)):=by rw [mw nJL];exact s5 _ _ hJ4
 generalize upd H5 L (.lst (bv ++ [.ref z]))=H6 at W5 hJ5 ⊢;have I5:=I4.belt (b:=(rm,pc)) bk;refine iE3 E _ _ (iA5 rfl rfl W5.hE (zi (by rw [zu];lia)) ?_);rw [qw];have W6:=W5.setE (es2 ++ [(bs1.length:Int)]);have nJE:J≠E:=λ z=>nJ (by rw [z];simp);have hJ6:upd H6 E (.lst (iv (es2 ++ [(bs1.length:Int)]))) J=some (.lst (iv ins)):=by rw [mw nJE];exact hJ5
 generalize upd H6 E (.lst (iv (es2 ++ [(bs1.length:Int)])))=H7 at W6 hJ6 ⊢;exists iE4 a.t _ _ _ ⟨(Jv T).mono,zq (SqL.of W6.hE) Zv ?_⟩;intro z dz hz hdz hne;refine Xv hz hdz hJ6 i2 i4 λ H8 s8 q8=>⟨rfl,?_⟩;refine k _ H8 (bs1 ++ [(rm,pc)]) (es2 ++ [(bs1.length:Int)]) ks1 ⟨.joiner,ins,[(bs1.length:Int)],0,[]⟩ (W6.same s8) (W6.newK q8) (I5.knot ?_ cr ⟨⟨_,rfl⟩,i2,i4⟩) (by simp;lia) (by simp;lia);rw [bP]
noncomputable abbrev stG (L R E B:Addr) (c sp nu:Int) (v8 v9 v10 v11 v12:Ap):St:=[some (.ref L),some (.ref R),some (.ref E),some (.ref B),some (.int c),some (.int sp),some (.int nu),some (.int (nu % 9)),v8,v9,v10,v11,v12]
def zgk (h:k < 4):∃ m:Int,atI [V.int 941083987,.int 1726512289,.int 1999483721,.int 1103527591] (0 + (k:Int))=some (.int m)/\0<=m/\m < 2147483647:=by
 match k,h with
 | 0,_=>exact ⟨_,rfl,by decide,by decide⟩
 | 1,_=>exact ⟨_,rfl,by decide,by decide⟩
 | 2,_=>exact ⟨_,rfl,by decide,by decide⟩
 | 3,_=>exact ⟨_,rfl,by decide,by decide⟩
def zeQ:∃ m:Int,atI [V.int 0,.int 0,.int 1,.int 2] (n % 4)=some (.int m)/\0<=m/\m<=2:=by
 have h0:=aH n (show (4:Int)≠0 by decide);have h1:=aD n (show (0:Int) < 4 by decide);generalize n % 4=j at h0 h1 ⊢;have:j=0\/j=1\/j=2\/j=3:=by lia
 rcases this with rfl|rfl|rfl|rfl <;> exact ⟨_,rfl,by decide,by decide⟩
def zfC (a:Ad):Sp:=λ vs H Q _=>∃ (ms:Ab) (L R En B:Addr) (bs:A1) (rs:As) (es ks:A6) (c sp:Int),vs=[.ref L,.ref R,.ref En,.ref B,.int c,.int sp]/\GS a ms H H L R En B bs rs es ks/\WInv bs rs es ks/\1<=sp/\sp<=4/\bs.length<=50/\rs.length<=50/\es.length<=50/\ks.length<=50 /\
 ∀ H' bs' rs' es' ks',GS a ms H H' L R En B bs' rs' es' ks'->WInv bs' rs' es' ks'->bs'.length + ks'.length<=bs.length + ks.length + 4->rs'.length + es'.length + ks'.length<=rs.length + es.length + ks.length + 4->(es=[]->bs'.length + ks'.length<=bs.length + ks.length + 1/\rs'.length + es'.length + ks'.length<=rs.length + es.length + ks.length + 2)->1<=rs'.length->Q .non H'
theorem V4 (T:Txt K mg a):Cal P w K mg base "_law_grow" 5 ["_law_belts","_law_knots","_law_ends","_law_loops","_law_cell","_law_span"] [] (zfC a):=T.lH.cal λ F=>by
 refine F.okx zca ?_ ?_
 ·walk_at "i"
 walk_at "j";refine oE8 h λ ms L R E B bs rs es l9=>oE3 l9 λ ks c sp m5=>oA6 m5 λ mh W I0 p1 p4 mq=>oA5 mq λ lb lr le lk k=>?_;clear l9 m5 mq h;subst mh;walk_at "T";refine ⟨_,(zg (zo 6 zca.nd ‹(pq 4) (za zd zb)›)  (zg (zo 7 zca.nd (zO (pq 6)))  (zg (zx (PW.pt (pw_or (zl (qA hr.units1) (pq 2) (zC zb) (zn _)) (pw_or1 (zl (qA hr.units1) (pq 7) zd (zn _)))))  (zg (zp (qk am ax aw zE (pq 2) (za ‹(pq 0) (za (zU (pq 6)) (za (pq 5) zb))› zb)))  (zg (zp (qk am ax aw zE (pq 1) (za ‹(zt (pq 2) (vd xr zd)) (za (pq 4) (za (zU (pq 6)) (za (pq 5) zb)))› zb)))  (zc (zj zz))))  zm)  (zg (zo 8 zca.nd (qk am du dr Jl (pq 2) (za (zw qa (zU (pq 6)) (zy zN zJ (za (pq 2) zb))) zb)))  (zQ (zx (zl (qA hr.units1) (pq 7) zd (zn _))  (zc (zp (qk am ax aw zE (pq 1) (za ‹(pq 8) (za (zU (pq 6)) (za (pq 5) zb))› zb))))  (zc (zx (zl Xs (pq 7) zd (zn _))  (zc (zp (qk am ax aw zE (pq 1) (za ‹(pq 0) (za (pq 2) (za (pq 3) (za (pq 8) (za (pq 4) (za (pq 5) zb)))))› zb))))  (zg (zo 9 zca.nd (zC zb))  (zg (zo 10 zca.nd zd)  (zQ (zx (zl (Zf hr.units1) (pq 7) zd (zn _))  (zc (zo 10 zca.nd (zw zP zd (zt (zC (za zd (za zd (za zd (za zd zb))))) (zO (zU (pq 6)))))))  zm)  (zQ (qq qS rfl (wu (za (pq 10) zb)) (qd 11 zca.nd)  (zg (zo 12 zca.nd (zt (zC (za zd (za zd (za zd (za zd zb))))) (pq 11)))  (zc (zp (qk am ax aw zE (pq 9) (za ‹(pq 0) (za ‹(pq 4) (za (pq 12) zb)› (za (pq 5) zb))› zb))))))  (zg (zp (qk am ck cj wT (pq 2) (za (pq 9) zb)))  (zc (zp (qk am ax aw zE (pq 1) (za ‹(pq 8) (za (pq 9) (za ‹(pq 1) (za (pq 4) (za (zU (pq 6)) zb))› (za (pq 7) zb)))› zb))))))))))))  (zc (zj zz))))))),?_⟩;exists uc (qM T).mono (iE2 c _ (iA4 rfl (by decide) (by decide) ?_));have n0:=jb c 1530421987;generalize xJ c 1530421987=nu at n0 ⊢;left;intro q hq;have sq:=zf (o:=.lst []) hq;have W1:=W.same sq;refine zd0 W1.hE mv ?_;generalize upd H q (.lst [])=H1 at W1 ⊢;clear sq hq;exists zbB (C:=nu % 9=8) (λ z=>?_) (λ a0 hp=>?_)
 ·obtain ⟨bv,hL,rL⟩:=W1.hL;have lL:bv.length=bs.length:=by rw [rL.len,ah]
  exists ⟨.inl ⟨rfl,_,SqL.of W1.hE⟩,iE3 _ _ _ ⟨(wH T).mono,?_⟩⟩;refine iE4 L bv _ sp (iA7 rfl (b8 n0 (by decide)) p1 p4 hL (by lia) (λ rm pc z H3 bk s3 q3=>?_));obtain ⟨W3,_⟩:=W1.addL hL s3 q3;rw [lL];generalize upd H3 L (.lst (bv ++ [.ref z]))=H4 at W3 ⊢;have I3:=I0.belt (b:=(rm,pc)) bk;refine iE3 E _ _ (iA5 rfl rfl W3.hE (zi (by rw [zu];lia)) ?_);rw [qw];have W4:=W3.setE (es ++ [(bs.length:Int)]);generalize upd H4 E (.lst (iv (es ++ [(bs.length:Int)])))=H5 at W4 ⊢;obtain ⟨rv,hR,rR⟩:=W4.hR;have lR:rv.length=rs.length:=by rw [rR.len,ah]
  exists ⟨.inl ⟨rfl,_,SqL.of hR⟩,iE3 _ _ _ ⟨(JI T).mono,zq (SqL.of W4.hE) Zv ?_⟩⟩;refine iE4 _ c _ sp (iA5 rfl (b8 n0 (by decide)) p1 p4 (λ v H6 pc' kd s6 c1 c4 d1 d6 dk q6=>?_));obtain ⟨W6,_⟩:=W4.addR hR s6 (W4.newK q6);refine iE3 R _ _ (iA5 rfl rfl (s6 _ _ hR) (zi (by lia)) ?_);left;exact k _ _ _ _ _ W6 (I3.knot (r:=⟨.source,[],[(bs.length:Int)],pc',kd⟩) (aN _) cr (iA7 rfl ⟨_,rfl⟩ c1 c4 d1 d6 dk)) (by simp;lia) (by simp;lia) (λ _=>⟨by simp;lia,by simp;lia⟩) (by simp)
 refine zA (λ z=>hp z) (λ n8=>?_);clear hp;have el:(0:Int) < es.length:=by
  rcases dN es.length with z|z
  ·exact absurd (bK.mp z) a0
  ·lia
 have k:=λ H' bs' rs' es' ks' a b c d=>k H' bs' rs' es' ks' a b c d (λ z=>absurd z a0);exists iA3 (.inl ⟨rfl,_,SqL.of W1.hE⟩) fU ⟨_,⟨.inl ⟨_,SqL.of W1.hE,rfl⟩,?_⟩⟩;rw [zu];refine ⟨el,?_⟩;have v0:=aH (nu / 9) (show (es.length:Int)≠0 by lia);have v1:=aD (nu / 9) el;generalize nu / 9 % (es.length:Int)=jj at v0 v1 ⊢;obtain ⟨y,hy⟩:∃ y,es[jj.toNat]?=some y:=⟨es[jj.toNat]'(by lia),ae _⟩;refine iE5 E (iv es) jj jj.toNat (.int y) (iA8 rfl rfl W1.hE (by lia) (by lia) (Q8 v0 (by rw [zu];exact v1)) (wD hy) ?_);rw [Jx];have W2:=W1.setE (es.eraseIdx jj.toNat);have pp:=Zd hy;have pl:=pp.length_eq;rw [bg] at pl;have I2:=I0.perm pp (aN _);generalize upd H1 E (.lst (iv (es.eraseIdx jj.toNat)))=H2 at W2 ⊢;generalize es.eraseIdx jj.toNat=es1 at pp pl W2 I2 ⊢;clear W W1 I0 pp;obtain ⟨rv,hR,rR⟩:=W2.hR;have lR:rv.length=rs.length:=by rw [rR.len,ah]
 left;let mj:St->Hp->Prop:=λ σ' H'=>∃ (v9 v10 v11 v12:Ap) (bs':A1) (rs':As) (es' ks':A6),σ'=stG L R E B c sp nu (some (.int y)) v9 v10 v11 v12/\GS a ms H H' L R E B bs' rs' es' ks'/\WInv bs' rs' es' ks'/\bs'.length + ks'.length<=bs.length + ks.length + 4/\rs'.length + es'.length + ks'.length<=rs.length + es.length + ks.length + 4/\1<=rs'.length;refine cut mj ?_ ?_
 ·exists zA (λ w7=>?_) (λ w7=>?_)
  ·exists ⟨.inl ⟨rfl,_,SqL.of hR⟩,iE3 _ _ _ ⟨(XU T).mono,?_⟩⟩;refine iE3 y _ sp (iA5 rfl (b8 n0 (by decide)) p1 p4 (λ v H3 pc s3 c0 c4 q3=>?_));obtain ⟨W3,_⟩:=W2.addR hR s3 (W2.newK q3);refine iE3 R _ _ (iA5 rfl rfl (s3 _ _ hR) (zi (by lia)) (iE8 _ _ _ _ bs _ es1 ks (iA6 rfl W3 (I2.knot (r:=⟨.drain,[y],[],pc,[]⟩) (aN _) (aN _) (iA4 ⟨_,rfl⟩ rfl c0 c4)) (by lia) (by simp;lia) (by simp))))
  exists zA (λ w3=>?_) (λ w3=>?_)
  ·exists ⟨.inl ⟨rfl,_,SqL.of hR⟩,iE3 _ _ _ ⟨(zbi T).mono,⟨ms,L,R,E,B,bs,rs,es1,ks,y,c,sp,rfl,W2.here,I2,p1,p4,by lia,by lia,by lia,λ v H3 bs' es' ks' r W3 q3 I3 l1 l2=>?_⟩⟩⟩;have W3:=W2.trans W3;obtain ⟨rv3,hR3,rR3⟩:=W3.hR;obtain ⟨W4,_⟩:=W3.addR hR3 (Same.refl _) q3;have lR3:rv3.length=rs.length:=by rw [rR3.len,ah]
   refine iE3 R _ _ (iA5 rfl rfl hR3 (zi (by lia)) (iE8 _ _ _ _ bs' _ es' ks' (iA6 rfl W4 I3 (by lia) (by simp;lia) (by simp))))
  left;intro O hO;obtain ⟨W3,nO⟩:=W2.ext (xs:=[]) hO;have hO3:upd H2 O (.lst []) O=some (.lst (iv [])):=mv;have hO0:H O=none:=by
   cases e:H O with
   | none=>rfl
   | some u=>rw [W2.f O u nO e] at hO;cases hO
  generalize upd H2 O (.lst [])=H3 at W3 hO3 ⊢;have mO:O∈O :: ms:=by simp
  left;let ml:St->Hp->Prop:=λ σ' H'=>∃ (v10:Nat),σ'=stG L R E B c sp nu (some (.int y)) (some (.ref O)) (some (.int v10)) none none/\GS a (O :: ms) H H' L R E B bs rs es1 ks/\H' O=some (.lst (iv []))/\2<=v10/\v10<=4/\(nu % 9=1->v10=2);refine cut ml ?_ ?_
  ·exists zA (λ w1=>?_) (λ w1=>⟨2,iA6 rfl W3 hO3 (by decide) (by decide) (λ _=>rfl)⟩);refine oE1 (zeQ (n:=nu / 216)) λ m l9=>oA3 l9 λ em m0 m2=>?_;clear l9;left;intro q hq;refine (zq (SqL.of mv) em ?_);have sq:=zf (o:=.lst [V.int 0,.int 0,.int 1,.int 2]) hq;exists ⟨(2 + m).toNat,iA6 ?_ (W3.same sq) (sq _ _ hO3) (by lia) (by lia) (λ z=>absurd z w1)⟩;rw [show (((2 + m).toNat:Nat):Int)=2 + m by lia]
  clear W3 hO3;intro σ' H4 m8;refine oE1 m8 λ mn l9=>oA6 l9 λ m5 W4 hO4 m2 m4 m1=>?_;ext;left;let mr:St->Hp->Prop:=λ σ' H'=>∃ (v11 v12:Ap) (bs':A1) (outs:A6),σ'=stG L R E B c sp nu (some (.int y)) (some (.ref O)) (some (.int mn)) v11 v12/\GS a (O :: ms) H H' L R E B bs' rs es1 ks/\H' O=some (.lst (iv outs))/\WInv bs' rs (y :: (es1 ++ outs)) (ks ++ outs)/\outs.length=mn/\bs'.length=bs.length + mn;refine cut mr ?_ ?_
  ·walk_at "e";exists ⟨by lia,by lia,?_⟩;let M4_:Nat->St->Hp->Prop:=λ i σ' H'=>∃ (v11 v12:Ap) (bs':A1) (outs:A6),σ'=stG L R E B c sp nu (some (.int y)) (some (.ref O)) (some (.int mn)) v11 v12/\GS a (O :: ms) H H' L R E B bs' rs es1 ks/\H' O=some (.lst (iv outs))/\WInv bs' rs (y :: (es1 ++ outs)) (ks ++ outs)/\outs.length=i/\bs'.length=bs.length + i;refine Z9 (n:=(mn:Int).toNat) M4_ (iE4 _ _ bs ([]) (iA6 rfl W4 hO4 (by rw [bH,bH];exact I2) rfl rfl)) ?_ ?_
   ·clear W4 hO4;intro i σ' H5 hi m8;refine oE4 m8 λ v11 v12 bs' outs l9=>oA6 l9 λ m5 W5 hO5 I5 lo lb'=>?_;ext;have hi4:i < 4:=by lia
    refine oE1 (zgk hi4) λ fa l9=>oA3 l9 λ efa f0 f1=>?_;clear l9;left;intro q hq;refine zq (SqL.of mv) efa ?_;have sq:=zf (o:=.lst [V.int 941083987,.int 1726512289,.int 1999483721,.int 1103527591]) hq;have W6:=W5.same sq;have hO6:=sq _ _ hO5;generalize upd H5 q (.lst [V.int 941083987,.int 1726512289,.int 1999483721,.int 1103527591])=H6 at W6 hO6 ⊢;clear W5 hO5 sq hq efa;obtain ⟨bv,hL,rL⟩:=W6.hL;have lL:bv.length=bs'.length:=by rw [rL.len,ah]
    exists ⟨.inl ⟨rfl,_,SqL.of hO6⟩,iE3 _ _ _ ⟨(wH T).mono,iE3 _ _ _ ⟨(qM T).mono,⟨c,fa,rfl,f0,f1,?_⟩⟩⟩⟩;refine iE4 L bv _ sp (iA7 rfl (jb _ _) p1 p4 hL (by lia) (λ rm pc z H7 bk s7 q7=>?_));obtain ⟨W7,_⟩:=W6.addL hL s7 q7;rw [lL];have nOL:O≠L:=λ z=>nO (by rw [z];simp);have hO7:upd H7 L (.lst (bv ++ [.ref z])) O=some (.lst (iv outs)):=by rw [mw nOL];exact s7 _ _ hO6
    generalize upd H7 L (.lst (bv ++ [.ref z]))=H8 at W7 hO7 ⊢;have I7:=I5.belt (b:=(rm,pc)) bk;refine iE3 O _ _ (iA5 rfl rfl hO7 (zi (by rw [zu];lia)) ?_);rw [qw];refine iE4 _ _ (bs' ++ [(rm,pc)]) (outs ++ [(bs'.length:Int)]) (iA6 rfl (W7.setX mO nO hO0) mv ?_ (by simp [lo]) (by simp [lb'];lia));rw [<- bP,<- bP];exact I7
   ·intro σ' H5 m8;refine oE4 m8 λ v11 v12 bs' outs l9=>oA6 l9 λ m5 W5 hO5 I5 lo lb'=>?_;ext;exact iE4 v11 v12 bs' outs (iA6 rfl W5 hO5 I5 (by lia) (by lia))
  clear W4 hO4;intro σ' H5 m8;refine oE4 m8 λ v11 v12 bs' outs l9=>oA6 l9 λ m5 W5 hO5 I5 lo lb'=>?_;ext;exists ⟨.inl ⟨rfl,_,SqL.of W5.hE⟩,iE4 E O (iv es1) (iv outs) (iA6 rfl rfl W5.hE hO5 ?_ ?_)⟩
  ·rw [zu,zu];exact bV (zi (by lia))
  rw [show iv es1 ++ iv outs=iv (es1 ++ outs) by simp [iv]];have W6:=W5.setE (es1 ++ outs);have nOE:O≠E:=λ z=>nO (by rw [z];simp);have hO6:upd H5 E (.lst (iv (es1 ++ outs))) O=some (.lst (iv outs)):=by rw [mw nOE];exact hO5
  generalize upd H5 E (.lst (iv (es1 ++ outs)))=H6 at W6 hO6 ⊢;have W7:=W6.less nO;obtain ⟨rv7,hR7,rR7⟩:=W7.hR;have lR7:rv7.length=rs.length:=by rw [rR7.len,ah]
  exists ⟨.inl ⟨rfl,_,SqL.of hR7⟩,iE3 _ _ _ ⟨(JJ T).mono,iE3 _ _ _ ⟨(V3 T).mono,?_⟩⟩⟩;refine iE6 R rv7 rs c _ _ (iA7 rfl hR7 rR7 I5.ro (by lia) (b8 n0 (by decide)) (λ H8 kk s8 k0 k1=>?_));refine iE5 y kk (nu % 9) O outs (iA8 rfl (s8 _ _ hO6) (by lia) (by lia) (λ z=>by rw [lo];exact m1 z) k0 k1 (λ v H9 s9 q9=>?_));have s79:=s8.trans s9;have q9:KnP a H9 (New H6) v (Xq y kk (nu % 9) outs):=q9.keep λ b o hb ho=>⟨zM s8 hb,ho⟩;obtain ⟨W9,_⟩:=W7.addR hR7 s79 (W7.newK q9);refine iE3 R _ _ (iA5 rfl rfl (s79 _ _ hR7) (zi (by lia)) ?_);refine iE8 _ _ _ _ bs' _ (es1 ++ outs) ks (iA6 rfl W9 (I5.knot (aN _) cr (Vv (by lia) (by lia) (λ z=>by rw [lo];exact m1 z) k0 k1)) (by lia) (by simp;lia) (by simp))
 intro σ' H3 m8;refine oE8 m8 λ v9 v10 v11 v12 bs' rs' es' ks' l9=>oA6 l9 λ m5 W3 I3 l1 l2 r1=>?_;ext;left;exact k _ _ _ _ _ W3 I3 l1 l2 r1
noncomputable abbrev stC (L R E B:Addr) (c sp:Int) (v6 v7 v8 v9 v10 v11:Ap):St:=[some (.ref L),some (.ref R),some (.ref E),some (.ref B),some (.int c),some (.int sp),v6,v7,v8,v9,v10,v11]
def zeq (a:Ad):Sp:=λ vs H Q _=>∃ (ms:Ab) (L R En B:Addr) (bs:A1) (rs:As) (es ks:A6) (c sp:Int),vs=[.ref L,.ref R,.ref En,.ref B,.int c,.int sp]/\GS a ms H H L R En B bs rs es ks/\WInv bs rs es ks/\1<=sp/\sp<=4/\bs.length + ks.length<=24/\rs.length + es.length + ks.length<=24 /\
 ∀ H' bs' rs' es',GS a ms H H' L R En B bs' rs' es' ks->WInv bs' rs' [] []->bs'.length<=bs.length + ks.length->rs'.length<=rs.length + es.length + ks.length->rs.length<=rs'.length->Q .non H'
def zcI (T:Txt K mg a):Cal P w K mg base "_law_close" 5 ["_law_belts","_law_knots","_law_ends","_law_loops","_law_cell","_law_span"] [] (zeq a):=T.ld.cal λ F=>by
 refine F.okx zaz ?_ ?_
 ·walk_at "i"
 walk_at "j";refine oE8 h λ ms L R E B bs rs es l9=>oE3 l9 λ ks c sp m5=>oA8 m5 λ mh W I0 p1 p4 lb lr k=>?_;clear l9 m5 h;subst mh;walk_at "T";refine ⟨_,(zQ (qq qS rfl (qQ (za (pq 3) zb)) (ZV (n:=2) rfl (qz (qd 6 zaz.nd) (qz (qd 7 zaz.nd) wP)))  (zg (zo 8 zaz.nd ‹(zw zP (pq 4) (zw Ji (pq 6) (pq 6))) (za zd zb)›)  (zc (zx (zl (qA hr.units1) (pq 2) (zC zb) (zn _))  (zc (zp (qk am ax aw zE (pq 1) (za ‹(pq 7) (za (pq 4) (za (pq 8) (za (pq 5) zb)))› zb))))  (zg (zo 9 zaz.nd (qk am du dr Jl (pq 2) (za (zw qa (pq 8) (zy zN zJ (za (pq 2) zb))) zb)))  (zg (zp (qk am ax aw zE (pq 2) (za ‹(pq 0) (za (zU (pq 8)) (za (pq 5) zb))› zb)))  (zg (zo 10 zaz.nd (zC (za (pq 7) (za (zt (pq 2) (vd xr zd)) zb))))  (zQ (zx (zl (qA hr.units1) (zO (zU (pq 8))) zd (zn _))  (zc (zo 10 zaz.nd (zC (za (zt (pq 2) (vd xr zd)) (za (pq 7) zb)))))  zm)  (zc (zp (qk am ax aw zE (pq 1) (za ‹(pq 9) (za (pq 10) (za ‹(pq 1) (za (pq 4) (za (zU (pq 8)) zb))› (za (zO (zU (pq 8))) zb)))› zb))))))))))))  (zc (qq qS rfl (qQ (za (pq 2) zb)) (ZV (n:=2) rfl (qz (qd 6 zaz.nd) (qz (qd 11 zaz.nd) wP)))  (zc (zp (qk am ax aw zE (pq 1) (za ‹(pq 11) (za ‹(zw zP (pq 4) (zw Ji (pq 6) (pq 6))) (za zd zb)› (za (pq 5) zb))› zb))))))),?_⟩;left;let mj:St->Hp->Prop:=λ σ' H'=>∃ (v6 v7 v8 v9 v10:Ap) (bs1:A1) (rs1:As) (es1:A6),σ'=stC L R E B c sp v6 v7 v8 v9 v10 none/\GS a ms H H' L R E B bs1 rs1 es1 ks/\WInv bs1 rs1 es1 []/\bs1.length<=bs.length + ks.length/\rs1.length + es1.length<=rs.length + es.length + ks.length/\rs.length<=rs1.length;refine cut mj ?_ ?_
 ·walk_at "e";exists iE2 B _ (iA3 rfl W.hB ?_);let ml:Nat->St->Hp->Prop:=λ i σ H'=>∃ (v6 v7 v8 v9 v10:Ap) (bs1:A1) (rs1:As) (es1:A6),σ=stC L R E B c sp v6 v7 v8 v9 v10 none/\GS a ms H H' L R E B bs1 rs1 es1 ks/\WInv bs1 rs1 es1 (ks.drop i)/\bs1.length<=bs.length + i/\rs1.length + es1.length<=rs.length + es.length + i/\rs.length<=rs1.length;refine XH (K:=K) (a:=B) (xs:=iv ks) ml
   ⟨_,_,_,_,_,bs,rs,es,rfl,W,I0,ap _,ap _,ap _⟩ (λ i σ H' _ h=>by obtain ⟨_,_,_,_,_,_,_,_,_,W,_⟩:=h;exact SqL.of W.hB) ?_ ?_
  ·clear W I0;intro i x t σ H1 hi ht m8;refine oE8 m8 λ v6 v7 v8 v9 v10 bs1 rs1 es1 l9=>oA6 l9 λ m5 W1 I1 l1 l2 l3=>?_;ext;obtain ⟨yl,hyl,rfl⟩:=Zn hi;have hil:=(aa.mp hyl).1;rw [zbJ hyl] at I1;have s2:=zf (o:=.tup [.int i,.int yl]) ht;have W2:=W1.same s2;refine un2 mv ?_;generalize upd H1 t (.tup [.int i,.int yl])=H2 at W2 ⊢;clear W1 s2 ht;exists uc (qM T).mono ⟨mul_okR (by lia) (by lia),iE2 _ _ (iA4 rfl (by decide) (by decide) ?_)⟩;have n0:=jb (c + (i:Int) * i) 1726512289;generalize xJ (c + (i:Int) * i) 1726512289=nu at n0 ⊢;left;intro q hq;have W3:=W2.same (zf (o:=.lst []) hq);refine zd0 W3.hE mv ?_;generalize upd H2 q (.lst [])=H3 at W3 ⊢;clear W2 hq;obtain ⟨rv,hR,rR⟩:=W3.hR;have lR:rv.length=rs1.length:=by rw [rR.len,ah]
   exists zA (λ z=>?_) (λ z=>?_)
   ·exists ⟨.inl ⟨rfl,_,SqL.of hR⟩,iE3 _ _ _ ⟨(JI T).mono,⟨yl,c,nu,sp,rfl,n0,p1,p4,λ v H4 pc kd s4 c1 c4 d1 d6 dk q4=>?_⟩⟩⟩;obtain ⟨W4,_⟩:=W3.addR hR s4 (W3.newK q4);refine iE3 R _ _ (iA5 rfl rfl (s4 _ _ hR) (zi (by lia)) ?_);exact iE8 _ _ _ _ _ bs1 _ es1 (iA6 rfl W4 (I1.knot (r:=⟨.source,[],[yl],pc,kd⟩) (aN _) (aN _) (iA7 rfl ⟨_,rfl⟩ c1 c4 d1 d6 dk)) (by lia) (by simp;lia) (by simp;lia))
   have el:(0:Int) < es1.length:=by
    rcases dN es1.length with y|y
    ·exact absurd (bK.mp y) z
    ·lia
   exists iA3 (.inl ⟨rfl,_,SqL.of W3.hE⟩) fU ⟨_,⟨.inl ⟨_,SqL.of W3.hE,rfl⟩,?_⟩⟩;rw [zu];refine ⟨el,?_⟩;have v0:=aH nu (show (es1.length:Int)≠0 by lia);have v1:=aD nu el;generalize nu % (es1.length:Int)=jj at v0 v1 ⊢;obtain ⟨y,hy⟩:∃ y,es1[jj.toNat]?=some y:=⟨es1[jj.toNat]'(by lia),ae _⟩;refine iE5 E (iv es1) jj jj.toNat (.int y) (iA8 rfl rfl W3.hE (by lia) (by lia) (Q8 v0 (by rw [zu];exact v1)) (wD hy) ?_);rw [Jx];have W4:=W3.setE (es1.eraseIdx jj.toNat);have pp:=Zd hy;have pl:=pp.length_eq;rw [bg] at pl;have I2:=I1.perm pp (aN _);generalize upd H3 E (.lst (iv (es1.eraseIdx jj.toNat)))=H4 at W4 ⊢;generalize es1.eraseIdx jj.toNat=es2 at pp pl W4 I2 ⊢;clear W3 I1 pp rR hR lR;obtain ⟨bv,hL,rL⟩:=W4.hL;have lL:bv.length=bs1.length:=by rw [rL.len,ah]
   exists ⟨.inl ⟨rfl,_,SqL.of W4.hE⟩,iE3 _ _ _ ⟨(wH T).mono,?_⟩⟩;refine iE4 L bv _ sp (iA7 rfl (b8 n0 (by decide)) p1 p4 hL (by lia) (λ rm pc z H5 bk s5 q5=>?_));obtain ⟨W5,_⟩:=W4.addL hL s5 q5;rw [lL];generalize upd H5 L (.lst (bv ++ [.ref z]))=H6 at W5 ⊢;have I5:=I2.belt (b:=(rm,pc)) bk;refine iE3 E _ _ (iA5 rfl rfl W5.hE (zi (by rw [zu];lia)) ?_);rw [qw];have W6:=W5.setE (es2 ++ [(bs1.length:Int)]);generalize upd H6 E (.lst (iv (es2 ++ [(bs1.length:Int)])))=H7 at W6 ⊢;clear W5 W4 hL rL lL;exists zq (SqL.of W6.hE) Zv λ O hO=>?_;have W7:=W6.same (zf (o:=.lst [V.int yl,.int (bs1.length:Int)]) hO);have hO7:upd H7 O (.lst [V.int yl,.int (bs1.length:Int)]) O=some (.lst (iv [yl,(bs1.length:Int)])):=mv;generalize upd H7 O (.lst [V.int yl,.int (bs1.length:Int)])=H8 at W7 hO7 ⊢;clear W6 hO;left;let mr:St->Hp->Prop:=λ σ' H'=>∃ (O:Addr) (outs:A6),σ'=stC L R E B c sp (some (.int i)) (some (.int yl)) (some (.int nu)) (some (.int y)) (some (.ref O)) none/\GS a ms H H' L R E B (bs1 ++ [(rm,pc)]) rs1 (es2 ++ [(bs1.length:Int)]) ks/\H' O=some (.lst (iv outs))/\outs.Perm [yl,(bs1.length:Int)];refine cut mr ?_ ?_
   ·left;walk_at "f";exists zA (λ b=>?_) (λ b=>(iE2 O _ (iA4 rfl W7 hO7 (aN _))));exists zq (SqL.of W7.hE) Zv λ O2 hO2=>?_;left;exact iE2 O2 ([(bs1.length:Int),yl]) (iA4 rfl (W7.same (zf hO2)) mv (List.Perm.swap _ _ _))
   clear W7 hO7;intro σ' H9 m8;refine oE2 m8 λ O outs l9=>oA4 l9 λ m5 W8 hO8 po=>?_;ext;have lo:outs.length=2:=po.length_eq;obtain ⟨rv,hR,rR⟩:=W8.hR;have lR:rv.length=rs1.length:=by rw [rR.len,ah]
   exists ⟨.inl ⟨rfl,_,SqL.of hR⟩,iE3 _ _ _ ⟨(JJ T).mono,iE3 _ _ _ ⟨(V3 T).mono,?_⟩⟩⟩;refine iE6 R rv rs1 c _ _ (iA7 rfl hR rR I5.ro (by lia) (b8 n0 (by decide)) (λ H10 kk s10 k0 k1=>?_));refine iE5 y kk (nu / 48 % 3) O outs (iA8 rfl (s10 _ _ hO8) (by lia) (by lia) (λ z=>lo) k0 k1 (λ v H11 s11 q11=>?_));have s9:=s10.trans s11;have q11:KnP a H11 (New H9) v (Xq y kk (nu / 48 % 3) outs):=q11.keep λ b o hb ho=>⟨zM s10 hb,ho⟩;obtain ⟨W11,_⟩:=W8.addR hR s9 (W8.newK q11);refine iE3 R _ _ (iA5 rfl rfl (s9 _ _ hR) (zi (by lia)) ?_);refine iE8 _ _ _ _ _ _ _ (es2 ++ [(bs1.length:Int)]) (iA6 rfl W11 (I5.knot (ks':=ks.drop (i + 1)) (aN _) ?_ (Vv (by lia) (by lia) (λ _=>lo) k0 k1)) (by simp;lia) (by simp;lia) (by simp;lia));refine (cC _ po).trans ?_;exact List.Perm.cons _ cr
  ·intro σ H1 m8;refine oE8 m8 λ v6 v7 v8 v9 v10 bs1 rs1 es1 l9=>oA6 l9 λ m5 W1 I1 l1 l2 l3=>?_;ext;rw [zu] at I1 l1 l2;rw [List.drop_length] at I1;exact iE8 _ _ _ _ _ bs1 rs1 es1 (iA6 rfl W1 I1 l1 l2 l3)
 clear W I0;intro σ' H1 m8;refine oE8 m8 λ v6 v7 v8 v9 v10 bs1 rs1 es1 l9=>oA6 l9 λ m5 W1 I1 l1 l2 l3=>?_;ext;walk_at "e";exists iE2 E _ (iA3 rfl W1.hE ?_);let M4_:Nat->St->Hp->Prop:=λ i σ H'=>∃ (v6 v11:Ap) (rs2:As),σ=stC L R E B c sp v6 v7 v8 v9 v10 v11/\GS a ms H H' L R E B bs1 rs2 es1 ks/\WInv bs1 rs2 (es1.drop i) []/\rs2.length + (es1.length - i)<=rs1.length + es1.length/\rs1.length<=rs2.length;refine XH (K:=K) (a:=E) (xs:=iv es1) M4_
  ⟨_,_,rs1,rfl,W1,I1,by lia,ap _⟩ (λ i σ H' _ h=>by obtain ⟨_,_,_,_,W,_⟩:=h;exact SqL.of W.hE) ?_ ?_
 ·clear W1 I1;intro i x t σ H2 hi ht m8;refine oE3 m8 λ v6 v11 rs2 l9=>oA5 l9 λ m5 W2 I2 m1 m2=>?_;ext;obtain ⟨y,hy,rfl⟩:=Zn hi;have hil:=(aa.mp hy).1;rw [zbJ hy] at I2;have s3:=zf (o:=.tup [.int i,.int y]) ht;have W3:=W2.same s3;refine un2 mv ?_;generalize upd H2 t (.tup [.int i,.int y])=H3 at W3 ⊢;clear W2 s3 ht;obtain ⟨rv,hR,rR⟩:=W3.hR;have lR:rv.length=rs2.length:=by rw [rR.len,ah]
  exists ⟨.inl ⟨rfl,_,SqL.of hR⟩,iE3 _ _ _ ⟨(XU T).mono,iE3 _ _ _ (iA3 ((qM T).mono) (mul_okR (by lia) (by lia)) ⟨_,_,rfl,by decide,by decide,?_⟩)⟩⟩;refine iE3 y _ sp (iA5 rfl (jb _ _) p1 p4 (λ v H4 pc s4 c0 c4 q4=>?_));obtain ⟨W4,_⟩:=W3.addR hR s4 (W3.newK q4);refine iE3 R _ _ (iA5 rfl rfl (s4 _ _ hR) (zi (by lia)) ?_);exact iE3 _ _ _ (iA5 rfl W4 (I2.knot (r:=⟨.drain,[y],[],pc,[]⟩) (aN _) (aN _) (iA4 ⟨_,rfl⟩ rfl c0 c4)) (by simp;lia) (by simp;lia))
 ·intro σ H2 m8;refine oE3 m8 λ v6 v11 rs2 l9=>oA5 l9 λ m5 W2 I2 m1 m2=>?_;ext;rw [zu] at I2 m1;rw [List.drop_length] at I2;left;exact k _ _ _ _ W2 I2 l1 (by lia) (by lia)
noncomputable abbrev stK (l:Addr) (c nu:Int) (v4 v5 v6 v7 v8 v9 v10 v11 v12 v13 v14:Ap):St:=[some (.ref l),some (.int c),some (.int nu),some (.int (1 + nu % 4)),v4,v5,v6,v7,v8,v9,v10,v11,v12,v13,v14]
def zex {x y:Int} (x1:1<=x) (x3:x<=6) (y1:1<=y) (y4:y<=4):qc [(x,y),(2,1),(1,y)] [⟨.joiner,[0,1],[2],0,[]⟩,⟨.parter,[2],[1,0],0,[]⟩]/\(∀ b∈[(x,y),(2,1),(1,y)],zF b.1 b.2)/\∀ r∈([⟨.joiner,[0,1],[2],0,[]⟩,⟨.parter,[2],[1,0],0,[]⟩]:As),r.ok:=by
 refine ⟨⟨⟨⟨by simp,by simp⟩,by simp,by simp⟩,?_,?_⟩,λ b hb=>?_,λ r hr=>?_⟩
 ·show List.Perm [2,1,0] [0,1,2]
  decide
 ·show List.Perm [0,1,2] [0,1,2]
  exact aN _
 ·simp only [az,cE,da] at hb;rcases hb with rfl|rfl|rfl
  ·exact iA4 x1 x3 y1 y4
  ·exact iA4 (by decide) (by decide) (by decide) (by decide)
  ·exact iA4 (show (1:Int)<=1 by decide) (show (1:Int)<=6 by decide) y1 y4
 ·simp only [az,cE,da] at hr;rcases hr with rfl|rfl
  ·exact ⟨⟨_,rfl⟩,by simp,by simp⟩
  ·exact ⟨⟨_,rfl⟩,by simp,by simp⟩
def zeU {k1 k2:A6} (a1:1<=k1.length) (a6:k1.length<=6) (ak:xg k1) (b1:1<=k2.length) (b6:k2.length<=6) (bk:xg k2):qc [(1,1),(1,1)] [⟨.source,[],[0],3,k1⟩,⟨.source,[],[1],4,k2⟩,⟨.drain,[0],[],1,[]⟩,⟨.drain,[1],[],1,[]⟩]/\(∀ b∈[((1:Int),(1:Int)),(1,1)],zF b.1 b.2)/\∀ r∈([⟨.source,[],[0],3,k1⟩,⟨.source,[],[1],4,k2⟩,⟨.drain,[0],[],1,[]⟩,⟨.drain,[1],[],1,[]⟩]:As),r.ok:=by
 refine ⟨⟨⟨⟨by simp,by simp⟩,by simp,by simp⟩,?_,?_⟩,λ b hb=>?_,λ r hr=>?_⟩
 ·show List.Perm [0,1] [0,1]
  exact aN _
 ·show List.Perm [0,1] [0,1]
  exact aN _
 ·simp only [az,cE,da] at hb;rcases hb with rfl|rfl <;> exact ⟨by decide,by decide,by decide,by decide⟩
 ·simp only [az,cE,da] at hr;rcases hr with rfl|rfl|rfl|rfl
  ·exact iA7 rfl ⟨_,rfl⟩ (show (1:Int)<=3 by decide) (show (3:Int)<=4 by decide) a1 a6 ak
  ·exact iA7 rfl ⟨_,rfl⟩ (show (1:Int)<=4 by decide) (show (4:Int)<=4 by decide) b1 b6 bk
  ·exact iA4 ⟨_,rfl⟩ rfl (by decide) (by decide)
  ·exact iA4 ⟨_,rfl⟩ rfl (by decide) (by decide)
inductive spWorkOf (K:A0) (a:Ad) (vs:Ao) (H:Hp) (Q:VK) (E:XK):Prop
 | i (l:Addr) (ns:A6):vs=[.ref l]->SqL K H l (iv ns)->(∀ v H' bs rs,Same H H'->Rep H' (Off []) v (qf a bs rs)->qc bs rs->(∀ b∈bs,zF b.1 b.2)->(∀ r∈rs,r.ok)->Q v H')->spWorkOf K a vs H Q E
theorem zd6 (T:Txt K mg a):Cal P w K mg base "_law_work" 7 ["_law_script"] [] (spWorkOf K a):=T.lI.cal λ F=>by
 refine F.okx zb8 ?_ ?_
 ·walk_at "i"
 walk_at "j";rcases h with ⟨l,ns,rfl,hl,k⟩;walk_at "T";refine ⟨_,(zg (zaI (i:=1) zb8.nd rfl (Or.inr rfl) ‹(pq 0) (za zd zb)›)  (zg (zo 2 zb8.nd ‹(pq 1) (za zd zb)›)  (zg (zo 3 zb8.nd (zw zP zd (zO (pq 2))))  (zg (zo 4 zb8.nd (zw zP zd (zO (zU (pq 2)))))  (zQ (zx (zl (qA hr.units1) (zO (zU (pq 2))) zd (zn _))  (zc (zo 4 zb8.nd (zw zP (pq 4) zd)))  zm)  (zg (zx (zl (qA hr.units1) (zO (zU (pq 2))) zd (zn _))  (zg (zo 5 zb8.nd (zC (za (qh (x:="Belt") ⟨rfl,rfl,rfl⟩ hr (za (zw zP zd (zO (pq 2))) (za (pq 3) zb))) (za (qh (x:="Belt") ⟨rfl,rfl,rfl⟩ hr (za zd (za zd zb))) (za (qh (x:="Belt") ⟨rfl,rfl,rfl⟩ hr (za zd (za (pq 3) zb))) zb)))))  (zc (zj (qh (x:="Work") ⟨rfl,rfl,rfl⟩ hr (za (pq 5) (za (zC (za (qh (x:="Joiner") ⟨rfl,rfl,rfl⟩ hr (za (zC (za zd (za zd zb))) (za zd zb))) (za (qh (x:="Parter") ⟨rfl,rfl,rfl⟩ hr (za zd (za (zC (za zd (za zd zb))) zb))) zb))) zb))))))  zm)  (zg (zx (zl (qA hr.units1) (zO (zU (pq 2))) zd (zn _))  (zg (zo 6 zb8.nd (zt (zC (za (ji (za zd (za zd zb))) (za (ji (za zd (za zd zb))) zb))) (zO (zU (pq 2)))))  (zg (Q6 (i:=7) zb8.nd rfl (Or.inl rfl) (vars:=["_law_count"]) (caps:=[1]) (N:=["_law_count","_law_first"]) (ON:=["_law_script","_law_first","_law_number","_law_span","_law_many","_law_ring","_law_counts","_law_kinds_here","_law_lanes","_law_belts","_law_knots","_law_ends","_law_loops","_law_cell","_law_cut"]) (osc:=ze vZ) rfl rfl (by right) rfl rfl (zX (pq 6)) (λ _ _ _ _=>(qd 0 (show (["_law_count","_law_first"]:A8).Nodup from by symm))) (λ _ _ _ _=>z6) (λ s H fp l8=>(xb (vars:=["_law_k"]) (caps:=[1]) (N:=["_law_k","_law_first"]) (ON:=["_law_count","_law_first"]) (osc:=_) rfl rfl (by right) rfl rfl (wu (za (pq 0) zb)) (λ _ _ _ _=>(qd 0 (show (["_law_k","_law_first"]:A8).Nodup from by symm))) (λ _ _ _ _=>z6) (λ _ _ _ _=>(zaK (zw zP (pq 1) (pq 0)))))))  (zg (zo 8 zb8.nd (zC (za (qh (x:="Source") ⟨rfl,rfl,rfl⟩ hr (za zd (za zd (za (zt (pq 7) zd) zb)))) (za (qh (x:="Source") ⟨rfl,rfl,rfl⟩ hr (za zd (za zd (za (zt (pq 7) zd) zb)))) (za (qh (x:="Drain") ⟨rfl,rfl,rfl⟩ hr (za zd (za zd zb))) (za (qh (x:="Drain") ⟨rfl,rfl,rfl⟩ hr (za zd (za zd zb))) zb))))))  (zc (zj (qh (x:="Work") ⟨rfl,rfl,rfl⟩ hr (za (zC (za (qh (x:="Belt") ⟨rfl,rfl,rfl⟩ hr (za zd (za zd zb))) (za (qh (x:="Belt") ⟨rfl,rfl,rfl⟩ hr (za zd (za zd zb))) zb))) (za (pq 8) zb))))))))  zm)  (zg (zo 9 zb8.nd (zC zb))  (zg (zo 10 zb8.nd (zC zb))  (zg (zo 11 zb8.nd (zC zb))  (zg (zo 12 zb8.nd (zC zb))  (zQ (qq qS rfl (zX (xa vA (pq 0) (xm zd) (xm (zw zP zd (pq 4))))) (qd 13 zb8.nd)  (zc (zp ‹(pq 9) (za (pq 10) (za (pq 11) (za (pq 12) (za (pq 13) (za (pq 3) zb)))))›)))  (zQ (zx (zl (zf2 hr.units1) (pq 10) (zC zb) (zn _))  (zc (zp ‹(pq 9) (za (pq 10) (za (pq 11) (za (pq 12) (za (pq 1) (za (pq 3) zb)))))›))  zm)  (zg (zp ‹(pq 9) (za (pq 10) (za (pq 11) (za (pq 12) (za (pq 1) (za (pq 3) zb)))))›)  (zg (zo 14 zb8.nd (zw qa (zU (pq 2)) (zy zN zJ (za (pq 10) zb))))  (zg (zo 10 zb8.nd (zw zP (xa vA (pq 10) (xm (pq 14)) wO) (xa vA (pq 10) wO (xm (pq 14)))))  (zQ (zx (zl (qA hr.units1) (zO (zU (pq 2))) zd (zn _))  (zc (zo 10 zb8.nd (zeJ rfl (za (pq 10) zb))))  zm)  (zc (zj (qh (x:="Work") ⟨rfl,rfl,rfl⟩ hr (za (pq 9) (za (pq 10) zb)))))))))))))))))))))),?_⟩;exists uc (zd8 T).mono (iE3 l ns 0 (iA3 rfl hl ?_));generalize Qb ns 0=c;exists uc (qM T).mono (iE2 c _ (iA4 rfl (by decide) (by decide) ?_));have n0:=jb c 1873046521;generalize xJ c 1873046521=nu at n0 ⊢;have s0:=aH nu (show (4:Int)≠0 by decide);have s1:=aD nu (show (0:Int) < 4 by decide);have m0:=aH (nu / 4) (show (4:Int)≠0 by decide);have m1:=aD (nu / 4) (show (0:Int) < 4 by decide);left;walk_at "f";left;let mj:St->Hp->Prop:=λ σ' H'=>∃ m:Nat,σ'=stK l c nu (some (.int m)) none none none none none none none none none none/\H'=H/\m<=6;refine cut mj ?_ ?_
 ·left;walk_at "f";exists zA (λ _=>?_) (λ _=>?_)
  ·exists ⟨(1 + nu / 4 % 4 + 2).toNat,iA3 ?_ rfl (by lia)⟩;rw [show (((1 + nu / 4 % 4 + 2).toNat:Nat):Int)=1 + nu / 4 % 4 + 2 by lia]
  ·refine ⟨(1 + nu / 4 % 4).toNat,iA3 ?_ rfl (by lia)⟩;rw [show (((1 + nu / 4 % 4).toNat:Nat):Int)=1 + nu / 4 % 4 by lia]
 intro σ' H' m8;refine oE1 m8 λ mn l9=>oA3 l9 λ m5 mh m6=>?_;clear l9 m8;subst m5 mh;clear m0 m1;left;walk_at "f";exists zA (λ _=>?_) (λ _=>?_)
 ·have z0:=aH nu (show (3:Int)≠0 by decide);have z1:=aD nu (show (0:Int) < 3 by decide);exists iE4 a.m _ _ _ ⟨(vM T).mono,?_⟩;intro b1 d1 hb1 hd1 _;refine wU hb1 hd1 (iA4 (by lia) (by lia) (by lia) (by lia)) λ H1 s1 q1=>⟨rfl,?_⟩;refine iE4 a.m _ _ _ ⟨(vM T).mono,?_⟩;intro b2 d2 hb2 hd2 _;refine wU hb2 hd2 (iA4 (by decide) (by decide) (by decide) (by decide)) λ H2 s2 q2=>⟨rfl,?_⟩;refine iE4 a.m _ _ _ ⟨(vM T).mono,?_⟩;intro b3 d3 hb3 hd3 _;refine wU hb3 hd3 (iA4 (by decide) (by decide) (by lia) (by lia)) λ H3 s3 q3=>⟨rfl,?_⟩;intro L hL;have s4:=zf (o:=.lst [V.ref b1,.ref b2,.ref b3]) hL;have hL4:upd H3 L (.lst [V.ref b1,.ref b2,.ref b3]) L=some (.lst [V.ref b1,.ref b2,.ref b3]):=mv;generalize upd H3 L (.lst [V.ref b1,.ref b2,.ref b3])=H4 at s4 hL4 ⊢;exists iE4 a.u _ _ _ ⟨(zaX T).mono,(iE4 a.t _ _ _ ⟨(Jv T).mono,λ j hj=>?_⟩)⟩;have s5:=zf (o:=.lst [V.int 0,.int 1]) hj;have hj5:upd H4 j (.lst [V.int 0,.int 1]) j=some (.lst (iv [0,1])):=mv;generalize upd H4 j (.lst [V.int 0,.int 1])=H5 at s5 hj5 ⊢;intro k1 e1 hk1 he1 _;refine Xv hk1 he1 hj5 (by decide) (by decide) λ H6 s6 q6=>⟨rfl,?_⟩;refine iE4 a.q _ _ _ ⟨(Ju T).mono,λ j2 hj2=>?_⟩;have s7:=zf (o:=.lst [V.int 1,.int 0]) hj2;have hj7:upd H6 j2 (.lst [V.int 1,.int 0]) j2=some (.lst (iv [1,0])):=mv;generalize upd H6 j2 (.lst [V.int 1,.int 0])=H7 at s7 hj7 ⊢;intro k2 e2 hk2 he2 _;refine Xu hk2 he2 hj7 (by decide) (by decide) λ H8 s8 q8=>⟨rfl,?_⟩;intro R hR;have s9:=zf (o:=.lst [V.ref k1,.ref k2]) hR;have hR9:upd H8 R (.lst [V.ref k1,.ref k2]) R=some (.lst [V.ref k1,.ref k2]):=mv;generalize upd H8 R (.lst [V.ref k1,.ref k2])=H9 at s9 hR9 ⊢;have t69:=(s7.trans s8).trans s9;have t49:=(s5.trans s6).trans t69;have t19:=((s2.trans s3).trans s4).trans t49;have tr:∀ {H1 H2:Hp} {p:A5} {v:V} {d:D},Rep H1 p v d->Same H1 H2->Rep H2 (λ _=>True) v d:=λ r s=>r.keep λ b o _ hb=>⟨trivial,s b o hb⟩;intro z dz hz hdz _;obtain ⟨o1,o2,o3⟩:=zex (x:=1 + nu % 3) (y:=1 + nu % 4) (by lia) (by lia) (by lia) (by lia);refine Wr (p:=λ _=>True) (q:=λ _=>True) (bs:=[(1 + nu % 3,1 + nu % 4),(2,1),(1,1 + nu % 4)]) (rs:=[⟨.joiner,[0,1],[2],0,[]⟩,⟨.parter,[2],[1,0],0,[]⟩]) hz hdz (t49 _ _ hL4) hR9 ?_ ?_ ?_ ?_ ?_ λ H10 s10 r10=>⟨rfl,k _ _ _ _ ((s1.trans t19).trans s10) r10 ?_ ?_ ?_⟩
  ·exact .cons (tr q1 t19) (.cons (tr q2 ((s3.trans s4).trans t49)) (.cons (tr q3 (s4.trans t49)) .nil))
  ·exact .cons (tr q6 t69) (.cons (tr q8 s9) .nil)
  ·exact o1
  ·exact o2
  ·exact o3
  ·exact o1
  ·exact o2
  ·exact o3
 left;walk_at "f";exists zA (λ _=>?_) (λ _=>?_)
 ·left;intro p hp p1 hp1 p2 hp2;have sA:=((zf (o:=.tup [V.int 5,.int 4]) hp).trans (zf (o:=.tup [V.int 3,.int 5]) hp1)).trans (zf (o:=.lst [V.ref p,.ref p1]) hp2);have g1:=mz (o:=.lst [V.ref p,.ref p1]) (mz (o:=.tup [V.int 3,.int 5]) (mv (H:=H') (a:=p) (o:=.tup [V.int 5,.int 4])) hp1) hp2;have g2:=mz (o:=.lst [V.ref p,.ref p1]) (mv (H:=upd H' p (.tup [V.int 5,.int 4])) (a:=p1) (o:=.tup [V.int 3,.int 5])) hp2;have g3:upd (upd (upd H' p (.tup [V.int 5,.int 4])) p1 (.tup [V.int 3,.int 5])) p2 (.lst [V.ref p,.ref p1]) p2=some (.lst [V.ref p,.ref p1]):=mv;generalize upd (upd (upd H' p (.tup [V.int 5,.int 4])) p1 (.tup [V.int 3,.int 5])) p2 (.lst [V.ref p,.ref p1])=H1 at sA g1 g2 g3 ⊢;obtain ⟨tc,u1,u2,etc,htc,a1,a6,b1,b6⟩:∃ (tc:Addr) (u1 u2:Int),atI [V.ref p,.ref p1] (nu / 51200 % 2)=some (.ref tc)/\H1 tc=some (.tup [.int u1,.int u2])/\1<=u1/\u1<=6/\1<=u2/\u2<=6:=by
   have h:nu / 51200 % 2=0\/nu / 51200 % 2=1:=by lia
   rcases h with h|h <;> rw [h]
   ·exact iE3 p 5 4 (iA6 rfl g1 (by decide) (by decide) (by decide) (by decide))
   ·exact iE3 p1 3 5 (iA6 rfl g2 (by decide) (by decide) (by decide) (by decide))
  refine zq (SqL.of g3) etc ?_;clear g1 g2 g3 etc hp hp1 hp2;walk_at "d";exists ⟨tc,rfl,.inr ⟨⟨_,SqT.of htc⟩,λ _ _ _ _ mf hacc=>?_⟩⟩;let ml:Nat->St->Hp->Prop:=λ i σ H'=>∃ (v:Ap) (as:Ab),σ=[v,some (.int c)]/\Same H1 H'/\H' mf=some (.lst (as.map V.ref))/\as.length=i/\∀ (j:Nat) b,as[j]?=some b->b≠mf/\∃ kd:List Int,H' b=some (.lst (iv kd))/\1<=kd.length/\kd.length<=6/\xg kd;refine zgU (K:=K) (a:=tc) (xs:=[.int u1,.int u2]) ml (iE2 _ ([]) (iA5 rfl (zf hacc) mv rfl (λ j b h=>by simp at h))) (λ i σ H' _ ⟨_,_,_,s,_⟩=>SqT.of (s _ _ htc)) ?_ ?_
  ·intro i x σ H2 hi m8;refine oE2 m8 λ v as l9=>oA5 l9 λ m5 s2 ha la hk=>?_;ext;obtain ⟨u,rfl,ub,u6⟩:∃ u:Int,x=.int u/\1<=u/\u<=6:=by
    match i,hi with
    | 0,hi=>cases hi;exact ⟨u1,rfl,a1,a6⟩
    | 1,hi=>cases hi;exact ⟨u2,rfl,b1,b6⟩
   have la2:i < 2:=(aa.mp hi).1;walk_at "d";exists ⟨by lia,by lia,λ _ _ _ _ ac2 hac2=>?_⟩;let mr:Nat->St->Hp->Prop:=λ j σ H'=>∃ v ks,σ=[v,some (.int c)]/\Same H2 H'/\ks.length=j/\xg ks/\H' ac2=some (.lst (iv ks));refine Z9 (n:=u.toNat) mr (iE2 _ ([]) (iA5 rfl (zf hac2) rfl (λ _ z=>nomatch z) mv)) ?_ ?_
   ·intro j σ H3 hj m8;refine oE2 m8 λ v ks l9=>oA5 l9 λ m5 s3 lk hkk ha3=>?_;ext;left;have x0:=aH (c + (0 + (j:Int))) (show (1000000000000000000000000000000:Int)≠0 by decide);have x1:=aD (c + (0 + (j:Int))) (show (0:Int) < 1000000000000000000000000000000 by decide);generalize (c + (0 + (j:Int))) % 1000000000000000000000000000000=kk at x0 x1 ⊢;refine ⟨_,iA3 ha3 (zi (by rw [zu];lia)) (iE2 _ (ks ++ [kk]) (iA5 rfl (λ b o hb=>by rw [mw (my hb hac2)];exact s3 b o hb) (by simp [lk]) ?_ (by rw [mv,qw])))⟩;intro z hz;rcases aF.mp hz with hz|hz
    ·exact hkk z hz
    ·rw [ay.mp hz];exact ⟨x0,x1⟩
   intro σ H3 m8;refine oE2 m8 λ v ks l9=>oA5 l9 λ m5 s3 lk hkk ha3=>?_;ext;have nac:ac2≠mf:=(my ha hac2).symm;refine ⟨_,iA3 (s3 _ _ ha) (zi (by rw [ah];lia)) (iE2 _ (as ++ [ac2]) (iA5 rfl (λ b o hb=>by rw [mw (my hb hacc)];exact s3 _ _ (s2 b o hb)) (by rw [mv];simp) (by simp [la]) (λ j b h=>?_)))⟩;by_cases hj:j < as.length
   ·rw [aY hj] at h;refine oA2 (hk j b h) λ n1 l9=>oE1 l9 λ kd m5=>oA2 m5 λ h1 h2=>?_;clear l9 m5;exact ⟨n1,⟨kd,⟨by rw [mw n1];exact s3 _ _ h1,h2⟩⟩⟩
   ·rw [aS (by lia)] at h;have:=(aa.mp h).1;rw [show j - as.length=0 by simp at this;lia] at h;cases h;exact ⟨nac,⟨ks,iA4 (by rw [mw nac];exact ha3) (by lia) (by lia) hkk⟩⟩
  intro σ H2 m8;refine oE2 m8 λ v as l9=>oA5 l9 λ m5 s2 ha la hk=>?_;ext;obtain ⟨q1,q2,rfl⟩:∃ q1 q2,as=[q1,q2]:=by
   match as,la with
   | [x,y],_=>exact ⟨x,y,rfl⟩
  refine oA2 (hk 0 q1 rfl) λ _ l9=>oE1 l9 λ kd1 m5=>oA4 m5 λ h1 k11 k16 kk1=>?_;clear l9 m5;refine oA2 (hk 1 q2 rfl) λ _ l9=>oE1 l9 λ kd2 m5=>oA4 m5 λ h2 k21 k26 kk2=>?_;clear l9 m5;have ha:H2 mf=some (.lst [V.ref q1,.ref q2]):=ha;clear hk la htc hacc;exists iE4 a.o _ _ _ ⟨(Zl T).mono,zq (SqL.of ha) at0 ?_⟩;intro z1 d1 hz1 hd1 _;refine ZX hz1 hd1 h1 (by decide) (by decide) k11 k16 kk1 λ H3 s3 w1=>⟨rfl,?_⟩;refine iE4 a.o _ _ _ ⟨(Zl T).mono,zq (SqL.of (s3 _ _ ha)) (show atI _ 1=some (.ref q2) from rfl) ?_⟩;intro z2 d2 hz2 hd2 _;refine ZX hz2 hd2 (s3 _ _ h2) (by decide) (by decide) k21 k26 kk2 λ H4 s4 w2=>⟨rfl,?_⟩;refine iE4 a.p _ _ _ ⟨(Zm T).mono,?_⟩;intro z3 d3 hz3 hd3 _;refine Zh hz3 hd3 (by decide) (by decide) λ H5 s5 w3=>⟨rfl,?_⟩;refine iE4 a.p _ _ _ ⟨(Zm T).mono,?_⟩;intro z4 d4 hz4 hd4 _;refine Zh hz4 hd4 (by decide) (by decide) λ H6 s6 w4=>⟨rfl,?_⟩;intro R hR;have s7:=zf (o:=.lst [V.ref z1,.ref z2,.ref z3,.ref z4]) hR;have hR7:upd H6 R (.lst [V.ref z1,.ref z2,.ref z3,.ref z4]) R=some (.lst [V.ref z1,.ref z2,.ref z3,.ref z4]):=mv;generalize upd H6 R (.lst [V.ref z1,.ref z2,.ref z3,.ref z4])=H7 at s7 hR7 ⊢;exists iE4 a.u _ _ _ ⟨(zaX T).mono,(iE4 a.m _ _ _ ⟨(vM T).mono,?_⟩)⟩;intro b1 f1 hb1 hf1 _;refine wU hb1 hf1 (iA4 (by decide) (by decide) (by decide) (by decide)) λ H8 s8 r1=>⟨rfl,?_⟩;refine iE4 a.m _ _ _ ⟨(vM T).mono,?_⟩;intro b2 f2 hb2 hf2 _;refine wU hb2 hf2 (iA4 (by decide) (by decide) (by decide) (by decide)) λ H9 s9 r2=>⟨rfl,?_⟩;intro L hL;have s10:=zf (o:=.lst [V.ref b1,.ref b2]) hL;have hL10:upd H9 L (.lst [V.ref b1,.ref b2]) L=some (.lst [V.ref b1,.ref b2]):=mv;generalize upd H9 L (.lst [V.ref b1,.ref b2])=H10 at s10 hL10 ⊢;have tr:∀ {H1 H2:Hp} {p:A5} {v:V} {d:D},Rep H1 p v d->Same H1 H2->Rep H2 (λ _=>True) v d:=λ r s=>r.keep λ b o _ hb=>⟨trivial,s b o hb⟩;have t7:=(s8.trans s9).trans s10;have t6:=s7.trans t7;have t5:=s6.trans t6;have t4:=s5.trans t5;have t3:=s4.trans t4;obtain ⟨o1,o2,o3⟩:=zeU k11 k16 kk1 k21 k26 kk2;intro z dz hz hdz _;refine Wr (p:=λ _=>True) (q:=λ _=>True) (bs:=[(1,1),(1,1)]) (rs:=[⟨.source,[],[0],3,kd1⟩,⟨.source,[],[1],4,kd2⟩,⟨.drain,[0],[],1,[]⟩,⟨.drain,[1],[],1,[]⟩]) hz hdz hL10 (t7 _ _ hR7) (.cons (tr r1 (s9.trans s10)) (.cons (tr r2 s10) .nil)) (.cons (tr w1 t3) (.cons (tr w2 t4) (.cons (tr w3 t5) (.cons (tr w4 t6) .nil)))) o1 o2 o3 λ H11 s11 r11=>⟨rfl,k _ _ _ _ (((sA.trans s2).trans (s3.trans t3)).trans s11) r11 o1 o2 o3⟩
 left;intro L hL;left;intro R hR;left;intro E hE;left;intro B hB;have sH:=(((zf (o:=.lst []) hL).trans (zf (o:=.lst []) hR)).trans (zf (o:=.lst []) hE)).trans (zf (o:=.lst []) hB);have nw:∀ m∈ms4 L R E B,H' m=none:=λ m hm=>by
  simp only [az,cE,da] at hm;rcases hm with rfl|rfl|rfl|rfl
  ·exact hL
  ·exact zG hR
  ·exact zG (zG hE)
  ·exact zG (zG (zG hB))
 have e1:=mz (o:=.lst []) (mz (o:=.lst []) (mz (o:=.lst []) (mv (H:=H') (a:=L) (o:=.lst [])) hR) hE) hB;have e2:=mz (o:=.lst []) (mz (o:=.lst []) (mv (H:=upd H' L (.lst [])) (a:=R) (o:=.lst [])) hE) hB;have e3:=mz (o:=.lst []) (mv (H:=upd (upd H' L (.lst [])) R (.lst [])) (a:=E) (o:=.lst [])) hB;have e4:upd (upd (upd (upd H' L (.lst [])) R (.lst [])) E (.lst [])) B (.lst []) B=some (.lst []):=mv;have W0:GS a (ms4 L R E B) (upd (upd (upd (upd H' L (.lst [])) R (.lst [])) E (.lst [])) B (.lst [])) (upd (upd (upd (upd H' L (.lst [])) R (.lst [])) E (.lst [])) B (.lst [])) L R E B [] [] [] [] :=
  ⟨Fr.refl,my mv hR,my (mz mv hR) hE,my (mz (mz mv hR) hE) hB,my mv hE,my (mz mv hE) hB,my mv hB,λ _ h=>h,λ m hm=>by
   simp only [az,cE,da] at hm;rcases hm with rfl|rfl|rfl|rfl
   ·exact ⟨_,e1⟩
   ·exact ⟨_,e2⟩
   ·exact ⟨_,e3⟩
   ·exact ⟨_,e4⟩,⟨[],e1,.nil⟩,⟨[],e2,.nil⟩,e3,e4⟩
 generalize upd (upd (upd (upd H' L (.lst [])) R (.lst [])) E (.lst [])) B (.lst [])=H1 at sH W0 ⊢;clear e1 e2 e3 e4 hL hR hE hB;left;let M4_:St->Hp->Prop:=λ σ' H2=>∃ (v13:Ap) (bs:A1) (rs:As) (es ks:A6),σ'=stK l c nu (some (.int mn)) none none none none (some (.ref L)) (some (.ref R)) (some (.ref E)) (some (.ref B)) v13 none/\GS a (ms4 L R E B) H1 H2 L R E B bs rs es ks/\WInv bs rs es ks/\(rs.length=0->bs.length + ks.length=0/\es=[])/\bs.length + ks.length<=21/\rs.length + es.length + ks.length<=22;refine cut M4_ ?_ ?_
 ·walk_at "e";exists vI (WR sH hl) λ p hp=>?_;obtain ⟨cs,ecs,lcs⟩:=zgp ns mn;rw [ecs];have W1:=W0.same (zf (o:=.lst (iv cs)) hp);have np:=W0.off hp;have gp:upd H1 p (.lst (iv cs)) p=some (.lst (iv cs)):=mv;generalize upd H1 p (.lst (iv cs))=H2 at W1 gp ⊢;refine ⟨p,rfl,.inl ⟨⟨_,SqL.of gp⟩,?_⟩⟩;let M5_:Nat->St->Hp->Prop:=λ i σ' H2=>∃ (v13:Ap) (bs:A1) (rs:As) (es ks:A6),σ'=stK l c nu (some (.int mn)) none none none none (some (.ref L)) (some (.ref R)) (some (.ref E)) (some (.ref B)) v13 none/\GS a (ms4 L R E B) H1 H2 L R E B bs rs es ks/\H2 p=some (.lst (iv cs))/\WInv bs rs es ks/\(i=0->bs.length + ks.length=0/\rs.length=0/\es=[])/\(1<=i->bs.length + ks.length + 3<=4 * i/\rs.length + es.length + ks.length + 2<=4 * i/\1<=rs.length);refine qt (K:=K) (a:=p) (xs:=iv cs) M5_
   ⟨_,[],[],[],[],rfl,W1,gp,⟨aN _,aN _,(λ _ z=>nomatch z),(λ _ z=>nomatch z)⟩,λ _=>⟨rfl,rfl,rfl⟩,λ z=>absurd z (by decide)⟩ (λ i σ H' _ h=>by obtain ⟨_,_,_,_,_,_,_,g,_⟩:=h;exact SqL.of g) ?_ ?_
  ·clear W1 gp;intro i x σ' H3 hi m8;refine oE5 m8 λ v13 bs rs es ks l9=>oA6 l9 λ m5 W gp I0 i0 i1=>?_;ext;obtain ⟨y,hy,rfl⟩:=Zn hi;have hil:=(aa.mp hy).1;have z:i=0\/1<=i:=by lia
   have bb:bs.length<=21/\rs.length<=22/\es.length<=22/\ks.length<=22:=by
    rcases z with z|z
    ·obtain ⟨q1,q2,rfl⟩:=i0 z;exact iA4 (by lia) (by lia) (by simp) (by lia)
    ·have:=i1 z
     lia
   exists uc (V4 T).mono (iE8 _ L R E B bs rs es (iE3 ks y _ (iA6 rfl W.here I0 (by lia) (by lia) (iA5 (by lia) (by lia) (by lia) (by lia) (λ H4 bs2 rs2 es2 ks2 W2 I2 l1 l2 l3 r1=>?_)))));exists iE5 _ bs2 rs2 es2 ks2 (iA6 rfl (W.trans W2) (W2.f _ _ np gp) I2 (λ z=>nomatch z) (λ _=>?_));rcases z with z|z
   ·obtain ⟨q1,q2,q3⟩:=i0 z;obtain ⟨n1,n2⟩:=l3 q3;subst q3;simp only [c9] at n2
    lia
   ·have:=i1 z
    lia
  ·intro σ' H3 m8;refine oE5 m8 λ v13 bs rs es ks l9=>oA6 l9 λ m5 W gp I0 i0 i1=>?_;ext;rw [zu] at i0 i1;have z:cs.length=0\/1<=cs.length:=by lia
   refine iE5 v13 bs rs es ks (iA6 rfl W I0 (λ r0=>?_) ?_ ?_)
   ·rcases z with z|z
    ·exact ⟨(i0 z).1,(i0 z).2.2⟩
    ·have:=i1 z;lia
   ·rcases z with z|z
    ·have:=i0 z;lia
    ·have:=i1 z;lia
   ·rcases z with z|z
    ·obtain ⟨q1,q2,rfl⟩:=i0 z;simp only [c9]
     lia
    ·have:=i1 z;lia
 clear W0;intro σ' H2 m8;refine oE5 m8 λ v13 bs rs es ks l9=>oA6 l9 λ m5 W I0 r0 l1 l2=>?_;ext;left;let M6_:St->Hp->Prop:=λ σ' H2=>∃ (bs:A1) (rs:As) (es ks:A6),σ'=stK l c nu (some (.int mn)) none none none none (some (.ref L)) (some (.ref R)) (some (.ref E)) (some (.ref B)) v13 none/\GS a (ms4 L R E B) H1 H2 L R E B bs rs es ks/\WInv bs rs es ks/\1<=rs.length/\bs.length + ks.length<=24/\rs.length + es.length + ks.length<=24;refine cut M6_ ?_ ?_
 ·left;intro q hq;have W1:=W.same (zf (o:=.lst []) hq);obtain ⟨rv,hR,rR⟩:=W1.hR;have lR:rv.length=rs.length:=by rw [rR.len,ah]
  refine iE3 R q rv (iA5 rfl rfl (SqL.of hR) (SqL.of mv) ?_);rw [lR];generalize upd H2 q (.lst [])=H3 at W1 hR rR ⊢;exists zA (λ z=>?_) (λ z=>(iE4 bs rs es ks (iA6 rfl W1 I0 (by lia) (by lia) (by lia))));obtain ⟨q1,rfl⟩:=r0 z;simp only [c9] at l2;exists uc (V4 T).mono (iE8 _ L R E B bs rs ([]) (iE3 ks c _ (iA6 rfl W1.here I0 (by lia) (by lia) (iA5 (by lia) (by lia) (by simp) (by lia) (λ H4 bs2 rs2 es2 ks2 W2 I2 _ _ l3 r1=>?_)))));obtain ⟨n1,n2⟩:=l3 rfl;simp only [c9] at n2;exact iE4 bs2 rs2 es2 ks2 (iA6 rfl (W1.trans W2) I2 r1 (by lia) (by lia))
 clear W I0 r0 l1 l2;intro σ' H2 m8;refine oE4 m8 λ bs rs es ks l9=>oA6 l9 λ m5 W I0 r1 l1 l2=>?_;ext;exists uc (zcI T).mono (iE8 _ L R E B bs rs es (iE3 ks c _ (iA8 rfl W.here I0 (by lia) (by lia) l1 l2 (λ H3 bs' rs' es' W2 I2 lb lr rr=>?_))));have W3:=W.trans W2;have sK:Same H' H3:=(sH.fr.trans W3.f).same nw;obtain ⟨bv,hL,rL⟩:=W3.hL;obtain ⟨rv,hR,rR⟩:=W3.hR;have lR:rv.length=rs'.length:=by rw [rR.len,ah]
 clear W W2 I0;exists ⟨_,.inl ⟨_,SqL.of hR,rfl⟩,?_⟩;rw [lR];refine ⟨by lia,?_⟩;have w0:=aH (nu / 64) (show (rs'.length:Int)≠0 by lia);have w1:=aD (nu / 64) (show (0:Int) < (rs'.length:Int) by lia);obtain ⟨ct,ect⟩:∃ m:Nat,nu / 64 % (rs'.length:Int)=m:=⟨(nu / 64 % (rs'.length:Int)).toNat,by lia⟩;rw [ect] at w1 ⊢;clear w0 ect;exists vI (SqL.of hR) λ q1 hq1=>?_;rw [VU rv ct (by lia)];have a1:=zf (o:=.lst (rv.drop ct)) hq1;refine vI (SqL.of (a1 _ _ hR)) λ q2 hq2=>?_;rw [Zr rv ct];have a2:=zf (o:=.lst (rv.take ct)) hq2;refine Wj (SqL.of (a2 _ _ mv)) (SqL.of mv) (wK (by rw [dg,aW];lia)) λ q3 hq3=>?_;have a3:=zf (o:=.lst (rv.drop ct ++ rv.take ct)) hq3;have sA:=(a1.trans a2).trans a3;have g3:upd (upd (upd H3 q1 (.lst (rv.drop ct))) q2 (.lst (rv.take ct))) q3 (.lst (rv.drop ct ++ rv.take ct)) q3=some (.lst (rv.drop ct ++ rv.take ct)):=mv;generalize upd (upd (upd H3 q1 (.lst (rv.drop ct))) q2 (.lst (rv.take ct))) q3 _=H4 at sA g3 ⊢;clear a1 a2 a3 hq1 hq2 hq3;have tr:∀ {H1 H2:Hp} {p:A5} {vs:Ao} {ds:List D},Reps H1 p vs ds->Same H1 H2->Reps H2 (λ _=>True) vs ds:=λ r s=>r.keep λ b o _ hb=>⟨trivial,s b o hb⟩;have b2:=tr ((rR.drop ct).append (rR.take ct)) sA;rw [<- List.map_drop,<- map_take,<- a7] at b2;have pm:=Zb rs' ct;generalize rs'.drop ct ++ rs'.take ct=rs3 at b2 pm;generalize rv.drop ct ++ rv.take ct=rv3 at b2 g3;have rL4:=tr rL sA;have hL4:=sA _ _ hL;have sK4:=sK.trans sA;clear sA hL rL hR rR lR;left;let M7_:St->Hp->Prop:=λ σ' H5=>∃ (R':Addr) (rv':Ao) (rs2:As),σ'=stK l c nu (some (.int mn)) none none none none (some (.ref L)) (some (.ref R')) (some (.ref E)) (some (.ref B)) v13 (some (.int ct))/\Same H4 H5/\H5 R'=some (.lst rv')/\Reps H5 (λ _=>True) rv' (rs2.map (wa a))/\rs2.Perm rs';refine cut M7_ ?_ ?_
 ·left;walk_at "f";exists zA (λ z=>?_) (λ z=>(iE3 q3 rv3 rs3 (iA5 rfl (Same.refl _) g3 b2 pm)));exists iE2 q3 _ (iA3 rfl (SqL.of g3) (λ q hq=>?_));have b3:=tr b2.reverse (zf (o:=.lst rv3.reverse) hq);rw [<- List.map_reverse] at b3;left;exact iE3 q _ _ (iA5 rfl (zf hq) mv b3 ((List.reverse_perm _).trans pm))
 intro σ' H5 m8;refine oE3 m8 λ R' rv' rs2 l9=>oA5 l9 λ m5 s5 hR5 rR5 pm2=>?_;ext;obtain ⟨mi,ro⟩:=I2.work pm2 (by lia) (by lia) (by lia);exists iE4 a.u _ _ _ ⟨(zaX T).mono,?_⟩;intro z dz hz hdz _;exact Wr hz hdz (s5 _ _ hL4) hR5 (tr rL4 s5) rR5 mi I2.bo ro λ H11 s11 r11=>⟨rfl,k _ _ _ _ ((sK4.trans s5).trans s11) r11 mi I2.bo ro⟩
def Told (H:Hp) (v:V) (r:Option Ao):Prop:=match r with
 | none=>v=.non
 | some xs=>∃ p,v=.ref p/\H p=some (.tup xs)
def Told.same {H H':Hp} {r:Option Ao} (h:Told H v r) (s:Same H H'):Told H' v r:=by
 cases r with
 | none=>exact h
 | some xs=>exact let ⟨p,e,hp⟩:=h;⟨p,e,s _ _ hp⟩
noncomputable def X5 (side:V) (p:Int) (t:Int) (b:Bool):Option Ao:=if b=true/\t % p=0 then some [.non,.int 0,side] else none
def QL (K:A0) (C:Addr):Sp:=λ vs H Q _=>∃ (y dx l1 l2 l3 fl:Addr) (p t:Int) (hs side:V) (b:Bool) (bs:Ao),vs=[.ref y,hs,.ref fl,.int t,side]/\H y=some (.ins C dx (sf l1 l2 p l3))/\1<=p /\
 SqL K H fl (.bl b :: bs)/\∀ v H',Same H H'->Told H' v (X5 side p t b)->Q v H'
theorem Qo (T:Txt K mg a):MCal P w K mg base a.o "choice" 1 ["self","heads","free","turn","side"] [] (QL K a.o):=T.ib.cal T.fO λ F=>by
 refine F.okx ZC ?_ ?_
 ·walk_at "i"
 walk_at "k";refine oE8 h λ y dx l1 l2 l3 fl p t l9=>oE4 l9 λ hs side b bs m5=>oA5 m5 λ mh hy p1 hf k=>?_;clear l9 m5 h;subst mh;unfold X5 at k;walk_at "T";refine ⟨_,(zh (zx (PW.pt (pw_or (qY (zK (zt (pq 2) zd) (λ _=>rfl))) (pw_or1 (zl (Zf hr.units1) (zw qa (pq 3) (zk (pq 0) rfl)) zd (zn _)))))  (zc (zj zz))  zm)  (zc (zj (ji (za zz (za zd (za (pq 4) zb))))))),?_⟩;exists zq hf at0 ?_;left;cases b with
 | false =>
  rw [aq (by simp)] at k;left;exact k _ _ (Same.refl _) rfl
 | true =>
  exists ra hy T.fO T.fS zet ?_;exists zA (λ h=>?_) (λ h=>?_)
  ·rw [aq (λ z=>h z.2)] at k;left;exact k _ _ (Same.refl _) rfl
  ·rw [aA ⟨rfl,fe h⟩] at k;left;intro q hq;exact k _ _ (zf hq) ⟨q,rfl,mv⟩
noncomputable def zbb (side:V) (p:Int) (t:Int) (hd:V):Option Ao:=if p=0\/hd=.non\/t % p≠0 then none else some [.int 0,.non,side]
def JO (K:A0) (C:Addr):Sp:=λ vs H Q _=>∃ (y dx l1 l2 hl:Addr) (p t:Int) (fr side:V) (hd:V) (hs:Ao),vs=[.ref y,.ref hl,fr,.int t,side]/\H y=some (.ins C dx (df l1 l2 p))/\0<=p/\p<=4 /\
 SqL K H hl (hd :: hs)/\∀ v H',Same H H'->Told H' v (zbb side p t hd)->Q v H'
def Jp (T:Txt K mg a):MCal P w K mg base a.p "choice" 1 ["self","heads","free","turn","side"] [] (JO K a.p):=T.iC.cal T.fZ λ F=>by
 refine F.okx Qm ?_ ?_
 ·walk_at "i"
 walk_at "k";refine oE8 h λ y dx l1 l2 hl p t fr l9=>oE3 l9 λ side hd hs m5=>oA6 m5 λ mh hy p0 p4 hh k=>?_;clear l9 m5 h;subst mh;unfold zbb at k;walk_at "T";refine ⟨_,(zh (zx (zl (qA hr.units1) (zk (pq 0) rfl) zd (zn _))  (zc (zj zz))  zm)  (zh (zx (PW.pt (pw_or (zl qZ (zt (pq 1) zd) zz (zn _)) (pw_or1 (zl (Zf hr.units1) (zw qa (pq 3) (zk (pq 0) rfl)) zd (zn _)))))  (zc (zj zz))  zm)  (zc (zj (ji (za zd (za zz (za (pq 4) zb)))))))),?_⟩;exists ra hy T.fZ T.fR Wz ?_;exists zA (λ h1=>?_) (λ h1=>?_)
 ·rw [aA (.inl h1)] at k;left;exact k _ _ (Same.refl _) rfl
 ·exists zq hh at0 ?_;exists zA (λ h2=>?_) (λ h2=>?_)
  ·rw [aA (.inr (.inl h2))] at k;left;exact k _ _ (Same.refl _) rfl
  ·exists ra hy T.fZ T.fR Wz ?_;exists And.intro (by lia) ?_;refine zA (λ h3=>?_) (λ h3=>?_)
   ·rw [aA (.inr (.inr h3))] at k;left;exact k _ _ (Same.refl _) rfl
   ·rw [aq (λ z=>z.elim h1 λ z=>z.elim h2 h3)] at k;left;intro q hq;exact k _ _ (zf hq) ⟨q,rfl,mv⟩
noncomputable def zfm (n:Nat) (p:Option Nat):Option Ao:=p.map λ (p:Nat)=>[.int 0,.int p,.int ((p + 1) % n:Nat)]
def QM (K:A0) (C:Addr):Sp:=λ vs H Q _=>∃ (y dx l1 l2 hl fl:Addr) (turn:V) (side:Nat) (hd:V) (hs outs:Ao) (bs:Ah),vs=[.ref y,.ref hl,.ref fl,turn,.int side]/\H y=some (.ins C dx (kf l1 l2))/\H l2=some (.lst outs) /\
 SqL K H hl (hd :: hs)/\SqL K H fl (bs.map V.bl)/\bs.length=outs.length/\bs.length<=1000 /\
 ∀ v H',Same H H'->Told H' v (if hd=.non then none else zfm bs.length (jr bs side))->Q v H'
theorem Qq (T:Txt K mg a):MCal P w K mg base a.q "choice" 3 ["self","heads","free","turn","side"] [] (QM K a.q):=T.ie.cal T.gb λ F=>by
 refine F.okx ZE ?_ ?_
 ·walk_at "i"
 walk_at "k";refine oE8 h λ y dx l1 l2 hl fl turn side l9=>oE4 l9 λ hd hs outs bs m5=>oA8 m5 λ mh hy h2 hh hf hbl hb k=>?_;clear l9 m5 h;subst mh;walk_at "T";refine ⟨_,(zh (zo 5 ZE.nd ‹(zt (pq 1) zd) (za (pq 2) (za (pq 4) zb))›)  (zh (zx (zl qZ (pq 5) zz (zn _))  (zc (zj zz))  zm)  (zc (zj (ji (za zd (za (pq 5) (za (zw qa (zw zP (pq 5) zd) (zy zN zJ (za (zk (pq 0) rfl) zb))) zb)))))))),?_⟩;exists iE3 _ _ _ ⟨xH T,zq hh at0 (iE4 hd fl bs side (iA4 rfl hf hb ?_))⟩;by_cases hn:hd=.non
 ·rw [aA hn] at k ⊢;left;exact k _ _ (Same.refl _) rfl
 ·rw [aq hn] at k ⊢;cases hp:jr bs side with
  | none =>
   rw [hp] at k;simp only [w6];left;exact k _ _ (Same.refl _) rfl
  | some p =>
   rw [hp] at k;simp only [w6];have hlt:=xF hp;exists ra hy T.gb T.fX zeY ⟨_,.inl ⟨_,SqL.of h2,rfl⟩,?_⟩;left;rw [<- hbl];refine And.intro (by lia) ?_;left;intro q hq;have e:((p:Int) + 1) % (bs.length:Int)=(((p + 1) % bs.length:Nat):Int):=by push_cast;rfl
   rw [e];exact k _ _ (zf hq) ⟨q,rfl,mv⟩
noncomputable def zdZ (side:V) (p:Option Nat):Option Ao:=p.map λ (p:Nat)=>[.int 0,.int p,side]
def JN (K:A0):Sp:=λ vs H Q _=>∃ (y hl fl:Addr) (turn side:V) (hd:V) (hs:Ao) (bs:Ah),vs=[.ref y,.ref hl,.ref fl,turn,side] /\
 SqL K H hl (hd :: hs)/\SqL K H fl (bs.map V.bl)/\bs.length<=1000/\∀ v H',Same H H'->Told H' v (if hd=.non then none else zdZ side (jr bs 0))->Q v H'
theorem wz (T:Txt K mg a):MCal P w K mg base a.r "choice" 3 ["self","heads","free","turn","side"] [] (JN K):=T.gu.cal T.fP λ F=>by
 refine F.okx wc ?_ ?_
 ·walk_at "i"
 walk_at "k";refine oE8 h λ y hl fl turn side hd hs bs l9=>oA5 l9 λ m5 hh hf hb k=>?_;clear l9 h;subst m5;walk_at "T";refine ⟨_,(zh (zo 5 wc.nd ‹(zt (pq 1) zd) (za (pq 2) (za zd zb))›)  (zh (zx (zl qZ (pq 5) zz (zn _))  (zc (zj zz))  zm)  (zc (zj (ji (za zd (za (pq 5) (za (pq 4) zb)))))))),?_⟩;exists iE3 _ _ _ ⟨xH T,zq hh at0 (iE4 hd fl bs 0 (iA4 rfl hf hb ?_))⟩;by_cases hn:hd=.non
 ·rw [aA hn] at k ⊢;left;exact k _ _ (Same.refl _) rfl
 ·rw [aq hn] at k ⊢;cases hp:jr bs 0 with
  | none =>
   rw [hp] at k;simp only [w6];left;exact k _ _ (Same.refl _) rfl
  | some p =>
   rw [hp] at k;simp only [w6];left;intro q hq;exact k _ _ (zf hq) ⟨q,rfl,mv⟩
def zeo (C:Addr):Sp:=λ vs H Q _=>∃ (y dx l1 l2:Addr) (n j:Int),vs=[.ref y,.int j]/\H y=some (.ins C dx (vf l1 l2 n))/\Q (.int (if j=n then 0 else 1)) H
def Xc (T:Txt K mg a):MCal P w K mg base a.s "place_for" 1 ["self","kind"] [] (zeo a.s):=T.gP.cal T.fW λ F=>by
 refine F.okx vD ?_ ?_
 ·walk_at "i"
 walk_at "k";refine oE6 h λ y dx l1 l2 n j l9=>oA3 l9 λ m5 hy k=>?_;clear l9 h;subst m5;walk_at "T";refine ⟨_,(zc (zj (xC (zl (qA hr.units1) (pq 1) (zk (pq 0) rfl) (zn _)) zd zd))),?_⟩;exists ra hy T.fW T.gw zei ?_;exists zA (λ h=>?_) (λ h=>?_)
 ·rw [aA h] at k;left;exact k
 ·rw [aq h] at k;left;exact k
noncomputable def zam (side:V) (n:Int) (bs:Ah) (hd:V):Option Ao:=if hd=.non then none else if bs.getD (if hd=.int n then 0 else 1) false=true then some [.int 0,.int (if hd=.int n then 0 else 1),side] else none
def JM (K:A0) (C:Addr):Sp:=λ vs H Q _=>∃ (y dx l1 l2 hl fl:Addr) (n:Int) (turn side:V) (hd:V) (hs:Ao) (bs:Ah),vs=[.ref y,.ref hl,.ref fl,turn,side]/\H y=some (.ins C dx (vf l1 l2 n)) /\
 SqL K H hl (hd :: hs)/\(hd=.non\/∃ j,hd=.int j)/\SqL K H fl (bs.map V.bl)/\bs.length=2/\∀ v H',Same H H'->Told H' v (zam side n bs hd)->Q v H'
theorem Jn (T:Txt K mg a):MCal P w K mg base a.s "choice" 2 ["self","heads","free","turn","side"] [] (JM K a.s):=T.iE.cal T.fW λ F=>by
 refine F.okx Qk ?_ ?_
 ·walk_at "i"
 walk_at "k";refine oE8 h λ y dx l1 l2 hl fl n turn l9=>oE4 l9 λ side hd hs bs m5=>oA7 m5 λ mh hy hh hhd hf hb k=>?_;clear l9 m5 h;subst mh;walk_at "T";refine ⟨_,(zh (zx (zl qZ (zt (pq 1) zd) zz (zn _))  (zc (zj zz))  zm)  (zh (zo 5 Qk.nd (zdm ⟨rfl,rfl,rfl⟩ hr (pq 0) (za (zt (pq 1) zd) zb)))  (zh (zx (qY (zK (zt (pq 2) (pq 5)) (λ _=>rfl)))  (zc (zj zz))  zm)  (zc (zj (ji (za zd (za (pq 5) (za (pq 4) zb))))))))),?_⟩;exists zq hh at0 ?_;rcases hhd with rfl|⟨j,rfl⟩
 ·left;exact k _ _ (Same.refl _) rfl
 ·exists iE7 y a.s dx _ _ _ _ (iA5 rfl hy (zgA (by symm) (by symm) (by symm)) (Xc T) (zq hh at0 (iE6 y dx l1 l2 n j (iA3 rfl hy ?_))));left;obtain ⟨pp,hpp,hp2⟩:∃ pp:Nat,(if j=n then (0:Int) else 1)=pp/\pp < 2:=by split;exact ⟨0,rfl,by decide⟩;exact ⟨1,rfl,by decide⟩
  have e1:(if V.int j=V.int n then (0:Nat) else 1)=pp:=by
   by_cases h:j=n
   ·rw [aA h] at hpp;rw [aA (by rw [h])];lia
   ·rw [aq h] at hpp;rw [aq (λ z=>h (by cases z;rfl))];lia
  have e2:(if V.int j=V.int n then (0:Int) else 1)=pp:=by
   by_cases h:j=n
   ·rw [aA h] at hpp;rw [aA (by rw [h])];lia
   ·rw [aq h] at hpp;rw [aq (λ z=>h (by cases z;rfl))];lia
  rw [hpp];have hlt:pp < bs.length:=by lia
  refine zq hf (zL (by rw [au,ae hlt];rfl)) ?_;have eg:bs.getD pp false=bs[pp]:=by simp [hlt]
  unfold zam at k;rw [aq (by intro z;cases z),e1,e2,eg] at k;left;cases hbb:bs[pp] with
  | true =>
   rw [hbb,aA rfl] at k;left;intro q hq;exact k _ _ (zf hq) ⟨q,rfl,mv⟩
  | false =>
   rw [hbb,aq (by decide)] at k;left;exact k _ _ (Same.refl _) rfl
noncomputable def zfr (n:Nat) (p:Option Nat):Option Ao:=p.map λ (p:Nat)=>[.int p,.int 0,.int ((p + 1) % n:Nat)]
noncomputable def there (hs:Ao):List Bool:=hs.map λ h=>!decide (h=.non)
def QO (K:A0) (C:Addr):Sp:=λ vs H Q _=>∃ (y dx l1 l2 hl fl:Addr) (turn:V) (side:Nat) (hs ins:Ao) (b:Bool) (bs:Ao),vs=[.ref y,.ref hl,.ref fl,turn,.int side]/\H y=some (.ins C dx (kf l1 l2))/\H l1=some (.lst ins) /\
 SqL K H hl hs/\SqL K H fl (.bl b :: bs)/\hs.length=ins.length/\hs.length<=900/\∀ v H',Same H H'->Told H' v (if b=true then zfr hs.length (jr (there hs) side) else none)->Q v H'
theorem Qs (T:Txt K mg a):MCal P w K mg base a.t "choice" 2 ["self","heads","free","turn","side"] [] (QO K a.t):=T.ij.cal T.gc λ F=>by
 refine F.okx ZG ?_ ?_
 ·walk_at "i"
 walk_at "k";refine oE8 h λ y dx l1 l2 hl fl turn side l9=>oE4 l9 λ hs ins b bs m5=>oA8 m5 λ mh hy h1 hh hf hlen hb k=>?_;clear l9 m5 h;subst mh;walk_at "T";refine ⟨_,(zh (zx (qY (zK (zt (pq 2) zd) (λ _=>rfl)))  (zc (zj zz))  zm)  (zh (zo 5 ZG.nd ‹(xb (vars:=["head"]) (caps:=[]) (N:=["head"]) (ON:=["self","heads","free","turn","side","place"]) (osc:=ze qU) rfl rfl (by right) rfl rfl (zX (pq 1)) (λ _ _ _ _=>(qd 0 (show (["head"]:A8).Nodup from by symm))) (λ _ _ _ _=>z6) (λ _ _ _ _=>(wQ op_notN (pq 0) zz (zn _)))) (za (pq 4) zb)›)  (zh (zx (zl qZ (pq 5) zz (zn _))  (zc (zj zz))  zm)  (zc (zj (ji (za (pq 5) (za zd (za (zw qa (zw zP (pq 5) zd) (zy zN zJ (za (zk (pq 0) rfl) zb))) zb))))))))),?_⟩;exists zq hf at0 ?_;left;cases b with
 | false =>
  rw [aq (by decide)] at k;left;exact k _ _ (Same.refl _) rfl
 | true =>
  rw [aA rfl] at k;exists iE3 _ _ _ ⟨vt T,?_⟩;walk_at "d";exists ⟨hl,rfl,.inl ⟨⟨_,hh⟩,λ _ _ _ _ mf hacc=>?_⟩⟩;refine qt (K:=K) (a:=hl) (xs:=hs) (λ i σ H'=>∃ (v:Ap),σ=[v]/\Same H H'/\H' mf=some (.lst ((there (hs.take i)).map V.bl))) ⟨_,iA3 rfl (zf hacc) mv⟩ (λ i σ H' _ ⟨_,_,s,_⟩=>s.seq hh) ?_ ?_
  ·intro i x σ H' hi m8;refine oE1 m8 λ v l9=>oA3 l9 λ m5 s ha=>?_;ext;exists ⟨_,iA3 ha ?_ ⟨_,iA3 rfl ?_ ?_⟩⟩
   ·simp only [there,ah,aW];exact zi (by lia)
   ·intro b o hb;rw [mw (my hb hacc)];exact s b o hb
   ·rw [mv,fu,hi];simp [there]
  ·intro σ H' m8;refine oE1 m8 λ v l9=>oA3 l9 λ m5 s ha=>?_;ext;rw [aV] at ha;refine iE3 mf (there hs) side (iA4 rfl (SqL.of ha) (by simp [there];lia) ?_);have hlt:(there hs).length=hs.length:=by simp [there]
   cases hp:jr (there hs) side with
   | none =>
    rw [hp] at k;simp only [w6];left;exact k _ _ s rfl
   | some p =>
    rw [hp] at k;simp only [w6];have hlt':=xF hp;exists ra (s _ _ hy) T.gc T.gd zf9 ⟨_,.inl ⟨_,SqL.of (s _ _ h1),rfl⟩,?_⟩;left;rw [<- hlen];refine And.intro (by lia) ?_;left;intro q hq;have e:((p:Int) + 1) % (hs.length:Int)=(((p + 1) % hs.length:Nat):Int):=by push_cast;rfl
    rw [e];exact k _ _ (s.trans (zf hq)) ⟨q,rfl,mv⟩
def MCal.imp {m:Str} {dvs:Ao} {sp sp':Sp} (c:MCal P w K mg base C m k ps dvs sp) (h:∀ vs H Q E,sp' vs H Q E->sp vs H Q E):MCal P w K mg base C m k ps dvs sp' :=
 let ⟨f,fd,ds,x,y⟩:=c.ex;⟨c.cl,f,fd,ds,x.imp h,y⟩
def Wv {k:Str} {ks:A8} (n:fs.map (·.1)=k :: ks):∃ v gs,fs=(k,v) :: gs/\gs.map (·.1)=ks:=by
 cases fs with
 | nil=>cases n
 | cons x gs =>
  obtain ⟨k',v⟩:=x;injection n with n1 n2
  exact iE2 v gs ⟨by rw [<- n1],n2⟩
def zgj (n:fs.map (·.1)=[]):fs=[]:=List.map_eq_nil_iff.mp n
def fs2 {k1 k2:Str} {d1 d2:D} (n:fs.map (·.1)=[k1,k2]) (g:∀ (i:Nat) f g,fs[i]?=some f->[(k1,d1),(k2,d2)][i]?=some g->Rep H p f.2 g.2):∃ v1 v2,fs=[(k1,v1),(k2,v2)]/\Rep H p v1 d1/\Rep H p v2 d2:=by
 obtain ⟨v1,f1,rfl,n1⟩:=Wv n;obtain ⟨v2,f2,rfl,n2⟩:=Wv n1;obtain rfl:=zgj n2;exact ⟨v1,v2,rfl,g 0 _ _ rfl rfl,g 1 _ _ rfl rfl⟩
section
variable {H:Hp} {p:A5} {y:Addr} {ins outs kinds:A6} {pace:Int}
def KnP.parter (h:KnP a H p (.ref y) ⟨.parter,ins,outs,pace,kinds⟩):∃ dx l1 l2,H y=some (.ins a.q dx (kf l1 l2))/\H l2=some (.lst (iv outs)):=by
 cases h with|ob _ hy n g =>
  refine oE2 (fs2 n g) λ v1 v2 l9=>oA3 l9 λ m5 r1 r2=>?_;clear l9;subst m5;refine oE1 r1.ints' λ l1 l9=>oA3 l9 λ m5 _ _=>?_;clear l9;subst m5;refine oE1 r2.ints' λ l2 l9=>oA3 l9 λ m5 _ h2=>?_;clear l9;subst m5;exact iE3 _ l1 l2 ⟨by rw [Jt];exact hy,h2⟩
end
def fs3 {k1 k2 k3:Str} {d1 d2 d3:D} (n:fs.map (·.1)=[k1,k2,k3]) (g:∀ (i:Nat) f g,fs[i]?=some f->[(k1,d1),(k2,d2),(k3,d3)][i]?=some g->Rep H p f.2 g.2):∃ v1 v2 v3,fs=[(k1,v1),(k2,v2),(k3,v3)]/\Rep H p v1 d1/\Rep H p v2 d2/\Rep H p v3 d3:=by
 obtain ⟨v1,f1,rfl,n1⟩:=Wv n;obtain ⟨v2,f2,rfl,n2⟩:=Wv n1;obtain ⟨v3,f3,rfl,n3⟩:=Wv n2;obtain rfl:=zgj n3;exact ⟨v1,v2,v3,rfl,g 0 _ _ rfl rfl,g 1 _ _ rfl rfl,g 2 _ _ rfl rfl⟩
def fs4 {k1 k2 k3 k4:Str} {d1 d2 d3 d4:D} (n:fs.map (·.1)=[k1,k2,k3,k4]) (g:∀ (i:Nat) f g,fs[i]?=some f->[(k1,d1),(k2,d2),(k3,d3),(k4,d4)][i]?=some g->Rep H p f.2 g.2):∃ v1 v2 v3 v4,fs=[(k1,v1),(k2,v2),(k3,v3),(k4,v4)]/\Rep H p v1 d1/\Rep H p v2 d2/\Rep H p v3 d3/\Rep H p v4 d4:=by
 obtain ⟨v1,f1,rfl,n1⟩:=Wv n;obtain ⟨v2,f2,rfl,n2⟩:=Wv n1;obtain ⟨v3,f3,rfl,n3⟩:=Wv n2;obtain ⟨v4,f4,rfl,n4⟩:=Wv n3;obtain rfl:=zgj n4;exact ⟨v1,v2,v3,v4,rfl,g 0 _ _ rfl rfl,g 1 _ _ rfl rfl,g 2 _ _ rfl rfl,g 3 _ _ rfl rfl⟩
section
variable {H:Hp} {p:A5} {y:Addr} {ins outs kinds:A6} {pace:Int}
def KnP.source (h:KnP a H p (.ref y) ⟨.source,ins,outs,pace,kinds⟩):∃ dx l1 l2 l3,H y=some (.ins a.o dx (sf l1 l2 pace l3)):=by
 cases h with|ob _ hy n g =>
  refine oE4 (fs4 n g) λ v1 v2 v3 v4 l9=>oA5 l9 λ m5 r1 r2 r3 r4=>?_;clear l9;subst m5;refine oE1 r1.ints' λ l1 l9=>oA3 l9 λ m5 _ _=>?_;clear l9;subst m5;refine oE1 r2.ints' λ l2 l9=>oA3 l9 λ m5 _ _=>?_;clear l9;subst m5;cases r3;refine oE1 r4.ints' λ l4 l9=>oA3 l9 λ m5 _ _=>?_;clear l9;subst m5;exact iE4 _ l1 l2 l4 (by rw [zfj];exact hy)
def KnP.drain (h:KnP a H p (.ref y) ⟨.drain,ins,outs,pace,kinds⟩):∃ dx l1 l2,H y=some (.ins a.p dx (df l1 l2 pace)):=by
 cases h with|ob _ hy n g =>
  refine oE3 (fs3 n g) λ v1 v2 v3 l9=>oA4 l9 λ m5 r1 r2 r3=>?_;clear l9;subst m5;refine oE1 r1.ints' λ l1 l9=>oA3 l9 λ m5 _ _=>?_;clear l9;subst m5;refine oE1 r2.ints' λ l2 l9=>oA3 l9 λ m5 _ _=>?_;clear l9;subst m5;cases r3;exact iE3 _ l1 l2 (by rw [zd2];exact hy)
def KnP.sieve {k:Int} (h:KnP a H p (.ref y) ⟨.sieve,ins,outs,pace,[k]⟩):∃ dx l1 l2,H y=some (.ins a.s dx (vf l1 l2 k)):=by
 cases h with|ob _ hy n g =>
  refine oE3 (fs3 n g) λ v1 v2 v3 l9=>oA4 l9 λ m5 r1 r2 r3=>?_;clear l9;subst m5;refine oE1 r1.ints' λ l1 l9=>oA3 l9 λ m5 _ _=>?_;clear l9;subst m5;refine oE1 r2.ints' λ l2 l9=>oA3 l9 λ m5 _ _=>?_;clear l9;subst m5;cases r3;exact iE3 _ l1 l2 (by rw [zff];exact hy)
def KnP.joiner (h:KnP a H p (.ref y) ⟨.joiner,ins,outs,pace,kinds⟩):∃ dx l1 l2,H y=some (.ins a.t dx (kf l1 l2))/\H l1=some (.lst (iv ins)):=by
 cases h with|ob _ hy n g =>
  refine oE2 (fs2 n g) λ v1 v2 l9=>oA3 l9 λ m5 r1 r2=>?_;clear l9;subst m5;refine oE1 r1.ints' λ l1 l9=>oA3 l9 λ m5 _ h1=>?_;clear l9;subst m5;refine oE1 r2.ints' λ l2 l9=>oA3 l9 λ m5 _ _=>?_;clear l9;subst m5;exact iE3 _ l1 l2 ⟨by rw [Jt];exact hy,h1⟩
end
noncomputable def hdV:Option Int->V
 | none=>.non
 | some k=>.int k
noncomputable def qD (r:Row) (hs:List A9) (bs:Ah) (t:Int) (side:Nat):Option Aj:=match r.wd with
 | .source=>if bs.getD 0 false=true/\t % r.pace=0 then some (none,some 0,side) else none
 | .drain=>if r.pace=0\/hs.getD 0 none=none\/t % r.pace≠0 then none else some (some 0,none,side)
 | .parter=>if hs.getD 0 none=none then none else (jr bs side).map λ p=>(some 0,some p,(p + 1) % bs.length)
 | .first=>if hs.getD 0 none=none then none else (jr bs 0).map λ p=>(some 0,some p,side)
 | .sieve=>if hs.getD 0 none=none then none else if bs.getD (if hs.getD 0 none=some (r.kinds.headD 0) then 0 else 1) false=true then some (some 0,some (if hs.getD 0 none=some (r.kinds.headD 0) then 0 else 1),side) else none
 | .joiner=>if bs.getD 0 false=true then (jr (hs.map Option.isSome) side).map λ p=>(some p,some 0,(p + 1) % hs.length) else none
noncomputable def chV (x:Aj):List V:=[w6 x.1,w6 x.2.1,.int (x.2.2:Nat)]
def zc9 (K:A0) (a:Ad) (wd:Wd):Sp:=λ vs H Q _=>∃ (y hl fl:Addr) (r:Row) (p:A5) (hs:List A9) (bs:Ah) (t:Int) (side:Nat),vs=[.ref y,.ref hl,.ref fl,.int t,.int side]/\KnP a H p (.ref y) r/\r.wd=wd/\r.ok /\
 H hl=some (.lst (hs.map hdV))/\H fl=some (.lst (bs.map V.bl))/\hs.length=r.ins.length/\bs.length=r.outs.length/\∀ v H',Same H H'->Told H' v ((qD r hs bs t side).map chV)->Q v H'
def QF {x:A9}:(hdV x=.non)=(x=none):=by
 cases x <;> simp [hdV]
def zcX (hs:List A9):there (hs.map hdV)=hs.map Option.isSome:=by
 simp only [there,dC]
 congr 1
 funext x
 cases x <;> simp [hdV]
def zdA (T:Txt K mg a) (wd:Wd):MCal P w K mg base (xf a wd) "choice" 3 ["self","heads","free","turn","side"] [] (zc9 K a wd):=by
 cases wd with
 | source =>
  refine MCal.imp (Qo T).mono λ vs H Q E h=>?_;refine oE5 h λ y hl fl l9 p m5=>oE4 m5 λ hs bs t side mh=>oA9 mh λ mq hK hw ok hh hf l1 l2 k=>?_;clear m5 mh h;obtain ⟨wd,ins,outs,pace,kinds⟩:=l9;subst mq;simp only at hw;subst hw;refine oE4 hK.source λ dx m1 m2 m3 hy=>?_;refine oA4 ok λ _ l9 p1 _=>?_;clear ok;obtain ⟨o,eo⟩:=l9;simp only at eo p1 l2;subst eo
  match bs,l2 with
  | [b],_ =>
   refine iE8 y dx m1 m2 m3 fl pace t (iE4 _ _ b ([]) (iA5 rfl hy p1 (SqL.of hf) (λ v H' s ht=>k v H' s ?_)));unfold X5 at ht;simp only [qD];by_cases hc:b=true/\t % pace=0
   ·rw [aA hc] at ht;rw [aA (by simpa using hc)];exact ht
   ·rw [aq hc] at ht;rw [aq (by simpa using hc)];exact ht
 | drain =>
  refine MCal.imp (Jp T).mono λ vs H Q E h=>?_;refine oE5 h λ y hl fl l9 p m5=>oE4 m5 λ hs bs t side mh=>oA9 mh λ mq hK hw ok hh hf l1 l2 k=>?_;clear m5 mh h;obtain ⟨wd,ins,outs,pace,kinds⟩:=l9;subst mq;simp only at hw;subst hw;refine oE3 hK.drain λ dx m1 m2 hy=>?_;refine oA4 ok λ l9 _ p1 p4=>?_;clear ok;obtain ⟨o,eo⟩:=l9;simp only at eo p1 p4 l1;subst eo
  match hs,l1 with
  | [hd],_ =>
   refine iE8 y dx m1 m2 hl pace t _ (iE3 _ (hdV hd) ([]) (iA6 rfl hy p1 p4 (SqL.of hh) (λ v H' s ht=>k v H' s ?_)));unfold zbb at ht;simp only [QF] at ht;simp only [qD];by_cases hc:pace=0\/hd=none\/t % pace≠0
   ·rw [aA hc] at ht;rw [aA (by simpa using hc)];exact ht
   ·rw [aq hc] at ht;rw [aq (by simpa using hc)];exact ht
 | parter =>
  refine MCal.imp (Qq T).mono λ vs H Q E h=>?_;refine oE5 h λ y hl fl l9 p m5=>oE4 m5 λ hs bs t side mh=>oA9 mh λ mq hK hw ok hh hf l1 l2 k=>?_;clear m5 mh h;obtain ⟨wd,ins,outs,pace,kinds⟩:=l9;subst mq;simp only at hw;subst hw;refine oE3 hK.parter λ dx m1 m2 l9=>oA2 l9 λ hy h2=>?_;clear l9;obtain ⟨⟨o,eo⟩,q1,q2⟩:=ok;simp only at eo l1 l2 q1 q2;subst eo
  match hs,l1 with
  | [hd],_ =>
   refine iE8 y dx m1 m2 hl fl _ side (iE4 (hdV hd) ([]) (iv outs) bs (iA8 rfl hy h2 (SqL.of hh) (SqL.of hf) (by rw [zu];exact l2) (by lia) (λ v H' s ht=>k v H' s ?_)));simp only [QF] at ht;simp only [qD];by_cases hc:hd=none
   ·rw [aA hc] at ht;rw [aA (by simpa using hc)];exact ht
   ·rw [aq hc] at ht;rw [aq (by simpa using hc)];unfold zfm at ht;rw [eu];exact ht
 | first =>
  refine MCal.imp (wz T).mono λ vs H Q E h=>?_;refine oE5 h λ y hl fl l9 p m5=>oE4 m5 λ hs bs t side mh=>oA9 mh λ mq hK hw ok hh hf l1 l2 k=>?_;clear m5 mh h;obtain ⟨wd,ins,outs,pace,kinds⟩:=l9;subst mq;simp only at hw;subst hw;obtain ⟨⟨o,eo⟩,q1,q2⟩:=ok;simp only at eo l1 l2 q1 q2;subst eo
  match hs,l1 with
  | [hd],_ =>
   refine iE8 y hl fl _ _ (hdV hd) ([]) bs (iA5 rfl (SqL.of hh) (SqL.of hf) (by lia) (λ v H' s ht=>k v H' s ?_));simp only [QF] at ht;simp only [qD];by_cases hc:hd=none
   ·rw [aA hc] at ht;rw [aA (by simpa using hc)];exact ht
   ·rw [aq hc] at ht;rw [aq (by simpa using hc)];unfold zdZ at ht;rw [eu];exact ht
 | sieve =>
  refine MCal.imp (Jn T).mono λ vs H Q E h=>?_;refine oE5 h λ y hl fl l9 p m5=>oE4 m5 λ hs bs t side mh=>oA9 mh λ mq hK hw ok hh hf l1 l2 k=>?_;clear m5 mh h;obtain ⟨wd,ins,outs,pace,kinds⟩:=l9;subst mq;simp only at hw;subst hw;refine oA3 ok λ l9 q1 m5=>oE1 m5 λ kk mh=>oA2 mh λ q2 _=>?_;clear m5 mh ok;obtain ⟨o,eo⟩:=l9;simp only at eo l1 l2 q1 q2;subst eo q2;refine oE3 hK.sieve λ dx m1 m2 hy=>?_
  match hs,l1 with
  | [hd],_ =>
   refine iE8 y dx m1 m2 hl fl kk _ (iE4 _ (hdV hd) ([]) bs (iA7 rfl hy (SqL.of hh) (by cases hd;exact .inl rfl;exact .inr ⟨_,rfl⟩) (SqL.of hf) (by lia) (λ v H' s ht=>k v H' s ?_)));unfold zam at ht;simp only [QF] at ht;simp only [qD];by_cases hc:hd=none
   ·rw [aA hc] at ht;rw [aA (by simpa using hc)];exact ht
   ·rw [aq hc] at ht;rw [aq (by simpa using hc)];have e:(hdV hd=.int kk)=([hd].getD 0 none=some (List.headD [kk] 0)):=by
     cases hd with
     | none=>exact absurd rfl hc
     | some x=>simp [hdV]
    have e1:(if hdV hd=V.int kk then (0:Nat) else 1)=(if [hd].getD 0 none=some (List.headD [kk] 0) then 0 else 1):=by simp only [e]
    have e2:(if hdV hd=V.int kk then (0:Int) else 1)=((if [hd].getD 0 none=some (List.headD [kk] 0) then 0 else 1:Nat):Int):=by simp only [e];split <;> rfl
    rw [e1,e2] at ht;generalize (if [hd].getD 0 none=some (List.headD [kk] 0) then 0 else 1)=q at ht ⊢;by_cases hb:bs.getD q false=true
    ·rw [aA hb] at ht ⊢;exact ht
    ·rw [aq hb] at ht ⊢;exact ht
 | joiner =>
  refine MCal.imp (Qs T).mono λ vs H Q E h=>?_;refine oE5 h λ y hl fl l9 p m5=>oE4 m5 λ hs bs t side mh=>oA9 mh λ mq hK hw ok hh hf l1 l2 k=>?_;clear m5 mh h;obtain ⟨wd,ins,outs,pace,kinds⟩:=l9;subst mq;simp only at hw;subst hw;obtain ⟨⟨o,eo⟩,q1,q2⟩:=ok;simp only at eo l1 l2 q1 q2;subst eo;refine oE3 hK.joiner λ dx m1 m2 l9=>oA2 l9 λ hy h1=>?_;clear l9
  match bs,l2 with
  | [b],_ =>
   refine iE8 y dx m1 m2 hl fl _ side (iE4 (hs.map hdV) (iv ins) b ([]) (iA8 rfl hy h1 (SqL.of hh) (SqL.of hf) (by rw [ah,zu];exact l1) (by rw [ah];lia) (λ v H' s ht=>k v H' s ?_)));rw [zcX,ah] at ht;simp only [qD];by_cases hc:b=true
   ·rw [aA hc] at ht;rw [aA (by simpa using hc)];unfold zfr at ht;rw [eu];exact ht
   ·rw [aq hc] at ht;rw [aq (by simpa using hc)];exact ht
abbrev z8:=Option (Int × Int)
abbrev Au:=List z8
abbrev At:=List Au
noncomputable def qg:z8->D
 | none=>.non
 | some (s,n)=>.tup [.int s,.int n]
def zcv (x:z8):Hard (qg x):=by
 cases x with
 | none=>exact .non
 | some x =>
  refine .tup λ i d h=>?_;have:d∈[D.int x.1,D.int x.2]:=ai h;simp at this;rcases this with rfl|rfl <;> exact .int
structure PSt where
 turn:Int
 cells:List Au
 sides:List Int
 gone:List A6
noncomputable abbrev z7 (cs:At):List (List D):=cs.map λ c=>c.map qg
noncomputable abbrev jo (gs:List A6):List (List D):=gs.map λ g=>g.map D.int
noncomputable def stF (st:PSt):List (Str × D):=[("turn",.int st.turn),("cells",.lst ((z7 st.cells).map D.lst)),("sides",.ints st.sides),("gone",.lst ((jo st.gone).map D.lst))]
noncomputable def xY (a:Ad) (st:PSt):D:=.ob a.l (stF st)
def WP (st:PSt):(stF st).lookup ("turn":Str)=some (.int st.turn):=qK
def Xn (st:PSt):(stF st).lookup ("cells":Str)=some (.lst ((z7 st.cells).map D.lst)):=(zH (by symm)).trans qK
def Xm (st:PSt):(stF st).lookup ("sides":Str)=some (.ints st.sides):=(zH (by symm)).trans ((zH (by symm)).trans qK)
def WQ (st:PSt):(stF st).lookup ("gone":Str)=some (.lst ((jo st.gone).map D.lst)):=(zH (by symm)).trans ((zH (by symm)).trans ((zH (by symm)).trans qK))
noncomputable def sff (t:Int) (lc ls lg:Addr):List (Str × V):=[(("turn":Str),V.int t),(("cells":Str),V.ref lc),(("sides":Str),V.ref ls),(("gone":Str),V.ref lg)]
theorem zhf {t:Int}:z5 "turn" (.int t) []=([(("turn":Str),V.int t)]:Aq):=rfl
def zhe {t:Int} {lc:Addr}:z5 "cells" (.ref lc) [(("turn":Str),V.int t)]=([(("turn":Str),V.int t),(("cells":Str),V.ref lc)]:Aq):=by
 simp only [z5];rw [aq (by symm)]
def zhd {t:Int} {lc ls:Addr}:z5 "sides" (.ref ls) [(("turn":Str),V.int t),(("cells":Str),V.ref lc)]=([(("turn":Str),V.int t),(("cells":Str),V.ref lc),(("sides":Str),V.ref ls)]:Aq):=by
 simp only [z5];rw [aq (by symm),aq (by symm)]
def zhc {t:Int} {lc ls lg:Addr}:z5 "gone" (.ref lg) [(("turn":Str),V.int t),(("cells":Str),V.ref lc),(("sides":Str),V.ref ls)]=sff t lc ls lg:=by
 unfold sff;simp only [z5];rw [aq (by symm),aq (by symm),aq (by symm)]
structure SN where
 dx:Addr
 lc:Addr
 ls:Addr
 lg:Addr
 acs:List Addr
 ags:List Addr
noncomputable def SN.all (n:SN):List Addr:=n.ls :: n.lc :: n.lg :: (n.acs ++ n.ags)
structure StO (a:Ad) (H:Hp) (y:Addr) (n:SN) (st:PSt):Prop where
 hy:H y=some (.ins a.l n.dx (sff st.turn n.lc n.ls n.lg))
 hc:NL H (zT H) n.lc n.acs (z7 st.cells)
 hs:H n.ls=some (.lst (iv st.sides))
 hg:NL H (zT H) n.lg n.ags (jo st.gone)
 nd:n.all.Nodup
def StO.rep {y:Addr} {n:SN} {st:PSt} (h:StO a H y n st):Rep H (Off []) (.ref y) (xY a st) :=
 xu (λ z=>nomatch z) h.hy rfl (.cons .int (.cons h.hc.rep (.cons (zY (λ z=>nomatch z) h.hs) (.cons h.hg.rep .nil))))
def StO.same {H H':Hp} {y:Addr} {n:SN} {st:PSt} (h:StO a H y n st) (s:Same H H'):StO a H' y n st :=
 ⟨s _ _ h.hy,h.hc.keep (λ b o _ hb=>s b o hb) (λ b ⟨xs,hx⟩ _=>⟨xs,s _ _ hx⟩),s _ _ h.hs,h.hg.keep (λ b o _ hb=>s b o hb) (λ b ⟨xs,hx⟩ _=>⟨xs,s _ _ hx⟩),h.nd⟩
def wg (a:Ad):Sp:=λ vs H Q _=>∃ (y dx:Addr) (vc vs' vg:V) (st:PSt) (p:A5),vs=[.ref y,.int st.turn,vc,vs',vg]/\H y=some (.ins a.l dx [])/\(∀ b,p b->b≠y) /\
 Rep H p vc (.lst ((z7 st.cells).map D.lst))/\Rep H p vs' (.ints st.sides)/\Rep H p vg (.lst ((jo st.gone).map D.lst))/\st.cells.length<=100/\st.gone.length<=100 /\
 ∀ H' n,n.dx=dx->Own H H' y->StO a H' y n st->(∀ b∈n.all,H b=none)->Q .non H'
def Vn {ds:List D} (h:Reps H p vs ds) (hd:∀ d∈ds,Hard d):Reps H (zT H) vs ds :=
 ⟨h.len,λ i v d e1 e2=>(h.g i v d e1 e2).hard (hd d (ai e2)) λ b xs _ hb=>⟨xs,hb⟩⟩
def za3 (c:Au):∀ d∈c.map qg,Hard d:=λ d hd=>by
 obtain ⟨x,_,rfl⟩:=aP.mp hd;exact zcv x
def zcw (c:A6):∀ d∈c.map D.int,Hard d:=λ d hd=>by
 obtain ⟨x,_,rfl⟩:=aP.mp hd;exact .int
def J0 (T:Txt K mg a) (F:Fun K "__init__" "State.__init__" qP f fd):FnOk P w K mg base (CXr P w) 1 f fd ["self","turn","cells","sides","gone"] (wg a):=by
 refine F.okx JX ?_ ?_
 ·walk_at "i"
 walk_at "j";refine oE7 h λ y dx vc vs' vg st p l9=>oA9 l9 λ m5 hy hp rc rs rg lc lg k=>?_;clear l9 h;subst m5;refine oE2 rc.lst' λ c0 ucs l9=>oA4 l9 λ m5 pc0 hc0 rcs=>?_;clear l9;subst m5;refine oE1 rs.ints' λ s0 l9=>oA3 l9 λ m5 ps0 hs0=>?_;clear l9;subst m5;have hs0:H s0=some (.lst (iv st.sides)):=hs0;refine oE2 rg.lst' λ g0 ugs l9=>oA4 l9 λ m5 pg0 hg0 rgs=>?_;clear l9;subst m5;have lcs:ucs.length=st.cells.length:=by rw [rcs.len,ah,ah]
 have lgs:ugs.length=st.gone.length:=by rw [rgs.len,ah,ah]
 walk_at "T";refine ⟨_,(zg (jh (pq 0) (pq 1) rfl)  (zg (jh (pq 0) (xb (vars:=["belt_cells"]) (caps:=[]) (N:=["belt_cells"]) (ON:=["self","turn","cells","sides","gone"]) (osc:=ze qP) rfl rfl (by right) rfl rfl (zX (pq 2)) (λ _ _ _ _=>(qd 0 (show (["belt_cells"]:A8).Nodup from by symm))) (λ _ _ _ _=>z6) (λ _ _ _ _=>(jz wW xq (za (pq 0) zb)))) rfl)  (zg (jh (pq 0) (jz wW xq (za (pq 3) zb)) rfl)  (zc (jh (pq 0) (xb (vars:=["counts"]) (caps:=[]) (N:=["counts"]) (ON:=["self","turn","cells","sides","gone"]) (osc:=ze qP) rfl rfl (by right) rfl rfl (zX (pq 4)) (λ _ _ _ _=>(qd 0 (show (["counts"]:A8).Nodup from by symm))) (λ _ _ _ _=>z6) (λ _ _ _ _=>(jz wW xq (za (pq 0) zb)))) rfl))))),?_⟩;exists iE4 y a.l dx ([]) (iA6 rfl hy T.ad T.fI (by decide) ?_);rw [zhf];have o1:Own H (upd H y (.ins a.l dx [(("turn":Str),V.int st.turn)])) y:=qV;have y1:upd H y (.ins a.l dx [(("turn":Str),V.int st.turn)]) y=some (.ins a.l dx [(("turn":Str),V.int st.turn)]):=mv;generalize upd H y (.ins a.l dx [(("turn":Str),V.int st.turn)])=H1 at o1 y1 ⊢;have kp:∀ b,zT H b->H b≠none->b≠y:=λ b ⟨xs,hx⟩ _ z=>by rw [z,hy] at hx;cases hx
 walk_at "d";exists ⟨c0,rfl,.inl ⟨⟨_,SqL.of (o1 _ _ (hp _ pc0) hc0)⟩,λ _ _ _ _ mf hacc=>?_⟩⟩;let mj:Nat->St->Hp->Prop:=λ i σ H'=>∃ (v0:Ap) (as:Ab),σ=[v0]/\Same H1 H'/\NL H' (zT H) mf as (z7 (st.cells.take i))/\∀ b∈as,H1 b=none;refine qt (K:=K) (a:=c0) (xs:=ucs) mj (iE2 _ ([]) (iA4 rfl (zf hacc) (by rw [cq];exact zdw mv) (by simp))) (λ i σ H' _ h=>by obtain ⟨_,_,_,s,_⟩:=h;exact SqL.of (s _ _ (o1 _ _ (hp _ pc0) hc0))) ?_ ?_
 ·intro i x σ H2 hi m8;refine oE2 m8 λ v0 as l9=>oA4 l9 λ m5 s2 nl fr=>?_;ext;obtain ⟨d,hd,rx⟩:=rcs.at hi;rw [au,au] at hd;obtain ⟨c,hc⟩:∃ c,st.cells[i]?=some c:=by
   cases e:st.cells[i]? with
   | none=>rw [e] at hd;cases hd
   | some c=>exact ⟨c,rfl⟩
  rw [hc] at hd;cases hd;refine oE2 (Rep.lst' rx) λ li vi l9=>oA4 l9 λ m5 pli hli ri=>?_;clear l9;subst m5;have hil:=(aa.mp hc).1;have hli2:=s2 _ _ (o1 _ _ (hp _ pli) hli);exists iE2 li _ (iA3 rfl (.inl (SqL.of hli2)) (λ b hb=>?_));have nb:b ∉ as:=λ z=>by
   obtain ⟨j,hj⟩:=bW z;obtain ⟨vs,h1,_⟩:=nl.g j b _ hj (ae (by rw [<- nl.len];exact (aa.mp hj).1));rw [h1] at hb;cases hb
  have nG:b≠mf:=λ z=>by rw [z,nl.out] at hb;cases hb
  have s3:Same H2 (upd H2 b (.lst vi)):=zf hb;have ac3:=mz (o:=.lst vi) nl.out hb;refine ⟨_,iA3 ac3 (zi (by rw [ah,nl.len,ah,aW];lia)) ?_⟩;have ri3:Reps (upd H2 b (.lst vi)) (zT H) vi (c.map qg):=(Vn ri (za3 c)).keep λ z o pz hz=>⟨pz,s3 _ _ (s2 _ _ (o1 _ _ (kp z pz (by rw [hz];intro q;cases q)) hz))⟩;have nl3:=(nl.same s3).push (b:=b) (vs:=vi) (ys:=c.map qg) mv nb nG (λ ⟨xs,hx⟩=>by
   have:=o1 _ _ (kp mf ⟨xs,hx⟩ (by rw [hx];intro q;cases q)) hx;rw [hacc] at this;cases this) ri3
  refine iE2 _ (as ++ [b]) (iA4 rfl ?_ ?_ ?_)
  ·exact λ z o hz=>by rw [mw (my hz hacc)];exact s3 _ _ (s2 _ _ hz)
  ·rw [aR,hc];rw [show z7 (st.cells.take i ++ (some c).toList)=z7 (st.cells.take i) ++ [c.map qg] by simp [z7]];exact nl3
  ·intro z hz;rcases aF.mp hz with hz|hz
   ·exact fr z hz
   ·rw [ay.mp hz];exact zM s2 hb
 intro σ H2 m8;refine oE2 m8 λ v0 acs l9=>oA4 l9 λ m5 s2 nlc frc=>?_;ext;rw [lcs,aV] at nlc;have y2:=s2 _ _ y1;exists iE4 y a.l dx _ (iA6 rfl y2 T.ad T.fH (by simp) ?_);rw [zhe];have nay:mf≠y:=λ z=>by rw [z,y1] at hacc;cases hacc
 have hx0:∀ {z:Addr},H1 z=none->z≠y/\H z=none:=λ {z} hz=>by
  have n1:z≠y:=λ q=>by rw [q,y1] at hz;cases hz
  refine ⟨n1,?_⟩;cases e:H z with
  | none=>rfl
  | some o=>rw [o1 z o n1 e] at hz;cases hz
 have o3:Own H (upd H2 y (.ins a.l dx [(("turn":Str),V.int st.turn),(("cells":Str),V.ref mf)])) y:=(o1.trans (Same.own s2)).trans qV;have y3:upd H2 y (.ins a.l dx [(("turn":Str),V.int st.turn),(("cells":Str),V.ref mf)]) y=some (.ins a.l dx [(("turn":Str),V.int st.turn),(("cells":Str),V.ref mf)]):=mv;have nl3:NL (upd H2 y (.ins a.l dx [(("turn":Str),V.int st.turn),(("cells":Str),V.ref mf)])) (zT H) mf acs (z7 st.cells):=nlc.keep (λ z o hz ho=>by
  refine (mw (λ q=>?_)).trans ho;rcases hz with h|h|h
  ·exact nay (h.symm.trans q)
  ·exact (hx0 (frc z h)).1 q
  ·obtain ⟨xs,hx⟩:=h;rw [q,hy] at hx;cases hx) λ _ hp _=>hp
 generalize upd H2 y (.ins a.l dx [(("turn":Str),V.int st.turn),(("cells":Str),V.ref mf)])=H3 at o3 y3 nl3 ⊢;exists iE2 s0 _ (iA3 rfl (.inl (SqL.of (o3 _ _ (hp _ ps0) hs0))) (λ ls hls=>?_));left;have y4:=mz (o:=.lst (iv st.sides)) y3 hls;refine iE4 y a.l dx _ (iA6 rfl y4 T.ad T.fN (by simp) ?_);rw [zhd];have nlsy:ls≠y:=λ z=>by rw [z,y3] at hls;cases hls
 have hls0:H ls=none:=by
  cases e:H ls with
  | none=>rfl
  | some o=>rw [o3 ls o nlsy e] at hls;cases hls
 have o5:Own H (upd (upd H3 ls (.lst (iv st.sides))) y (.ins a.l dx [(("turn":Str),V.int st.turn),(("cells":Str),V.ref mf),(("sides":Str),V.ref ls)])) y:=(o3.trans (Same.own (zf hls))).trans qV;have y5:upd (upd H3 ls (.lst (iv st.sides))) y (.ins a.l dx [(("turn":Str),V.int st.turn),(("cells":Str),V.ref mf),(("sides":Str),V.ref ls)]) y=some (.ins a.l dx [(("turn":Str),V.int st.turn),(("cells":Str),V.ref mf),(("sides":Str),V.ref ls)]):=mv;have nl5:NL (upd (upd H3 ls (.lst (iv st.sides))) y (.ins a.l dx [(("turn":Str),V.int st.turn),(("cells":Str),V.ref mf),(("sides":Str),V.ref ls)])) (zT H) mf acs (z7 st.cells):=nl3.keep (λ z o hz ho=>by
  refine (mw (λ q=>?_)).trans (mz ho hls);rcases hz with h|h|h
  ·exact nay (h.symm.trans q)
  ·exact (hx0 (frc z h)).1 q
  ·obtain ⟨xs,hx⟩:=h;rw [q,hy] at hx;cases hx) λ _ hp _=>hp
 have ls5:upd (upd H3 ls (.lst (iv st.sides))) y (.ins a.l dx [(("turn":Str),V.int st.turn),(("cells":Str),V.ref mf),(("sides":Str),V.ref ls)]) ls=some (.lst (iv st.sides)):=by rw [mw nlsy];exact mv
 have nlsa:ls ∉ mf :: acs:=λ z=>by
  rcases az.mp z with h|h
  ·rw [h,nl3.out] at hls;cases hls
  ·obtain ⟨j,hj⟩:=bW h;obtain ⟨vs,h1,_⟩:=nl3.g j ls _ hj (ae (by rw [<- nl3.len];exact (aa.mp hj).1));rw [h1] at hls;cases hls
 generalize upd (upd H3 ls (.lst (iv st.sides))) y (.ins a.l dx [(("turn":Str),V.int st.turn),(("cells":Str),V.ref mf),(("sides":Str),V.ref ls)])=H5 at o5 y5 nl5 ls5 ⊢;clear nl3 o3 y3 hls y4;walk_at "d";exists ⟨g0,rfl,.inl ⟨⟨_,SqL.of (o5 _ _ (hp _ pg0) hg0)⟩,λ _ _ _ _ ag hag=>?_⟩⟩;let ml:Nat->St->Hp->Prop:=λ i σ H'=>∃ (v0:Ap) (as:Ab),σ=[v0]/\Same H5 H'/\NL H' (zT H) ag as (jo (st.gone.take i))/\∀ b∈as,H5 b=none;refine qt (K:=K) (a:=g0) (xs:=ugs) ml (iE2 _ ([]) (iA4 rfl (zf hag) (by rw [cq];exact zdw mv) (by simp))) (λ i σ H' _ h=>by obtain ⟨_,_,_,s,_⟩:=h;exact SqL.of (s _ _ (o5 _ _ (hp _ pg0) hg0))) ?_ ?_
 ·intro i x σ H2 hi m8;refine oE2 m8 λ v0 as l9=>oA4 l9 λ m5 s2 nl fr=>?_;ext;obtain ⟨d,hd,rx⟩:=rgs.at hi;rw [au,au] at hd;obtain ⟨c,hc⟩:∃ c,st.gone[i]?=some c:=by
   cases e:st.gone[i]? with
   | none=>rw [e] at hd;cases hd
   | some c=>exact ⟨c,rfl⟩
  rw [hc] at hd;cases hd;refine oE2 (Rep.lst' rx) λ li vi l9=>oA4 l9 λ m5 pli hli ri=>?_;clear l9;subst m5;have hil:=(aa.mp hc).1;have hli2:=s2 _ _ (o5 _ _ (hp _ pli) hli);exists iE2 li _ (iA3 rfl (.inl (SqL.of hli2)) (λ b hb=>?_));have nb:b ∉ as:=λ z=>by
   obtain ⟨j,hj⟩:=bW z;obtain ⟨vs,h1,_⟩:=nl.g j b _ hj (ae (by rw [<- nl.len];exact (aa.mp hj).1));rw [h1] at hb;cases hb
  have nG:b≠ag:=λ z=>by rw [z,nl.out] at hb;cases hb
  have s3:Same H2 (upd H2 b (.lst vi)):=zf hb;have ac3:=mz (o:=.lst vi) nl.out hb;refine ⟨_,iA3 ac3 (zi (by rw [ah,nl.len,ah,aW];lia)) ?_⟩;have ri3:Reps (upd H2 b (.lst vi)) (zT H) vi (c.map D.int):=(Vn ri (zcw c)).keep λ z o pz hz=>⟨pz,s3 _ _ (s2 _ _ (o5 _ _ (kp z pz (by rw [hz];intro q;cases q)) hz))⟩;have nl3:=(nl.same s3).push (b:=b) (vs:=vi) (ys:=c.map D.int) mv nb nG (λ ⟨xs,hx⟩=>by
   have:=o5 _ _ (kp ag ⟨xs,hx⟩ (by rw [hx];intro q;cases q)) hx;rw [hag] at this;cases this) ri3
  refine iE2 _ (as ++ [b]) (iA4 rfl ?_ ?_ ?_)
  ·exact λ z o hz=>by rw [mw (my hz hag)];exact s3 _ _ (s2 _ _ hz)
  ·rw [aR,hc];rw [show jo (st.gone.take i ++ (some c).toList)=jo (st.gone.take i) ++ [c.map D.int] by simp [jo]];exact nl3
  ·intro z hz;rcases aF.mp hz with hz|hz
   ·exact fr z hz
   ·rw [ay.mp hz];exact zM s2 hb
 intro σ H6 m8;refine oE2 m8 λ v0' ags l9=>oA4 l9 λ m5 s6 nlg frg=>?_;ext;rw [lgs,aV] at nlg;have y6:=s6 _ _ y5;exists iE4 y a.l dx _ (iA6 rfl y6 T.ad T.fQ (by simp) ?_);rw [zhc];have hx5:∀ {z:Addr},H5 z=none->z≠y/\H z=none:=λ {z} hz=>by
  have n1:z≠y:=λ q=>by rw [q,y5] at hz;cases hz
  refine ⟨n1,?_⟩;cases e:H z with
  | none=>rfl
  | some o=>rw [o5 z o n1 e] at hz;cases hz
 have ngy:=(hx5 hag).1;have o7:Own H (upd H6 y (.ins a.l dx (sff st.turn mf ls ag))) y:=(o5.trans (Same.own s6)).trans qV;have tp:∀ b,zT H b->H b≠none->zT (upd H6 y (.ins a.l dx (sff st.turn mf ls ag))) b:=λ b ⟨xs,hx⟩ hn=>⟨xs,o7 _ _ (kp b ⟨xs,hx⟩ hn) hx⟩;have inA:∀ z,z∈mf :: acs->∃ o,H5 z=some o:=λ z hz=>by
  rcases az.mp hz with h|h
  ·exact ⟨_,h ▸ nl5.out⟩
  ·obtain ⟨j,hj⟩:=bW h;obtain ⟨vs,h1,_⟩:=nl5.g j z _ hj (ae (by rw [<- nl5.len];exact (aa.mp hj).1));exact ⟨_,h1⟩
 refine k _ ⟨dx,mf,ls,ag,acs,ags⟩ rfl o7 ⟨mv,?_,?_,?_,?_⟩ ?_
 ·exact (nl5.same s6).keep (λ z o hz ho=>by
   refine (mw (λ q=>?_)).trans ho;rcases hz with h|h|h
   ·exact nay (h.symm.trans q)
   ·exact (hx0 (frc z h)).1 q
   ·obtain ⟨xs,hx⟩:=h;rw [q,hy] at hx;cases hx) λ b hb hn=>by
    obtain ⟨xs,hx⟩:=hb;exact tp b ⟨xs,hx⟩ (by rw [hx];intro q;cases q)
 ·show upd H6 y _ ls=_
  rw [mw nlsy];exact s6 _ _ ls5
 ·exact nlg.keep (λ z o hz ho=>by
   refine (mw (λ q=>?_)).trans ho;rcases hz with h|h|h
   ·exact ngy (h.symm.trans q)
   ·exact (hx5 (frg z h)).1 q
   ·obtain ⟨xs,hx⟩:=h;rw [q,hy] at hx;cases hx) λ b hb hn=>by
    obtain ⟨xs,hx⟩:=hb;exact tp b ⟨xs,hx⟩ (by rw [hx];intro q;cases q)
 ·show (ls :: mf :: ag :: (acs ++ ags)).Nodup
  have ls5':∀ z,H5 z=none->z≠ls:=λ z hz q=>by rw [q,ls5] at hz;cases hz
  rw [cw,cw,cw];refine iA4 (λ z=>?_) (λ z=>?_) (λ z=>?_) ?_
  ·rcases az.mp z with h|z
   ·exact nlsa (h ▸ bw ..)
   rcases az.mp z with h|z
   ·exact ls5' ag hag h.symm
   rcases aF.mp z with z|z
   ·exact nlsa (aB _ z)
   ·exact ls5' ls (frg ls z) rfl
  ·rcases az.mp z with h|z
   ·rw [<- h,nl5.out] at hag;cases hag
   rcases aF.mp z with z|z
   ·exact nl5.nG z
   ·have:=frg mf z;rw [nl5.out] at this;cases this
  ·rcases aF.mp z with z|z
   ·obtain ⟨o,ho⟩:=inA ag (aB _ z);rw [hag] at ho;cases ho
   ·exact nlg.nG z
  ·rw [nodup_append];refine ⟨nl5.nd,nlg.nd,λ u hu v hv q=>?_⟩;subst q;obtain ⟨o,ho⟩:=inA u (aB _ hu);rw [frg u hv] at ho;cases ho
 ·intro b hb;rcases az.mp hb with rfl|hb
  ·exact hls0
  rcases az.mp hb with rfl|hb
  ·exact (hx0 hacc).2
  rcases az.mp hb with rfl|hb
  ·exact (hx5 hag).2
  rcases aF.mp hb with hb|hb
  ·exact (hx0 (frc b hb)).2
  ·exact (hx5 (frg b hb)).2
def zby (T:Txt K mg a):KCal P w K mg base "State" a.l 1 ["self","turn","cells","sides","gone"] [] (wg a):=T.i7.cal T.lU (J0 T)
def qo {rs:As} (h:Rep H p v (qf a bs rs)):∃ y dx fs l1 l2 bvs me,v=.ref y/\H y=some (.ins a.u dx fs)/\fs.lookup ("belts":Str)=some (.ref l1)/\fs.lookup ("knots":Str)=some (.ref l2) /\
  H l1=some (.lst bvs)/\H l2=some (.lst me)/\Bts a H p bvs bs/\Kns a H p me rs/\∀ f:Str,f≠"belts"->f≠"knots"->fs.lookup f=none:=by
 refine oE3 (Rep.ob' h) λ y dx fs l9=>oA5 l9 λ m5 py hy g1 g2=>?_;clear l9;subst m5;obtain ⟨u1,e1,r1⟩:=g1 _ _ WH;obtain ⟨u2,e2,r2⟩:=g1 _ _ zcS;refine oE2 r1.lst' λ l1 bvs l9=>oA4 l9 λ m5 _ h1 b1=>?_;clear l9;subst m5;refine oE2 r2.lst' λ l2 me l9=>oA4 l9 λ m5 _ h2 b2=>?_;clear l9;subst m5;exact iE7 y dx fs l1 l2 bvs me (iA9 rfl hy e1 e2 h1 h2 (.of b1) (.of b2) (λ f n1 n2=>g2 f (zgx n1 n2)))
noncomputable def Js (ks:A6) (n:Int):Int:=ks.getD (n % (ks.length:Int)).toNat 0
def XE {ks:A6} (n:Int) (h:0 < ks.length):atI (iv ks) (n % (ks.length:Int))=some (.int (Js ks n)):=by
 have h0:=aH n (show (ks.length:Int)≠0 by lia);have h1:=aD n (show (0:Int) < ks.length by lia);unfold Js;generalize n % (ks.length:Int)=m at h0 h1 ⊢;have hlt:m.toNat < ks.length:=by lia
 have e:m=(m.toNat:Int):=by lia
 have:=zL (wD (ae hlt));rw [<- e] at this;rw [this];simp [hlt]
def WK {s n:Int} (h:Rep H p v (.tup [.int s,.int n])):∃ t,v=.ref t/\H t=some (.tup [.int s,.int n]):=Jc (b:=(s,n)) h
def QA {me:Ao} {rs:As} {j:Nat} {r:Row} (hK:Kns a H p me rs) (h:rs[j]?=some r):∃ kv,me[j]?=some kv/\KnP a H p kv r:=by
 have hj:=(aa.mp h).1;have e:me[j]?=some (me[j]'(by rw [hK.len];exact hj)):=ae _;exact ⟨_,e,hK.g j _ r e h⟩
def zc6 (a:Ad):Sp:=λ vs H Q _=>∃ (v vwr:V) (bs:A1) (rs:As) (p q:A5) (s:Nat) (n:Int) (r:Row),vs=[v,vwr]/\Rep H p v (qf a bs rs)/\Rep H q vwr (.tup [.int s,.int n])/\rs[s]?=some r/\r.wd=.source/\0 < r.kinds.length/\Q (.int (Js r.kinds n)) H
def XQ (T:Txt K mg a):Cal P w K mg base "kind_of" 1 ["work","ware"] [] (zc6 a):=T.kW.cal λ F=>by
 refine F.okx zap ?_ ?_
 ·walk_at "i"
 walk_at "j";refine oE5 h λ v vwr bs rs p l9=>oE4 l9 λ q sc n r m5=>oA7 m5 λ mh hv hw hr' hs hk k=>?_;clear l9 m5 h;subst mh;refine oE7 (qo hv) λ y dx fs l1 l2 bvs me l9=>oA9 l9 λ m5 hy e1 e2 h1 h2 hB hK no=>?_;clear l9;subst m5;obtain ⟨t,rfl,ht⟩:=WK hw;obtain ⟨kv,hkv,hKn⟩:=QA hK hr';refine oE6 hKn.inv λ y1 dx1 m1 m2 m3 fs1 l9=>oA9 l9 λ m5 _ _ _ _ g0 _ _ mh=>oA5 mh λ _ _ _ g3 _=>?_;clear l9 mh;subst m5;obtain ⟨g3a,g3b⟩:=g3 hs;walk_at "T";refine ⟨_,(zh (zo 2 zap.nd (zk (zt (zk (pq 0) rfl) (zt (pq 1) zd)) rfl))  (zc (zj (zt (pq 2) (zw qa (zt (pq 1) zd) (zy zN zJ (za (pq 2) zb))))))),?_⟩;exists ra hy T.fG T.fF e2 (mB ht at0 (zq (SqL.of h2) (zL hkv) ?_));refine iE5 y1 (xf a r.wd) dx1 fs1 _ (iA6 rfl g0 (CT T _) (by rw [hs];exact T.fK) g3a ?_);exists mB ht rfl ?_;exists ⟨_,.inl ⟨_,SqL.of g3b,rfl⟩,?_⟩;rw [zu];left;exact ⟨by lia,zq (SqL.of g3b) (XE n hk) k⟩
noncomputable def jI (r:Row):List Int:=List.replicate (max r.ins.length r.outs.length) 0
def zfJ {α:Type} (n:Nat) (x:α):(List.replicate n [x]).flatten=List.replicate n x:=by
 induction n with
 | zero=>rfl
 | succ n ih=>rw [cN,dD,ih];rfl
def zdL (n:Nat) (x:Int):List.replicate n (V.int x)=iv (List.replicate n x):=by simp [iv]
def zf4 (m n:Nat):(if (n:Int) > (m:Int) then (n:Int) else (m:Int))=((max m n:Nat):Int):=by
 by_cases h:(n:Int) > (m:Int)
 ·rw [aA h];lia
 ·rw [aq h];lia
def Za {r:Row} (h:r.ok):r.ins.length<=4/\r.outs.length<=4:=by
 obtain ⟨wd,ins,outs,pc,ks⟩:=r;cases wd
 ·obtain ⟨h1,⟨o,h2⟩,_⟩:=h;simp only at h1 h2;subst h1 h2;simp
 ·obtain ⟨⟨o,h1⟩,h2,_⟩:=h;simp only at h1 h2;subst h1 h2;simp
 ·obtain ⟨⟨o,h1⟩,_,h2⟩:=h;simp only at h1 h2;subst h1;exact ⟨by simp,h2⟩
 ·obtain ⟨⟨o,h1⟩,_,h2⟩:=h;simp only at h1 h2;subst h1;exact ⟨by simp,h2⟩
 ·obtain ⟨⟨o,h1⟩,h2,_⟩:=h;simp only at h1 h2;subst h1;exact ⟨by simp,by show outs.length<=4;lia⟩
 ·obtain ⟨⟨o,h1⟩,_,h2⟩:=h;simp only at h1 h2;subst h1;exact ⟨h2,by simp⟩
def StNew (a:Ad) (H H':Hp) (v:V) (st:PSt):Prop:=∃ y n,v=.ref y/\StO a H' y n st/\H y=none/\H n.dx=none/\∀ b∈n.all,H b=none
def VG (T:Txt K mg a) {st:PSt} {vc vs' vg:V} {Q:Addr->Hp->Prop} {E:XK} (rc:Rep H p vc (.lst ((z7 st.cells).map D.lst))) (rs:Rep H p vs' (.ints st.sides)) (rg:Rep H p vg (.lst ((jo st.gone).map D.lst))) (lc:st.cells.length<=100) (lg:st.gone.length<=100)
  (k:∀ y H',Same H H'->StNew a H H' (.ref y) st->Q y H'):∀ (x dx:Addr),H x=none->H dx=none->dx≠x->wg a [.ref x,.int st.turn,vc,vs',vg] (upd (upd H dx (.own x)) x (.ins a.l dx [])) (λ v H2=>v=.non/\Q x H2) E:=by
 intro y dy hy hdy hne;have kp:∀ b o,p b->H b=some o->b≠y/\upd (upd H dy (.own y)) y (.ins a.l dy []) b=some o:=λ b o _ hb=>⟨my hb hy,qe hy hdy hb⟩;refine iE7 y dy vc vs' vg st (λ b=>b≠y) (iA9 rfl mv (λ _ h=>h) (rc.keep kp) (rs.keep kp) (rg.keep kp) lc lg (λ H' n en o so fr=>⟨rfl,?_⟩));exact k _ _ (Own.of_new hy hdy o) (iE2 y n (iA5 rfl so hy (by rw [en];exact hdy) (λ b hb=>zD (fr b hb))))
def zag (a:Ad):Sp:=λ vs H Q _=>∃ (v:V) (r:Row) (p:A5),vs=[v]/\KnP a H p v r/\r.ins.length<=100/\r.outs.length<=100/\∀ q H',Same H H'->H q=none->H' q=some (.lst (iv (jI r)))->Q (.ref q) H'
def V1 (T:Txt K mg a):Cal P w K mg base "no_counts" 1 ["knot"] [] (zag a):=T.km.cal λ F=>by
 refine F.okx X9 ?_ ?_
 ·walk_at "i"
 walk_at "j";refine oE3 h λ v r p l9=>oA5 l9 λ m5 hKn l1 l2 k=>?_;clear l9 h;subst m5;refine oE6 hKn.inv λ y1 dx1 m1 m2 m3 fs1 l9=>oA9 l9 λ m5 _ _ _ _ g0 f1 f2 mh=>oA5 mh λ _ g1 g2 g3 _=>?_;clear l9 mh;subst m5;walk_at "T";refine ⟨_,(zc (zj (zw zaM (zC (za zd zb)) (zy (XO rfl) zeb (za (zy zN zJ (za (zk (pq 0) rfl) zb)) (za (zy zN zJ (za (zk (pq 0) rfl) zb)) zb)))))),?_⟩;left;intro q hq;have sq:=zf (o:=.lst [V.int 0]) hq;refine ⟨kP,fU,?_⟩;refine ra (sq _ _ g0) (CT T _) (NI T _) f1 ⟨_,.inl ⟨_,SqL.of (sq _ _ g1),rfl⟩,?_⟩;refine ⟨fU,?_⟩;refine ra (sq _ _ g0) (CT T _) (NO T _) f2 ⟨_,.inl ⟨_,SqL.of (sq _ _ g2),rfl⟩,?_⟩;rw [zu,zu];refine iE2 _ _ ⟨rfl,?_⟩;rw [zf4];refine iE3 q _ _ (iA7 rfl rfl mv (by lia) (by lia) ?_ (λ q2 hq2=>?_))
 ·refine wK ?_;simp
  lia
 ·rw [zfJ,aX,zdL];exact k q2 _ (sq.trans (zf hq2)) (zM sq hq2) mv
noncomputable def qy (bs:A1) (rs:As):PSt:=⟨0,bs.map λ b=>List.replicate b.1.toNat none,List.replicate rs.length 0,rs.map jI⟩
inductive spEmpty (a:Ad) (vs:Ao) (H:Hp) (Q:VK) (E:XK):Prop
 | i (v:V) (bs:A1) (rs:As) (p:A5):vs=[v]->Rep H p v (qf a bs rs)->bs.length<=24->rs.length<=24->(∀ b∈bs,zF b.1 b.2)->(∀ r∈rs,r.ok)->(∀ v' H',Same H H'->StNew a H H' v' (qy bs rs)->Q v' H')->spEmpty a vs H Q E
def vv (T:Txt K mg a):Cal P w K mg base "empty_state" 3 ["work"] [] (spEmpty a):=T.iL.cal λ F=>by
 refine F.okx QT ?_ ?_
 ·walk_at "i"
 walk_at "j";rcases h with ⟨v,bs,rs,p,rfl,hv,lb,lr,bo,ro,k⟩;refine oE7 (qo hv) λ y dx fs l1 l2 bvs me l9=>oA9 l9 λ m5 hy e1 e2 h1 h2 hB hK no=>?_;clear l9;subst m5;walk_at "T";refine ⟨_,(zg (Q6 (i:=1) QT.nd rfl (Or.inl rfl) (vars:=["belt"]) (caps:=[]) (N:=["belt"]) (ON:=["work","cells","sides"]) (osc:=ze qR) rfl rfl (by right) rfl rfl (zX (zk (pq 0) rfl)) (λ _ _ _ _=>(qd 0 (show (["belt"]:A8).Nodup from by symm))) (λ _ _ _ _=>z6) (λ _ _ _ _=>(zw zaM (zC (za zz zb)) (zk (pq 0) rfl))))  (zg (zo 2 QT.nd (zw zaM (zC (za zd zb)) (zy zN zJ (za (zk (pq 0) rfl) zb))))  (zc (zj (qh (x:="State") ⟨rfl,rfl,rfl⟩ hr (za zd (za (pq 1) (za (pq 2) (za (xb (vars:=["knot"]) (caps:=[]) (N:=["knot"]) (ON:=["work","cells","sides"]) (osc:=ze qR) rfl rfl (by right) rfl rfl (zX (zk (pq 0) rfl)) (λ _ _ _ _=>(qd 0 (show (["knot"]:A8).Nodup from by symm))) (λ _ _ _ _=>z6) (λ _ _ _ _=>(ZW hr (za (pq 0) zb)))) zb))))))))),?_⟩;left;walk_at "d";exists ra hy T.fG T.fJ e1 ⟨l1,rfl,.inl ⟨⟨_,SqL.of h1⟩,λ _ _ _ _ mf hacc=>?_⟩⟩;let mj:Nat->St->Hp->Prop:=λ i σ H'=>∃ (v0:Ap) (us:Ao),σ=[v0]/\Same H H'/\H' mf=some (.lst us)/\Reps H' (Off [mf]) us ((bs.take i).map λ b=>D.lst (List.replicate b.1.toNat .non));refine qt (K:=K) (a:=l1) (xs:=bvs) mj (iE2 _ ([]) (iA4 rfl (zf hacc) mv (by rw [cq];exact .nil))) (λ i σ H' _ h=>by obtain ⟨_,_,_,s,_⟩:=h;exact SqL.of (s _ _ h1)) ?_ ?_
 ·intro i x σ H2 hi m8;refine oE2 m8 λ v0 us l9=>oA4 l9 λ m5 s2 ha ru=>?_;ext;obtain ⟨b,hb',hBt⟩:=hB.at hi;refine oE3 hBt.inv λ y1 dx1 fs1 l9=>oA5 l9 λ m5 _ g0 f1 f2=>?_;clear l9;subst m5;have hil:=(aa.mp hb').1;have bk:=bo b (ai hb');left;intro q hq;have sq:=zf (o:=.lst [V.non]) hq;refine ra (sq _ _ (s2 _ _ g0)) T.gq T.gD f1 ?_;have b1:=bk.1;have b2:=bk.2.1;refine iE3 q _ _ (iA7 rfl rfl mv (by lia) (by lia) (wK (by simp;lia)) (λ q2 hq2=>?_));rw [zfJ];have s3:=sq.trans (zf (o:=.lst (List.replicate b.1.toNat V.non)) hq2);have h3:upd (upd H2 q (.lst [V.non])) q2 (.lst (List.replicate b.1.toNat V.non)) q2=some (.lst (List.replicate b.1.toNat V.non)):=mv;have n2:H2 q2=none:=zM sq hq2;generalize upd (upd H2 q (.lst [V.non])) q2 (.lst (List.replicate b.1.toNat V.non))=H3 at s3 h3 ⊢;have f5:Fr [mf] H3 (upd H3 mf (.lst (us ++ [.ref q2]))):=qx (by simp);have nq:=zdr ha n2;refine ⟨_,iA3 (s3 _ _ ha) (zi (by rw [ru.len,ah,aW];lia)) (iE2 _ (us ++ [.ref q2]) (iA4 rfl (((s2.trans s3).fr.trans f5).same (by intro m hm;rw [ay.mp hm];exact hacc)) mv ?_))⟩;rw [aR,hb',a7];refine ((ru.same s3).fr f5).append (.one ?_);refine Reps.mk' ⟨by simp,λ j u d a1 a2=>?_⟩ nq (f5 _ _ nq h3);have a1:=ai a1;have a2:=ai a2;rw [(cx.mp a1).2,(cx.mp a2).2];exact .non
 intro σ H2 m8;refine oE2 m8 λ v0 us l9=>oA4 l9 λ m5 s2 ha ru=>?_;ext;rw [hB.len,aV] at ru;left;intro q hq;have sq:=zf (o:=.lst [V.int 0]) hq;exists ra (sq _ _ (s2 _ _ hy)) T.fG T.fF e2 ⟨_,.inl ⟨_,SqL.of (sq _ _ (s2 _ _ h2)),rfl⟩,?_⟩;rw [hK.len];refine iE3 q _ _ (iA7 rfl rfl mv (by lia) (by lia) (wK (by simp;lia)) (λ ls hls=>?_));rw [zfJ,aX,zdL];have s3:Same H (upd (upd H2 q (.lst [V.int 0])) ls (.lst (iv (List.replicate rs.length 0)))):=(s2.trans sq).trans (zf hls);have ha3:=mz (o:=.lst (iv (List.replicate rs.length 0))) (sq _ _ ha) hls;have ru3:=(ru.same sq).same (zf (o:=.lst (iv (List.replicate rs.length 0))) hls);have h3:upd (upd H2 q (.lst [V.int 0])) ls (.lst (iv (List.replicate rs.length 0))) ls=some (.lst (iv (List.replicate rs.length 0))):=mv;generalize upd (upd H2 q (.lst [V.int 0])) ls (.lst (iv (List.replicate rs.length 0)))=H3 at s3 ha3 ru3 h3 ⊢;exists iE4 a.l _ _ _ ⟨(zby T).mono,?_⟩;walk_at "d";exists ra (s3 _ _ hy) T.fG T.fF e2 ⟨l2,rfl,.inl ⟨⟨_,SqL.of (s3 _ _ h2)⟩,λ _ _ _ _ ac2 hac2=>?_⟩⟩;let ml:Nat->St->Hp->Prop:=λ i σ H'=>∃ (v0:Ap) (us:Ao),σ=[v0]/\Same H3 H'/\H' ac2=some (.lst us)/\Reps H' (Off [ac2]) us ((rs.take i).map λ r=>D.ints (jI r));refine qt (K:=K) (a:=l2) (xs:=me) ml (iE2 _ ([]) (iA4 rfl (zf hac2) mv (by rw [cq];exact .nil))) (λ i σ H' _ h=>by obtain ⟨_,_,_,s,_⟩:=h;exact SqL.of (s _ _ (s3 _ _ h2))) ?_ ?_
 ·intro i x σ H4 hi m8;refine oE2 m8 λ v0 us l9=>oA4 l9 λ m5 s4 ha4 ru4=>?_;ext;obtain ⟨r,hr',hKn⟩:=hK.at hi;have hil:=(aa.mp hr').1;have rl:=Za (ro r (ai hr'));exists uc (V1 T).mono (iE3 x r p (iA5 rfl (hKn.keep (λ b o pb hb=>⟨pb,s4 _ _ (s3 _ _ hb)⟩)) (by lia) (by lia) (λ q2 H5 s5 n2 h5=>?_)));have f5:Fr [ac2] H5 (upd H5 ac2 (.lst (us ++ [.ref q2]))):=qx (by simp);have nq:=zdr ha4 n2;refine ⟨_,iA3 (s5 _ _ ha4) (zi (by rw [ru4.len,ah,aW];lia)) (iE2 _ (us ++ [.ref q2]) (iA4 rfl (((s4.trans s5).fr.trans f5).same (by intro m hm;rw [ay.mp hm];exact hac2)) mv ?_))⟩;rw [aR,hr',a7];exact ((ru4.same s5).fr f5).append (.one (zY nq (f5 _ _ nq h5)))
 intro σ H4 m8;refine oE2 m8 λ v0' us4 l9=>oA4 l9 λ m5 s4 ha4 ru4=>?_;ext;rw [hK.len,aV] at ru4;have s34:=s3.trans s4;refine VG T (st:=qy bs rs) (p:=Off []) ?_ ?_ ?_ (by simp [qy];lia) (by simp [qy];lia) (λ v' H5 s5 so=>k _ _ (s34.trans s5) ?_)
 ·have:=(ru3.same s4).all;rw [show (bs.map λ b=>D.lst (List.replicate b.1.toNat .non))=(z7 (qy bs rs).cells).map D.lst by simp [qy,z7,qg,dZ]] at this;exact this.mk' (λ z=>nomatch z) (s4 _ _ ha3)
 ·exact zY (λ z=>nomatch z) (s4 _ _ h3)
 ·have:=ru4.all;rw [show (rs.map λ r=>D.ints (jI r))=(jo (qy bs rs).gone).map D.lst by simp [qy,jo,dZ]] at this;exact this.mk' (λ z=>nomatch z) ha4
 ·refine oE2 so λ y5 n5 l9=>oA5 l9 λ e5 o5 f1 f2 f3=>?_;clear l9 so;exact iE2 y5 n5 (iA5 e5 o5 (zM s34 f1) (zM s34 f2) (λ b hb=>zM s34 (f3 b hb)))
def VX {r:Row} (h:r.ok) (hw:r.wd=.joiner):jI r=List.replicate r.ins.length 0:=by
 obtain ⟨wd,ins,outs,pc,ks⟩:=r;simp only at hw;subst hw;obtain ⟨⟨o,h1⟩,h2,_⟩:=h;simp only at h1 h2;subst h1;unfold jI;rw [Nat.max_eq_left (by simp;lia)]
def zbd {r:Row} (h:r.ok) (hw:r.wd≠.joiner):jI r=List.replicate (max 1 r.outs.length) 0:=by
 obtain ⟨wd,ins,outs,pc,ks⟩:=r;unfold jI;cases wd
 ·obtain ⟨h1,⟨o,h2⟩,_⟩:=h;simp only at h1 h2;subst h1 h2;rfl
 ·obtain ⟨⟨o,h1⟩,h2,_⟩:=h;simp only at h1 h2;subst h1 h2;rfl
 ·obtain ⟨⟨o,h1⟩,h2,_⟩:=h;simp only at h1 h2;subst h1;rfl
 ·obtain ⟨⟨o,h1⟩,h2,_⟩:=h;simp only at h1 h2;subst h1;rfl
 ·obtain ⟨⟨o,h1⟩,h2,_⟩:=h;simp only at h1 h2;subst h1;rfl
 ·exact absurd rfl hw
def wF {r:Row} (h:r.ok):1<=(jI r).length/\(jI r).length<=4:=by
 have:=Za h;by_cases hw:r.wd=.joiner
 ·rw [VX h hw,bR];obtain ⟨wd,ins,outs,pc,ks⟩:=r;simp only at hw;subst hw;have:=h.2.1;simp only at this;constructor
  ·show 1<=ins.length;lia
  ·exact h.2.2
 ·rw [zbd h hw,bR]
  lia
def vx (rs:As) (x:z8):Prop:=∀ s n,x=some (s,n)->∃ (j:Nat) (r:Row),s=j/\rs[j]?=some r/\r.wd=.source/\0<=n
def za4 (rs:As) (gss:List A6):Prop:=gss.length=rs.length/\∀ (i:Nat) r g,rs[i]?=some r->gss[i]?=some g->g.length=(jI r).length/\∀ n∈g,0<=n
def jQ (bs:A1) (rs:As) (css:At):Prop:=css.length=bs.length/\∀ (i:Nat) b c,bs[i]?=some b->css[i]?=some c->c.length=b.1.toNat/\∀ x∈c,vx rs x
def zdR {rs:As} {gss:List A6} (h:za4 rs gss) {j:Nat} {g g':A6} (e:gss[j]?=some g) (l:g'.length=g.length) (n:∀ x∈g',0<=x):za4 rs (gss.set j g'):=by
 refine ⟨by rw [cQ];exact h.1,λ i r x h1 h2=>?_⟩;by_cases hj:i=j
 ·subst hj;rw [bx (aa.mp e).1] at h2;cases h2;exact ⟨by rw [l];exact (h.2 i r g h1 e).1,n⟩
 ·rw [bM (aZ hj)] at h2;exact h.2 i r x h1 h2
def Zz (r:Row) (s:Int):Prop:=0<=s/\(r.wd=.parter->s < r.outs.length)/\(r.wd=.joiner->s < r.ins.length)/\(r.wd≠.parter->r.wd≠.joiner->s=0)
def X7 (rs:As) (sds:A6):Prop:=sds.length=rs.length/\∀ (i:Nat) r s,rs[i]?=some r->sds[i]?=some s->Zz r s
noncomputable def qb (cs:At) (b:Int):List z8:=cs.getD b.toNat []
noncomputable def Xe (c:Au):z8:=c.getLastD none
noncomputable def zg5 (c:Au):z8:=c.headD none
noncomputable def zbx (rs:As):z8->Option Int:=Option.map λ x=>Js ((rs[x.1.toNat]?.map Row.kinds).getD []) x.2
noncomputable def ja (rs:As) (cs:At) (r:Row):List A9:=r.ins.map λ b=>zbx rs (Xe (qb cs b))
noncomputable def xD (cs:At) (r:Row):List Bool:=r.outs.map λ b=>decide (zg5 (qb cs b)=none)
def zbw {α:Type} {xs:List α} {d:α} (h:xs≠[]):atI xs (-1)=some (xs.getLastD d):=by
 have hl:0 < xs.length:=dF.mpr h;unfold atI ixN;rw [aq (by decide),aA (by lia)];have e:((-1:Int) + xs.length).toNat=xs.length - 1:=by lia
 simp only [Option.bind_some,e];rw [ae (by lia),cW,List.getLast?_eq_getElem?,ae (by lia)]
 rfl
def VH {c:Au}:(c.map qg).getLastD .non=qg (Xe c):=by
 unfold Xe;rw [cW,cW,List.getLast?_map];cases c.getLast? <;> rfl
structure stWf (bs:A1) (rs:As) (st:PSt):Prop where
 co:jQ bs rs st.cells
 so:X7 rs st.sides
 go:za4 rs st.gone
def xZ {rs:As} {cs:At} (h:jQ bs rs cs) (bo:∀ b∈bs,zF b.1 b.2) {b:Int} (hb:b∈rgI bs.length):∃ (i:Nat),b=i/\i < cs.length/\cs[i]?=some (qb cs b)/\qb cs b≠[]/\∀ x∈qb cs b,vx rs x:=by
 obtain ⟨h0,h1⟩:=zeR hb;obtain ⟨i,rfl⟩:∃ i:Nat,b=i:=⟨b.toNat,by lia⟩;have hi:i < cs.length:=by rw [h.1];lia
 have e:cs[i]?=some (qb cs i):=by
  unfold qb;rw [aX,ae hi];simp [hi]
 have hib:i < bs.length:=by lia
 obtain ⟨q1,q2⟩:=h.2 i bs[i] _ (ae hib) e;refine ⟨i,iA5 rfl hi e ?_ q2⟩;intro z;rw [z] at q1;have:=(bo _ (dR hib)).1;simp at q1
 lia
def QD {rs:As} {r:Row} {b:Int} (w:qc bs rs) (h:rs[k]?=some r) (hb:b∈r.ins):b∈rgI bs.length :=
 w.2.2.mem_iff.mp (List.mem_flatMap.mpr ⟨r,ai h,hb⟩)
def Je {rs:As} {r:Row} {b:Int} (w:qc bs rs) (h:rs[k]?=some r) (hb:b∈r.outs):b∈rgI bs.length :=
 w.2.1.mem_iff.mp (List.mem_flatMap.mpr ⟨r,ai h,hb⟩)
def zbI {c:Au} (h:c≠[]):Xe c∈c:=by
 unfold Xe;rw [cW,List.getLast?_eq_some_getLast h];exact List.getLast_mem h
def zb3 {st:PSt} (h:Rep H p v (xY a st)):∃ y dx fs lc ls lg ucs ugs,v=.ref y/\H y=some (.ins a.l dx fs)/\fs.lookup ("turn":Str)=some (.int st.turn)/\fs.lookup ("cells":Str)=some (.ref lc)/\fs.lookup ("sides":Str)=some (.ref ls)/\fs.lookup ("gone":Str)=some (.ref lg) /\
  H lc=some (.lst ucs)/\Reps H p ucs ((z7 st.cells).map D.lst)/\H ls=some (.lst (iv st.sides))/\H lg=some (.lst ugs)/\Reps H p ugs ((jo st.gone).map D.lst):=by
 refine oE3 (Rep.ob' h) λ y dx fs l9=>oA5 l9 λ m5 py hy g1 g2=>?_;clear l9;subst m5;obtain ⟨u1,e1,r1⟩:=g1 _ _ (WP st);obtain ⟨u2,e2,r2⟩:=g1 _ _ (Xn st);obtain ⟨u3,e3,r3⟩:=g1 _ _ (Xm st);obtain ⟨u4,e4,r4⟩:=g1 _ _ (WQ st);cases r1;refine oE2 r2.lst' λ lc ucs l9=>oA4 l9 λ m5 _ hc rc=>?_;clear l9;subst m5;refine oE1 r3.ints' λ ls l9=>oA3 l9 λ m5 _ hs=>?_;clear l9;subst m5;refine oE2 r4.lst' λ lg ugs l9=>oA4 l9 λ m5 _ hg rg=>?_;clear l9;subst m5;exact iE8 y dx fs lc ls lg ucs ugs (iA9 rfl hy e1 e2 e3 e4 hc rc (iA3 hs hg rg))
def zdO {us:Ao} {dss:List (List D)} (h:Reps H p us (dss.map D.lst)) {ds:List D} (e:dss[i]?=some ds):∃ l vs,us[i]?=some (.ref l)/\H l=some (.lst vs)/\Reps H p vs ds:=by
 obtain ⟨v,h1,h2⟩:=h.of (i:=i) (d:=.lst ds) (by rw [au,e];rfl);refine oE2 h2.lst' λ l vs l9=>oA4 l9 λ m5 _ h3 h4=>?_;clear l9;subst m5;exact iE2 l vs (iA3 h1 h3 h4)
inductive spHeads (a:Ad) (vs:Ao) (H:Hp) (Q:VK) (E:XK):Prop
 | i (vw vs' vk:V) (bs:A1) (rs:As) (st:PSt) (k:Nat) (r:Row) (p q:A5):vs=[vw,vs',vk]->Rep H p vw (qf a bs rs)->Rep H q vs' (xY a st)->KnP a H p vk r->rs[k]?=some r->qc bs rs->(∀ b∈bs,zF b.1 b.2)->(∀ r∈rs,r.ok)->jQ bs rs st.cells->(∀ l H',Same H H'->H l=none->H' l=some (.lst ((ja rs st.cells r).map hdV))->Q (.ref l) H')->spHeads a vs H Q E
theorem zbh (T:Txt K mg a):Cal P w K mg base "heads_of" 2 ["work","state","knot"] [] (spHeads a):=T.kI.cal λ F=>by
 refine F.okx Vf ?_ ?_
 ·walk_at "i"
 walk_at "j";rcases h with ⟨vw,vs',vk,bs,rs,st,kn,r,p,q,rfl,hw,hs,hk,hr',mi,bo,ro,co,k⟩;refine oE8 (zb3 hs) λ y dx fs lc ls lg ucs ugs l9=>oA9 l9 λ m5 hy e1 e2 e3 e4 hc rc mh=>oA3 mh λ hsd hg rg=>?_;clear l9 mh;subst m5;refine oE6 hk.inv λ y1 dx1 m1 m2 m3 fs1 l9=>oA9 l9 λ m5 _ _ _ _ g0 f1 f2 mh=>oA5 mh λ _ g1 g2 _ _=>?_;clear l9 mh;subst m5;have rl:=Za (ro r (ai hr'));walk_at "T";refine ⟨_,(zg (Q6 (i:=3) Vf.nd rfl (Or.inl rfl) (vars:=["belt"]) (caps:=[1]) (N:=["belt","state"]) (ON:=["work","state","knot","ends"]) (osc:=ze jW) rfl rfl (by right) rfl rfl (zX (zk (pq 2) rfl)) (λ _ _ _ _=>(qd 0 (show (["belt","state"]:A8).Nodup from by symm))) (λ _ _ _ _=>z6) (λ _ _ _ _=>(zt (zt (zk (pq 1) rfl) (pq 0)) (vd xr zd))))  (zc (zj (xb (vars:=["ware"]) (caps:=[0]) (N:=["ware","work"]) (ON:=["work","state","knot","ends"]) (osc:=ze jW) rfl rfl (by right) rfl rfl (zX (pq 3)) (λ _ _ _ _=>(qd 0 (show (["ware","work"]:A8).Nodup from by symm))) (λ _ _ _ _=>z6) (λ _ _ _ _=>(xC (zl qZ (pq 0) zz (zn _)) zz (ZW hr (za (pq 1) (za (pq 0) zb))))))))),?_⟩;left;walk_at "d";exists ra g0 (CT T _) (NI T _) f1 ⟨m1,rfl,.inl ⟨⟨_,SqL.of g1⟩,λ _ _ _ _ mf hacc=>?_⟩⟩;let mj:Nat->St->Hp->Prop:=λ i σ H'=>∃ (v0:Ap) (us:Ao),σ=[v0,some (.ref y)]/\Same H H'/\H' mf=some (.lst us)/\Reps H q us ((r.ins.take i).map λ b=>qg (Xe (qb st.cells b)));refine qt (K:=K) (a:=m1) (xs:=iv r.ins) mj (iE2 _ ([]) (iA4 rfl (zf hacc) mv (by rw [cq];exact .nil))) (λ i σ H' _ h=>by obtain ⟨_,_,_,s,_⟩:=h;exact SqL.of (s _ _ g1)) ?_ ?_
 ·intro i x σ H2 hi m8;refine oE2 m8 λ v0 us l9=>oA4 l9 λ m5 s2 ha ru=>?_;ext;obtain ⟨b,hb,rfl⟩:=Zn hi;have hil:=(aa.mp hb).1;refine oE1 (xZ co bo (QD mi hr' (ai hb))) λ j l9=>oA5 l9 λ m5 hj ej nej _=>?_;clear l9;subst m5;obtain ⟨li,vi,hu,hli,ri⟩:=zdO rc (i:=j) (ds:=(qb st.cells j).map qg) (by rw [z7,au,ej];rfl);obtain ⟨ve,he,re⟩:=zfu ri (zbw (d:=.non) (by simpa using nej));rw [VH] at re;exists ra (s2 _ _ hy) T.ad T.fH e2 (zq (SqL.of (s2 _ _ hc)) (zL hu) ?_);exists zq (SqL.of (s2 _ _ hli)) he ?_;refine ⟨_,iA3 ha (zi (by rw [ru.len,ah,aW];lia)) (iE2 _ (us ++ [ve]) (iA4 rfl (λ b o hb=>by rw [mw (my hb hacc)];exact s2 b o hb) mv ?_))⟩;rw [aR,hb,a7];exact ru.append (.one re)
 intro σ H2 m8;refine oE2 m8 λ v0 us l9=>oA4 l9 λ m5 s2 ha ru=>?_;ext;rw [zu,aV] at ru;have lu:us.length=r.ins.length:=by rw [ru.len,ah]
 left;walk_at "d";exists ⟨mf,rfl,.inl ⟨⟨_,SqL.of ha⟩,λ _ _ _ _ ac2 hac2=>?_⟩⟩;let ml:Nat->St->Hp->Prop:=λ i σ H'=>∃ (v0:Ap),σ=[v0,some vw]/\Same H2 H'/\H' ac2=some (.lst ((((ja rs st.cells r).take i).map hdV)));refine qt (K:=K) (a:=mf) (xs:=us) ml ⟨_,iA3 rfl (zf hac2) (by rw [cq];exact mv)⟩ (λ i σ H' _ h=>by obtain ⟨_,_,s,_⟩:=h;exact SqL.of (s _ _ ha)) ?_ ?_
 ·intro i x σ H3 hi m8;refine oE1 m8 λ v0 l9=>oA3 l9 λ m5 s3 ha3=>?_;ext;obtain ⟨d,hd,rx⟩:=ru.at hi;rw [au,aC] at hd;obtain ⟨b,hb,rfl⟩:=hd;have hil:=(aa.mp hb).1;refine oE1 (xZ co bo (QD mi hr' (ai hb))) λ j l9=>oA5 l9 λ m5 hj ej nej wk=>?_;clear l9;subst m5;have hwk:=wk _ (zbI nej);have hh:(ja rs st.cells r)[i]?=some (zbx rs (Xe (qb st.cells j))):=by rw [ja,au,hb];rfl
  have s23:=s2.trans s3;have fin:∀ u:V,u=hdV (zbx rs (Xe (qb st.cells j)))->∃ ys,H3 ac2=some (.lst ys)/\ys.length < sizeLine/\∃ (v0:Ap),([some x,some vw]:St)=[v0,some vw]/\Same H2 (upd H3 ac2 (.lst (ys ++ [u])))/\upd H3 ac2 (.lst (ys ++ [u])) ac2=some (.lst ((((ja rs st.cells r).take (i + 1)).map hdV))):=by
   rintro u rfl;refine ⟨_,iA3 ha3 (zi (by rw [ah,aW];lia)) ⟨_,iA3 rfl (λ b o hb=>by rw [mw (my hb hac2)];exact s3 b o hb) ?_⟩⟩;rw [mv,aR,hh,a7]
   rfl
  left;cases hE:Xe (qb st.cells j) with
  | none =>
   rw [hE] at rx fin;cases rx;rw [aA rfl];exact fin _ rfl
  | some wr =>
   obtain ⟨sr,nr⟩:=wr;rw [hE] at rx fin hwk;refine oE2 (hwk _ _ rfl) λ j0 r0 l9=>oA4 l9 λ m5 hr0 hw0 _=>?_;clear l9;subst m5;have ok0:=ro r0 (ai hr0);have kp:0 < r0.kinds.length:=by
    obtain ⟨wd,ins,outs,pc,ks⟩:=r0;simp only at hw0;subst hw0;exact ok0.2.2.2.2.1
   obtain ⟨tw,rfl,htw⟩:=WK rx;rw [aq (by intro z;cases z)];refine uc (XQ T).mono (iE5 vw _ bs rs p (iE4 q j0 nr r0 (iA7 rfl (j7 hw s23) (j7 rx s23) hr0 hw0 kp ?_)));exact fin _ (by simp [zbx,hr0,hdV])
 ·intro σ H3 m8;refine oE1 m8 λ v0 l9=>oA3 l9 λ m5 s3 ha3=>?_;ext;rw [lu,cM (by simp [ja])] at ha3;left;exact k _ _ (s2.trans s3) (zM s2 hac2) ha3
def zda (K:A0):Sp:=λ vs H Q _=>∃ (l:Addr) (ns:A6) (o:Option Nat),vs=[.ref l,w6 o]/\H l=some (.lst (iv ns))/\(∀ j,o=some j->j < ns.length)/\Q (hdV (o.bind λ j=>ns[j]?)) H
theorem XR (T:Txt K mg a):Cal P w K mg base "belt_at" 1 ["belts","place"] [] (zda K):=T.kX.cal λ F=>by
 refine F.okx zaq ?_ ?_
 ·walk_at "i"
 walk_at "j";refine oE3 h λ l ns o l9=>oA4 l9 λ m5 hl ho k=>?_;clear l9 h;subst m5;walk_at "T";refine ⟨_,(zc (zj (xC (zl qZ (pq 1) zz (zn _)) zz (zt (pq 0) (pq 1))))),?_⟩;left;cases o with
 | none=>exact zA (λ _=>k) (λ b=>absurd rfl b)
 | some j =>
  have hj:=ho j rfl;refine zA (λ b=>by cases b) (λ _=>?_);refine zq (SqL.of hl) (zL (wD (ae hj))) ?_;have e:hdV ((some j).bind λ j=>ns[j]?)=.int ns[j]:=by simp [hj,hdV]
  rw [e] at k;exact k
def zhn (T:Txt K mg a) (wd:Wd):kitOne K (.ref (xf a wd)) (.ref a.t)=some (decide (wd=.joiner)):=by
 cases wd
 ·exact T.gZ
 ·exact T.io
 ·exact T.g6
 ·exact T.gj
 ·exact T.ip
 ·exact T.g7
noncomputable def xG (r:Row) (ch:Aj):Nat:=if r.wd=.joiner then ch.1.getD 0 else ch.2.1.getD 0
inductive spCounted (a:Ad) (vs:Ao) (H:Hp) (Q:VK) (E:XK):Prop
 | i (vk:V) (t:Addr) (r:Row) (ch:Aj) (p:A5):vs=[vk,.ref t]->KnP a H p vk r->H t=some (.tup (chV ch))->(r.wd=.joiner->∃ j,ch.1=some j)->Q (.int (xG r ch)) H->spCounted a vs H Q E
theorem Qv (T:Txt K mg a):Cal P w K mg base "counted_place" 1 ["knot","chosen"] [] (spCounted a):=T.hW.cal λ F=>by
 refine F.okx ZA ?_ ?_
 ·walk_at "i"
 walk_at "j";rcases h with ⟨vk,t,r,ch,p,rfl,hk,ht,hj,k⟩;refine oE6 hk.inv λ y1 dx1 m1 m2 m3 fs1 l9=>oA9 l9 λ m5 _ _ _ _ g0 f1 f2 mh=>oA5 mh λ _ g1 g2 _ _=>?_;clear l9 mh;subst m5;walk_at "T";refine ⟨_,(zh (zx (zK (zy qr zr (za (pq 0) (za qC zb))) (λ _=>rfl))  (zc (zj (zt (pq 1) zd)))  zm)  (zc (zj (xC (zl qZ (zt (pq 1) zd) zz (zn _)) zd (zt (pq 1) zd))))),?_⟩;exists iE2 (.ref a.t) _ (iA3 T.kF rfl (iE4 _ _ _ _ (iA4 rfl ((WT T r.wd).ty (CT T r.wd) g0) (.inl ⟨_,rfl,zhn T r.wd⟩) ?_)));left;unfold xG at k;refine zA (λ b=>?_) (λ b=>?_)
 ·rw [aA b] at k;obtain ⟨j,ej⟩:=hj b;exists mB ht at0 ?_;rw [ej] at k ⊢;exact k
 ·rw [aq b] at k;exists mB ht (show atI (chV ch) 1=some (w6 ch.2.1) from rfl) ?_;left;cases e:ch.2.1 with
  | none =>
   rw [e] at k;exact zA (λ _=>k) (λ b=>absurd rfl b)
  | some j =>
   rw [e] at k;refine zA (λ b=>by cases b) (λ _=>?_);refine mB ht (show atI (chV ch) 1=some (w6 ch.2.1) from rfl) ?_;rw [e];exact k
section
variable {H:Hp} {y:Addr} {n:SN} {st:PSt}
def StO.nds (h:StO a H y n st):n.ls ∉ n.lc :: n.lg :: (n.acs ++ n.ags)/\n.lc ∉ n.lg :: (n.acs ++ n.ags)/\n.lg ∉ n.acs ++ n.ags/\∀ x∈n.acs,x ∉ n.ags:=by
 have nd:=h.nd;unfold SN.all at nd;rw [cw,cw,cw,nodup_append] at nd;exact iA4 nd.1 nd.2.1 nd.2.2.1 (λ x hx hy=>nd.2.2.2.2.2 x hx x hy rfl)
def Qw {us vs:Ao} (hx:H x=some (.lst us)) (h:zT H b):zT (upd H x (.lst vs)) b:=by
 obtain ⟨xs,hb⟩:=h;exact ⟨xs,by rw [mw (λ z=>by rw [z,hx] at hb;cases hb)];exact hb⟩
def StO.putC {c':Au} (h:StO a H y n st) (e:n.acs[i]?=some b) (r:Reps H (zT H) vs (c'.map qg)):StO a (upd H b (.lst vs)) y n { st with cells:=st.cells.set i c' }:=by
 have hb:=ai e;obtain ⟨us,hu⟩:=h.hc.isl (aB _ hb);refine oA4 h.nds λ n1 n2 n3 n4=>?_;have k:∀ c o,c≠b->H c=some o->upd H b (.lst vs) c=some o:=λ c o nc hc=>by rw [mw nc];exact hc
 have ntb:¬ zT H b:=λ ⟨xs,hx⟩=>by rw [hu] at hx;cases hx
 refine ⟨k _ _ (λ z=>by rw [<- z,h.hy] at hu;cases hu) h.hy,?_,k _ _ (λ z=>n1 (by rw [z];simp [hb])) h.hs,h.hg.tup λ c o hz hc=>k c o (λ z=>?_) hc,h.nd⟩
 ·have:=h.hc.put (vs:=vs) (ys:=c'.map qg) e ntb r;rw [show z7 (st.cells.set i c')=(z7 st.cells).set i (c'.map qg) by simp [z7,eP]];exact this.keep (λ _ _ _ hc=>hc) λ c hc _=>Qw hu hc
 ·subst z;rcases hz with rfl|hz|hz
  ·exact n3 (bj _ hb)
  ·exact n4 c hb hz
  ·exact ntb hz
def StO.putG {g':A6} (h:StO a H y n st) (e:n.ags[i]?=some b):StO a (upd H b (.lst (iv g'))) y n { st with gone:=st.gone.set i g' }:=by
 have hb:=ai e;obtain ⟨us,hu⟩:=h.hg.isl (aB _ hb);refine oA4 h.nds λ n1 n2 n3 n4=>?_;have k:∀ c o,c≠b->H c=some o->upd H b (.lst (iv g')) c=some o:=λ c o nc hc=>by rw [mw nc];exact hc
 have ntb:¬ zT H b:=λ ⟨xs,hx⟩=>by rw [hu] at hx;cases hx
 refine ⟨k _ _ (λ z=>by rw [<- z,h.hy] at hu;cases hu) h.hy,h.hc.tup λ c o hz hc=>k c o (λ z=>?_) hc,k _ _ (λ z=>n1 (by rw [z];simp [hb])) h.hs,?_,h.nd⟩
 ·subst z;rcases hz with rfl|hz|hz
  ·exact n2 (aB _ (a5 _ hb))
  ·exact n4 c hz hb
  ·exact ntb hz
 ·have:=h.hg.put (vs:=iv g') (ys:=g'.map D.int) e ntb reps_ints;rw [show jo (st.gone.set i g')=(jo st.gone).set i (g'.map D.int) by simp [jo,eP]];exact this.keep (λ _ _ _ hc=>hc) λ c hc _=>Qw hu hc
def StO.putS {s':A6} (h:StO a H y n st):StO a (upd H n.ls (.lst (iv s'))) y n { st with sides:=s' }:=by
 refine oA4 h.nds λ n1 n2 n3 n4=>?_;have k:∀ c o,c≠n.ls->H c=some o->upd H n.ls (.lst (iv s')) c=some o:=λ c o nc hc=>by rw [mw nc];exact hc
 have kt:∀ c,zT H c->c≠n.ls:=λ c ⟨xs,hx⟩ z=>by rw [z,h.hs] at hx;cases hx
 refine ⟨k _ _ (λ z=>by have:=h.hy;rw [z,h.hs] at this;cases this) h.hy,h.hc.tup λ c o hz hc=>k c o (λ z=>?_) hc,mv,h.hg.tup λ c o hz hc=>k c o (λ z=>?_) hc,h.nd⟩
 ·rcases hz with rfl|hz|hz
  ·exact n1 (by rw [<- z];simp)
  ·exact n1 (by rw [<- z];simp [hz])
  ·exact kt c hz z
 ·rcases hz with rfl|hz|hz
  ·exact n1 (by rw [<- z];simp)
  ·exact n1 (by rw [<- z];simp [hz])
  ·exact kt c hz z
def StO.cell {c:Au} (h:StO a H y n st) (e:st.cells[i]?=some c):∃ b vs,n.acs[i]?=some b/\H b=some (.lst vs)/\Reps H (zT H) vs (c.map qg):=h.hc.at (by rw [z7,au,e];rfl)
def StO.goneL {g:A6} (h:StO a H y n st) (e:st.gone[i]?=some g):∃ b,n.ags[i]?=some b/\H b=some (.lst (iv g)):=by
 obtain ⟨b,vs,h1,h2,h3⟩:=h.hg.at (i:=i) (xs:=g.map D.int) (by rw [jo,au,e];rfl);rw [QC h3] at h2;exact ⟨b,h1,h2⟩
def sff_l {t:Int} {lc ls lg:Addr}:(sff t lc ls lg).lookup ("cells":Str)=some (.ref lc)/\(sff t lc ls lg).lookup ("sides":Str)=some (.ref ls)/\(sff t lc ls lg).lookup ("gone":Str)=some (.ref lg)/\(sff t lc ls lg).lookup ("turn":Str)=some (.int t):=by
 unfold sff;refine iA4 ((zH (by symm)).trans qK) ((zH (by symm)).trans ((zH (by symm)).trans qK)) ((zH (by symm)).trans ((zH (by symm)).trans ((zH (by symm)).trans qK))) qK
def Zw (e:n.acs[i]?=some b):(n.acs.map V.ref)[i]?=some (.ref b):=by rw [au,e];rfl
def zbX (e:n.ags[i]?=some b):(n.ags.map V.ref)[i]?=some (.ref b):=by rw [au,e];rfl
def WG (e:n.acs[i]?=some b):b∈y :: n.all:=by simp [SN.all,ai e]
def zfc (e:n.ags[i]?=some b):b∈y :: n.all:=by simp [SN.all,ai e]
end
noncomputable def QQ (c:Au):List z8:=c.set (c.length - 1) none
noncomputable def qE (st:PSt) (k:Nat):Option Int->z8 × PSt
 | none=>(some ((k:Int),(st.gone.getD k []).headD 0),st)
 | some b=>(Xe (qb st.cells b),{ st with cells:=st.cells.set b.toNat (QQ (qb st.cells b)) })
def Reps.set {ds:List D} {d:D} (h:Reps H p vs ds) (i:Nat) (r:Rep H p v d):Reps H p (vs.set i v) (ds.set i d):=by
 refine ⟨by rw [cQ,cQ,h.len],λ j u e h1 h2=>?_⟩;by_cases hj:j=i
 ·subst hj;have hl:j < vs.length:=by have:=(aa.mp h1).1;rw [cQ] at this;exact this
  rw [bx hl] at h1;rw [bx (by rw [<- h.len];exact hl)] at h2;cases h1;cases h2;exact r
 ·rw [bM (aZ hj)] at h1 h2;exact h.g j u e h1 h2
inductive spTaken (a:Ad) (vs:Ao) (H:Hp) (Q:VK) (E:XK):Prop
 | i (y:Addr) (n:SN) (st:PSt) (k:Nat) (fb:A9) (g0:Int) (gs:A6):vs=[.ref y,.int k,hdV fb]->StO a H y n st->st.gone[k]?=some (g0 :: gs)->(∀ b,fb=some b->∃ i:Nat,b=i/\st.cells[i]?=some (qb st.cells b)/\qb st.cells b≠[])->(∀ v H',Fr (y :: n.all) H H'->StO a H' y n (qE st k fb).2->Rep H' (zT H') v (qg (qE st k fb).1)->Q v H')->spTaken a vs H Q E
theorem WB (T:Txt K mg a):Cal P w K mg base "taken_ware" 1 ["state","number","from_belt"] [] (spTaken a):=T.iY.cal λ F=>by
 refine F.okx JQ ?_ ?_
 ·walk_at "i"
 walk_at "j";rcases h with ⟨y,n,st,kn,fb,g0,gs,rfl,so,hg,hf,k⟩;refine oA4 (sff_l (t:=st.turn) (lc:=n.lc) (ls:=n.ls) (lg:=n.lg)) λ lk1 lk2 lk3 lk4=>?_;walk_at "T";refine ⟨_,(zh (zx (zl qZ (pq 2) zz (zn _))  (zc (zj (ji (za (pq 1) (za (zt (zt (zk (pq 0) rfl) (pq 1)) zd) zb)))))  zm)  (zh (zo 3 JQ.nd (zt (zt (zk (pq 0) rfl) (pq 2)) (vd xr zd)))  (zh (Q7 zz (Ja (zt (zk (pq 0) rfl) (pq 2)) (vd xr zd) xy))  (zc (zj (pq 3)))))),?_⟩;left;cases fb with
 | none =>
  refine zA (λ _=>?_) (λ b=>absurd rfl b);obtain ⟨bG,hbG,hgG⟩:=so.goneL hg;exists ra so.hy T.ad T.fQ lk3 (zq (SqL.of so.hg.out) (zL (zbX hbG)) (zq (SqL.of hgG) at0 ?_));left;intro t ht;refine k _ _ (za6 ht) (so.same (zf ht)) ?_;have e:(st.gone.getD kn []).headD 0=g0:=by simp [List.getD,hg]
  show Rep _ _ _ (D.tup [.int kn,.int ((st.gone.getD kn []).headD 0)])
  rw [e];exact Reps.mkT (vs:=[.int kn,.int g0]) (.cons .int (.cons .int .nil)) ⟨_,mv⟩ mv
 | some b =>
  refine oE1 (hf b rfl) λ i l9=>oA3 l9 λ m5 hc nc=>?_;clear l9;subst m5;refine oE2 (so.cell hc) λ bC vs l9=>oA3 l9 λ hbC hvC rvC=>?_;clear l9;have lv:vs.length=(qb st.cells i).length:=by rw [rvC.len,ah]
  have lp:0 < vs.length:=by rw [lv];exact dF.mpr nc
  obtain ⟨ve,he,re⟩:=zfu rvC (zbw (d:=.non) (by simpa using nc));rw [VH] at re;refine zA (λ b=>by cases b) (λ _=>?_);exists ra so.hy T.ad T.fH lk1 (zq (SqL.of so.hc.out) (zL (Zw hbC)) ?_);exists zq (SqL.of hvC) he ?_;exists ra so.hy T.ad T.fH lk1 (zq (SqL.of so.hc.out) (zL (Zw hbC)) ?_);exists wN (j:=vs.length - 1) hvC ?_ ?_
  ·unfold ixN;rw [aq (by decide),aA (by lia)]
   congr 1
   lia
  have e2:(QQ (qb st.cells i)).map qg=((qb st.cells i).map qg).set (vs.length - 1) .non:=by
   unfold QQ;rw [eP,lv]
   rfl
  have r2:Reps H (zT H) (vs.set (vs.length - 1) .non) ((QQ (qb st.cells i)).map qg):=by rw [e2];exact Reps.set rvC _ .non
  refine k _ _ (qx (WG hbC)) ?_ ?_
  ·have:=so.putC hbC r2;simpa [qE] using this
  ·refine Rep.keep (λ c o pc hc=>⟨Qw hvC pc,?_⟩) re;obtain ⟨xs,hx⟩:=pc;rw [mw (λ z=>by rw [z,hvC] at hx;cases hx)];exact hc
structure Move where
 k:Nat
 ware:z8
 fr:Option Int
 to:Option Int
noncomputable def zgn:Option Int->D
 | none=>.non
 | some b=>.int b
def zbn (o:A9):Rep H p (hdV o) (zgn o):=by
 cases o
 ·exact .non
 ·exact .int
noncomputable def XM (m:Move):D:=.tup [.int m.k,qg m.ware,zgn m.fr,zgn m.to]
noncomputable def zgo:Option Move->D
 | none=>.non
 | some m=>XM m
noncomputable def ZU (st:PSt) (x:z8):Option Int->PSt
 | none=>st
 | some b=>{ st with cells:=st.cells.set b.toNat ((qb st.cells b).set 0 x) }
noncomputable def zcJ (g:A6) (j:Nat):List Int:=g.set j (g.getD j 0 + 1)
noncomputable def jP (r:Row) (ch:Aj):Option Int:=ch.1.bind λ j=>r.ins[j]?
noncomputable def Zy (r:Row) (ch:Aj):Option Int:=ch.2.1.bind λ j=>r.outs[j]?
noncomputable def movedF (r:Row) (st:PSt) (k:Nat) (ch:Aj):PSt:=ZU (qE st k (jP r ch)).2 (qE st k (jP r ch)).1 (Zy r ch)
noncomputable def VT (r:Row) (st:PSt) (k:Nat) (ch:Aj):PSt × Move :=
 ({ movedF r st k ch with sides:=(movedF r st k ch).sides.set k ch.2.2,gone:=(movedF r st k ch).gone.set k (zcJ ((movedF r st k ch).gone.getD k []) (xG r ch)) },⟨k,(qE st k (jP r ch)).1,jP r ch,Zy r ch⟩)
noncomputable def wI (rs:As) (st:PSt) (k:Nat):PSt × Option Move:=match rs[k]? with
 | none=>(st,none)
 | some r=>match qD r (ja rs st.cells r) (xD st.cells r) st.turn (st.sides.getD k 0).toNat with
  | none=>(st,none)
  | some ch=>((VT r st k ch).1,some (VT r st k ch).2)
def Z0 {rs:As} {cs:At} (h:jQ bs rs cs) {c c':Au} (e:cs[i]?=some c) (l:c'.length=c.length) (k:∀ x∈c',vx rs x):jQ bs rs (cs.set i c'):=by
 refine ⟨by rw [cQ];exact h.1,λ j b d h1 h2=>?_⟩;by_cases hj:j=i
 ·subst hj;rw [bx (aa.mp e).1] at h2;cases h2;exact ⟨by rw [l];exact (h.2 j b c h1 e).1,k⟩
 ·rw [bM (aZ hj)] at h2;exact h.2 j b d h1 h2
def Zx {rs:As}:vx rs none:=λ _ _ z=>nomatch z
def ww {α:Type} {xs:List α} {x y:α} (h:y∈xs.set i x):y∈xs\/y=x:=List.mem_or_eq_of_mem_set h
theorem XN {r:Row} {hs:List A9} {bs:Ah} {t:Int} {side:Nat} {ch:Aj} (ok:r.ok) (hl:hs.length=r.ins.length) (bl:bs.length=r.outs.length) (sd:Zz r side) (h:qD r hs bs t side=some ch) :
  (∀ j,ch.1=some j->j < r.ins.length)/\(∀ j,ch.2.1=some j->j < r.outs.length)/\(r.wd=.joiner->∃ j,ch.1=some j)/\(ch.1=none->r.wd=.source)/\Zz r ch.2.2/\xG r ch < (jI r).length:=by
 obtain ⟨wd,ins,outs,pace,kinds⟩:=r;have cp:=wF ok;unfold qD at h;cases wd with
 | source =>
  simp only at h;obtain ⟨h1,⟨o,h2⟩,_⟩:=ok;simp only at h1 h2;subst h1 h2
  split at h
  ·cases h;exact ⟨(λ j z=>nomatch z),λ j z=>by cases z;simp,(λ z=>nomatch z),λ _=>rfl,sd,by simp [xG];lia⟩
  ·cases h
 | drain =>
  simp only at h;obtain ⟨⟨o,h1⟩,h2,_⟩:=ok;simp only at h1 h2;subst h1 h2
  split at h
  ·cases h
  ·cases h;exact ⟨λ j z=>by cases z;simp,(λ j z=>nomatch z),(λ z=>nomatch z),(λ z=>nomatch z),sd,by simp [xG];lia⟩
 | parter =>
  simp only at h;obtain ⟨⟨o,h1⟩,h2,h3⟩:=ok;simp only at h1 h2 h3 bl;subst h1
  split at h
  ·cases h
  ·rw [aC] at h;obtain ⟨q,hq,rfl⟩:=h;have hlt:=xF hq;refine ⟨λ j z=>by cases z;simp,λ j z=>by cases z;show q < outs.length;lia,(λ z=>nomatch z),(λ z=>nomatch z),⟨cy _,λ _=>?_,(λ z=>nomatch z),λ z=>absurd rfl z⟩,?_⟩
   ·have:=cI (q + 1) (show 0 < bs.length by lia);show (((q + 1) % bs.length:Nat):Int) < outs.length
    lia
   ·simp only [xG,ci];rw [aq (by decide)];show q < (List.replicate (max 1 outs.length) 0).length
    rw [bR]
    lia
 | first =>
  simp only at h;obtain ⟨⟨o,h1⟩,h2,h3⟩:=ok;simp only at h1 h2 h3 bl;subst h1
  split at h
  ·cases h
  ·rw [aC] at h;obtain ⟨q,hq,rfl⟩:=h;have hlt:=xF hq;refine ⟨λ j z=>by cases z;simp,λ j z=>by cases z;show q < outs.length;lia,(λ z=>nomatch z),(λ z=>nomatch z),sd,?_⟩;simp only [xG,ci];rw [aq (by decide)];show q < (List.replicate (max 1 outs.length) 0).length
   rw [bR]
   lia
 | sieve =>
  simp only at h;obtain ⟨⟨o,h1⟩,h2,_⟩:=ok;simp only at h1 h2 bl;subst h1
  split at h
  ·cases h
  ·generalize (if hs.getD 0 none=some (kinds.headD 0) then 0 else 1)=q at h;have q2:q=q:=rfl
   split at h
   ·rename_i hb;cases h;have hlt:q < outs.length:=by
     rcases Nat.lt_or_ge q bs.length with z|z
     ·lia
     ·rw [aT,cR z] at hb;cases hb
    refine ⟨λ j z=>by cases z;simp,λ j z=>by cases z;exact hlt,(λ z=>nomatch z),(λ z=>nomatch z),sd,?_⟩;simp only [xG,ci];rw [aq (by decide)];show q < (List.replicate (max 1 outs.length) 0).length
    rw [bR]
    lia
   ·cases h
 | joiner =>
  simp only at h;obtain ⟨⟨o,h1⟩,h2,h3⟩:=ok;simp only at h1 h2 h3 hl;subst h1
  split at h
  ·rw [aC] at h;obtain ⟨q,hq,rfl⟩:=h;have hlt:=xF hq;rw [ah] at hlt;refine ⟨λ j z=>by cases z;show q < ins.length;lia,λ j z=>by cases z;simp,λ _=>⟨q,rfl⟩,(λ z=>nomatch z),⟨cy _,(λ z=>nomatch z),λ _=>?_,λ _ z=>absurd rfl z⟩,?_⟩
   ·have:=cI (q + 1) (show 0 < hs.length by lia);show (((q + 1) % hs.length:Nat):Int) < ins.length
    lia
   ·simp only [xG,ci];rw [aA trivial];show q < (List.replicate (max ins.length 1) 0).length
    rw [bR]
    lia
  ·cases h
theorem WN {rs:As} {st:PSt} {r:Row} {fb:A9} (wf:stWf bs rs st) (mi:qc bs rs) (bo:∀ b∈bs,zF b.1 b.2) (ro:∀ r∈rs,r.ok) (hr:rs[k]?=some r) (hf:∀ b,fb=some b->b∈rgI bs.length) (hn:fb=none->r.wd=.source) :
  stWf bs rs (qE st k fb).2/\vx rs (qE st k fb).1:=by
 cases fb with
 | none =>
  refine ⟨wf,λ s n z=>?_⟩;have z:((k:Int),(st.gone.getD k []).headD 0)=(s,n):=aU z;cases z;refine iE2 k r (iA4 rfl hr (hn rfl) ?_);have hk:=(aa.mp hr).1;have hg:st.gone[k]?=some (st.gone.getD k []):=by
   rw [aT,ae (by rw [wf.go.1];exact hk)]
   rfl
  obtain ⟨q1,q2⟩:=wf.go.2 k r _ hr hg;have cp:=wF (ro r (ai hr));cases e:st.gone.getD k [] with
  | nil=>rw [e] at q1;simp at q1;lia
  | cons x xs=>exact q2 x (by rw [e];simp)
 | some b =>
  refine oE1 (xZ wf.co bo (hf b rfl)) λ i l9=>oA5 l9 λ m5 hi ei ne wk=>?_;clear l9;subst m5;refine ⟨⟨?_,wf.so,wf.go⟩,wk _ (zbI ne)⟩;show jQ bs rs (st.cells.set _ _)
  rw [aX];refine Z0 wf.co ei (by simp [QQ]) λ x hx=>?_;rcases ww hx with h|h
  ·exact wk x h
  ·rw [h];exact Zx
def Vt {rs:As} {st:PSt} {x:z8} {tb:A9} (wf:stWf bs rs st) (bo:∀ b∈bs,zF b.1 b.2) (hf:∀ b,tb=some b->b∈rgI bs.length) (hx:vx rs x):stWf bs rs (ZU st x tb):=by
 cases tb with
 | none=>exact wf
 | some b =>
  refine oE1 (xZ wf.co bo (hf b rfl)) λ i l9=>oA5 l9 λ m5 hi ei ne wk=>?_;clear l9;subst m5;refine ⟨?_,wf.so,wf.go⟩;show jQ bs rs (st.cells.set _ _)
  rw [aX];refine Z0 wf.co ei (by simp) λ z hz=>?_;rcases ww hz with h|h
  ·exact wk z h
  ·rw [h];exact hx
def zdb {rs:As} {sds:A6} {r:Row} {s:Int} (h:X7 rs sds) (hr:rs[k]?=some r) (hs:Zz r s):X7 rs (sds.set k s):=by
 refine ⟨by rw [cQ];exact h.1,λ j r2 s2 h1 h2=>?_⟩;by_cases hj:j=k
 ·subst hj;rw [bx (by rw [h.1];exact (aa.mp h1).1)] at h2;cases h2;rw [hr] at h1;cases h1;exact hs
 ·rw [bM (aZ hj)] at h2;exact h.2 j r2 s2 h1 h2
def jN {α:Type} {xs:List α} {d:α} (h:k < xs.length):xs[k]?=some (xs.getD k d):=by
 rw [aT,ae h];rfl
def zbU {g:A6} {j:Nat} (h:∀ x∈g,0<=x):(zcJ g j).length=g.length/\∀ x∈zcJ g j,0<=x:=by
 refine ⟨by simp [zcJ],λ x hx=>?_⟩;rcases ww hx with z|z
 ·exact h x z
 ·rw [z];have:0<=g.getD j 0:=by
   rw [aT];cases e:g[j]? with
   | none=>simp
   | some v=>exact h v (ai e)
  lia
def zfe {rs:As} {st:PSt} (wf:stWf bs rs st) (mi:qc bs rs) (bo:∀ b∈bs,zF b.1 b.2) (ro:∀ r∈rs,r.ok):stWf bs rs (wI rs st k).1:=by
 unfold wI;cases hr:rs[k]? with
 | none=>exact wf
 | some r =>
  simp only;have hk:=(aa.mp hr).1;have ok:=ro r (ai hr);have hsd:=wf.so.2 k r _ hr (jN (d:=0) (by rw [wf.so.1];exact hk));have hsd':Zz r ((st.sides.getD k 0).toNat:Int):=by rw [fo hsd.1];exact hsd
  cases hc:qD r (ja rs st.cells r) (xD st.cells r) st.turn (st.sides.getD k 0).toNat with
  | none=>exact wf
  | some ch =>
   refine oA6 (XN ok (by simp [ja]) (by simp [xD]) hsd' hc) λ c1 c2 c3 c4 c5 c6=>?_;have hfb:∀ b,jP r ch=some b->b∈rgI bs.length:=λ b hb=>by
    unfold jP at hb;obtain ⟨j,hj1,hj2⟩:=cA.mp hb;exact QD mi hr (ai hj2)
   have htb:∀ b,Zy r ch=some b->b∈rgI bs.length:=λ b hb=>by
    unfold Zy at hb;obtain ⟨j,hj1,hj2⟩:=cA.mp hb;exact Je mi hr (ai hj2)
   have hfn:jP r ch=none->r.wd=.source:=λ hb=>by
    cases e:ch.1 with
    | none=>exact c4 e
    | some j =>
     unfold jP at hb;rw [e] at hb;simp at hb;have:=c1 j e
     lia
   obtain ⟨w1,w2⟩:=WN wf mi bo ro hr hfb hfn;have w3:=Vt w1 bo htb w2;refine ⟨w3.co,zdb w3.so hr c5,?_⟩;have hg:=jN (xs:=(movedF r st k ch).gone) (k:=k) (d:=[]) (by rw [show (movedF r st k ch).gone.length=rs.length from w3.go.1];exact hk);obtain ⟨q1,q2⟩:=w3.go.2 k r _ hr hg;exact zdR w3.go hg (zbU q2).1 (zbU q2).2
def KnP.no {y C dx:Addr} {r:Row} {f:Str} (h:KnP a H p (.ref y) r) (hy:H y=some (.ins C dx fs)) (h1:f≠"ins") (h2:f≠"outs") (h3:f≠"pace") (h4:f≠"kinds") (h5:f≠"kind"):fs.lookup f=none:=by
 refine oE3 (Rep.ob' h) λ y' dx' fs' l9=>oA5 l9 λ e _ hy' _ g=>?_;clear l9;cases e;rw [hy] at hy';cases hy';exact g f (zdH h1 h2 h3 h4 h5)
def StO.offT {y:Addr} {n:SN} {st:PSt} (h:StO a H y n st) (t:zT H b):b ∉ y :: n.all:=by
 obtain ⟨xs,hx⟩:=t;intro hb;have no:∀ us,H b≠some (.lst us):=λ us e=>by rw [hx] at e;cases e
 unfold SN.all at hb;rcases az.mp hb with rfl|hb
 ·rw [h.hy] at hx;cases hx
 rcases az.mp hb with rfl|hb
 ·exact no _ h.hs
 rcases az.mp hb with rfl|hb
 ·exact no _ h.hc.out
 rcases az.mp hb with rfl|hb
 ·exact no _ h.hg.out
 rcases aF.mp hb with hb|hb
 ·obtain ⟨us,e⟩:=h.hc.isl (aB _ hb);exact no _ e
 ·obtain ⟨us,e⟩:=h.hg.isl (aB _ hb);exact no _ e
def StO.repT {H H':Hp} {y:Addr} {n:SN} {st:PSt} (h:StO a H y n st) (s:Fr (y :: n.all) H H') {d:D} (r:Rep H (zT H) v d):Rep H' (zT H') v d :=
 Rep.keep (λ b o hp hb=>⟨by obtain ⟨xs,hx⟩:=hp;exact ⟨xs,s _ _ (h.offT ⟨xs,hx⟩) hx⟩,s _ _ (h.offT hp) hb⟩) r
def zdK (ns:A6) (k:Nat) (x:Int):(iv ns).set k (.int x)=iv (ns.set k x):=by simp [iv]
def zcg {H H':Hp} {d:D} (r:Rep H (zT H) v d) (s:Same H H'):Rep H' (zT H') v d:=Rep.keep (λ b o ⟨xs,hx⟩ hb=>⟨⟨xs,s _ _ hx⟩,s _ _ hb⟩) r
inductive spAct (a:Ad) (vs:Ao) (H:Hp) (Q:VK) (E:XK):Prop
 | i (vw:V) (y:Addr) (n:SN) (st:PSt) (k:Nat) (bs:A1) (rs:As):vs=[vw,.ref y,.int k]->Rep H (Off (y :: n.all)) vw (qf a bs rs)->StO a H y n st->stWf bs rs st->qc bs rs->(∀ b∈bs,zF b.1 b.2)->(∀ r∈rs,r.ok)->k < rs.length->(∀ v H',Fr (y :: n.all) H H'->StO a H' y n (wI rs st k).1->Rep H' (zT H') v (zgo (wI rs st k).2)->Q v H')->spAct a vs H Q E
def zf0 (T:Txt K mg a) (F:Fun K "act" "act" Vk f fd):FnOk P w K mg base (CXr P w) 4 f fd ["work","state","number"] (spAct a):=by
 refine F.okx zfI ?_ ?_
 ·walk_at "i"
 walk_at "j";rcases h with ⟨vw,y,n,st,kn,bs,rs,rfl,hw,so,wf,mi,bo,ro,hk,k⟩;refine oE7 (qo hw) λ yw dw fw l1 l2 bvs me l9=>oA9 l9 λ m5 hyw ew1 ew2 hl1 hl2 hB hK no=>?_;clear l9;subst m5;obtain ⟨r,hr'⟩:∃ r,rs[kn]?=some r:=⟨rs[kn],ae hk⟩;have ok:=ro r (ai hr');have rl:=Za ok;obtain ⟨kv,hkv,hKn⟩:=QA hK hr';refine oE6 hKn.inv λ y1 dx1 m1 m2 m3 fs1 l9=>oA9 l9 λ m5 _ _ _ _ g0 f1 f2 mh=>oA5 mh λ _ g1 g2 _ _=>?_;clear l9 mh;subst m5;have fno:=hKn.no (f:="choice") g0 (by symm) (by symm) (by symm) (by symm) (by symm);have hsd:=wf.so.2 kn r _ hr' (jN (d:=0) (by rw [wf.so.1];exact hk));obtain ⟨side,esd⟩:∃ sd:Nat,st.sides.getD kn 0=sd:=⟨(st.sides.getD kn 0).toNat,(fo hsd.1).symm⟩;have hside:st.sides[kn]?=some (side:Int):=by rw [<- esd];exact jN (by rw [wf.so.1];exact hk)
 have hsd':Zz r (side:Int):=by rw [<- esd];exact hsd
 have esd':(st.sides.getD kn 0).toNat=side:=by rw [esd];rfl
 refine oA4 (sff_l (t:=st.turn) (lc:=n.lc) (ls:=n.ls) (lg:=n.lg)) λ lk1 lk2 lk3 lk4=>?_;have hAct:∀ x,qD r (ja rs st.cells r) (xD st.cells r) st.turn side=x->wI rs st kn=match x with|none=>(st,none)|some ch=>((VT r st kn ch).1,some (VT r st kn ch).2):=λ x e=>by
  unfold wI;rw [hr'];simp only;rw [esd',e]
  all_goals (cases x <;> rfl)
 walk_at "T";refine ⟨_,(zg (zo 3 zfI.nd (zt (zk (pq 0) rfl) (pq 2)))  (zg (Q6 (i:=4) zfI.nd rfl (Or.inl rfl) (vars:=["belt"]) (caps:=[1]) (N:=["belt","state"]) (ON:=["work","state","number","knot","free","chosen","from_belt","to_belt","ware"]) (osc:=ze Vk) rfl rfl (by right) rfl rfl (zX (zk (pq 3) rfl)) (λ _ _ _ _=>(qd 0 (show (["belt","state"]:A8).Nodup from by symm))) (λ _ _ _ _=>z6) (λ _ _ _ _=>(wQ op_isN (zt (zt (zk (pq 1) rfl) (pq 0)) zd) zz (zn _))))  (zg (zo 5 zfI.nd (zdm ⟨rfl,rfl,rfl⟩ hr (pq 3) (za ‹(pq 0) (za (pq 1) (za (pq 3) zb))› (za (pq 4) (za (zk (pq 1) rfl) (za (zt (zk (pq 1) rfl) (pq 2)) zb))))))  (zg (zx (zl qZ (pq 5) zz (zn _))  (zc (zj zz))  zm)  (zg (zo 6 zfI.nd ‹(zk (pq 3) rfl) (za (zt (pq 5) zd) zb)›)  (zg (zo 7 zfI.nd ‹(zk (pq 3) rfl) (za (zt (pq 5) zd) zb)›)  (zg (zo 8 zfI.nd ‹(pq 1) (za (pq 2) (za (pq 6) zb))›)  (zQ (zx (zl zbs (pq 7) zz (zn _))  (zc (Q7 (pq 8) (Ja (zt (zk (pq 1) rfl) (pq 7)) zd xy)))  zm)  (zg (Q7 (zt (pq 5) zd) (Ja (zk (pq 1) rfl) (pq 2) xy))  (zg (zeG (zt (zk (pq 1) rfl) (pq 2)) ‹(pq 3) (za (pq 5) zb)› zdV zd zgh xy)  (zc (zj (ji (za (pq 2) (za (pq 8) (za (pq 6) (za (pq 7) zb))))))))))))))))),?_⟩;exists ra hyw T.fG T.fF ew2 (zq (SqL.of hl2) (zL hkv) ?_);left;walk_at "d";exists ra g0 (CT T _) (NO T _) f2 ⟨m2,rfl,.inl ⟨⟨_,SqL.of g2⟩,λ _ _ _ _ mf hacc=>?_⟩⟩;refine qt (K:=K) (a:=m2) (xs:=iv r.outs) (λ i σ H'=>∃ (v0:Ap),σ=[v0,some (.ref y)]/\Same H H'/\H' mf=some (.lst (((xD st.cells r).take i).map V.bl))) ⟨_,iA3 rfl (zf hacc) (by rw [cq];exact mv)⟩ (λ i σ H' _ h=>by obtain ⟨_,_,s,_⟩:=h;exact SqL.of (s _ _ g2)) ?_ ?_
 ·intro i x σ H2 hi m8;refine oE1 m8 λ v0 l9=>oA3 l9 λ m5 s2 ha=>?_;ext;obtain ⟨b,hb,rfl⟩:=Zn hi;have hil:=(aa.mp hb).1;refine oE1 (xZ wf.co bo (Je mi hr' (ai hb))) λ j l9=>oA5 l9 λ m5 hj ej nej _=>?_;clear l9;subst m5;refine oE2 (so.cell ej) λ bC vs l9=>oA3 l9 λ hbC hvC rvC=>?_;clear l9;obtain ⟨c0,cs,ec⟩:∃ c0 cs,qb st.cells j=c0 :: cs:=cf nej;have hfr:(xD st.cells r)[i]?=some (decide (c0=none)):=by rw [xD,au,hb];simp [ec,zg5]
  rw [ec] at rvC;obtain ⟨v1,hv1,rv1⟩:=rvC.of (i:=0) (d:=qg c0) rfl;exists ra (s2 _ _ so.hy) T.ad T.fH lk1 (zq (SqL.of (s2 _ _ so.hc.out)) (zL (Zw hbC)) (zq (SqL.of (s2 _ _ hvC)) (zL (j:=0) hv1) ?_));left;have ev:decide (v1=V.non)=decide (c0=none):=by
   cases c0 with
   | none=>cases rv1;rfl
   | some x=>obtain ⟨t,us,rfl,_⟩:=Rep.tup' rv1;rfl
  rw [ev];refine ⟨_,iA3 ha (zi (by rw [ah,aW];lia)) ⟨_,iA3 rfl (λ b o hb=>by rw [mw (my hb hacc)];exact s2 b o hb) ?_⟩⟩;rw [mv,aR,hfr,a7]
  rfl
 intro σ H2 m8;refine oE1 m8 λ v0 l9=>oA3 l9 λ m5 s2 ha=>?_;ext;rw [zu,cM (by simp [xD])] at ha;exists iE7 y1 (xf a r.wd) dx1 fs1 _ _ _ (iA5 rfl (s2 _ _ g0) fno ((zdA T r.wd).mono) ?_);refine uc (zbh T).mono (spHeads.i _ _ _ bs rs st kn r _ _ rfl (j7 hw s2) ((so.same s2).rep) (j7 hKn s2) hr' mi bo ro wf.co (λ hl H3 s3 nhl hhl=>?_));have s23:=s2.trans s3;refine ra (s23 _ _ so.hy) T.ad T.fI lk4 ?_;refine ra (s23 _ _ so.hy) T.ad T.fN lk2 (zq (SqL.of (s23 _ _ so.hs)) (zL (wD hside)) ?_);refine iE5 y1 hl mf r _ (iE4 (ja rs st.cells r) (xD st.cells r) st.turn side (iA9 rfl (j7 hKn s23) rfl ok hhl (s3 _ _ ha) (by simp [ja]) (by simp [xD]) (λ vc H4 s4 tc=>?_)));have s24:=s23.trans s4;have so4:=so.same s24;have hKn4:=j7 hKn s24;left;cases hc:qD r (ja rs st.cells r) (xD st.cells r) st.turn side with
 | none =>
  rw [hc] at tc;have tc:vc=.non:=tc;subst tc;have e:=hAct _ hc;refine zA (λ _=>?_) (λ b=>absurd rfl b);exists k _ _ s24.fr ?_ ?_
  ·rw [e];exact so4
  ·rw [e];exact .non
 | some ch =>
  rw [hc] at tc;obtain ⟨ct,rfl,hct⟩:=tc;have e:=hAct _ hc;refine oA6 (XN ok (by simp [ja]) (by simp [xD]) hsd' hc) λ c1 c2 c3 c4 c5 c6=>?_;have hfb:∀ b,jP r ch=some b->b∈rgI bs.length:=λ b hb=>by
   unfold jP at hb;obtain ⟨j,hj1,hj2⟩:=cA.mp hb;exact QD mi hr' (ai hj2)
  have htb:∀ b,Zy r ch=some b->b∈rgI bs.length:=λ b hb=>by
   unfold Zy at hb;obtain ⟨j,hj1,hj2⟩:=cA.mp hb;exact Je mi hr' (ai hj2)
  have hfn:jP r ch=none->r.wd=.source:=λ hb=>by
   cases e:ch.1 with
   | none=>exact c4 e
   | some j =>
    unfold jP at hb;rw [e] at hb;simp at hb;have:=c1 j e
    lia
  obtain ⟨w1,w2⟩:=WN wf mi bo ro hr' hfb hfn;have w3:=Vt w1 bo htb w2;have hg0:=jN (xs:=st.gone) (k:=kn) (d:=[]) (by rw [wf.go.1];exact hk);obtain ⟨q1,q2⟩:=wf.go.2 kn r _ hr' hg0;have cp:=wF ok;obtain ⟨g0',gs,eg⟩:∃ g0 gs,st.gone.getD kn []=g0 :: gs:=cf λ z=>by rw [z] at q1;simp at q1;lia
  rw [eg] at hg0;refine zA (λ b=>by cases b) (λ _=>?_);exists uc (XR T).mono (ra (s24 _ _ g0) (CT T _) (NI T _) f1 (mB hct at0 ?_));refine iE3 m1 r.ins ch.1 (iA4 rfl (s24 _ _ g1) c1 ?_);exists uc (XR T).mono (ra (s24 _ _ g0) (CT T _) (NO T _) f2 (mB hct (show atI (chV ch) 1=some (w6 ch.2.1) from rfl) ?_));refine iE3 m2 r.outs ch.2.1 (iA4 rfl (s24 _ _ g2) c2 ?_);exists uc (WB T).mono (spTaken.i y n st kn (jP r ch) g0' gs rfl so4 hg0 (λ b hb=>?_) (λ v5 H5 f5 so5 rv5=>?_))
  ·refine oE1 (xZ wf.co bo (hfb b hb)) λ i l9=>oA5 l9 λ e1 _ e2 e3 _=>?_;clear l9;exact ⟨i,iA3 e1 e2 e3⟩
  have hct5:=f5 _ _ (so4.offT ⟨_,hct⟩) hct;have hKn5:=hKn4.fr f5;have fr5:=(s24.fr (ms:=y :: n.all)).trans f5;rw [show (ch.1.bind λ j=>r.ins[j]?)=jP r ch from rfl,show (ch.2.1.bind λ j=>r.outs[j]?)=Zy r ch from rfl];exists cut (λ σ' H'=>σ'=[some (.ref yw),some (.ref y),some (.int kn),some (.ref y1),some (.ref mf),some (.ref ct),some (hdV (jP r ch)),some (hdV (Zy r ch)),some v5]/\Fr (y :: n.all) H5 H'/\StO a H' y n (movedF r st kn ch)) ?_ ?_
  ·have w4:=λ b (hb:Zy r ch=some b)=>xZ w1.co bo (htb b hb);unfold movedF;generalize Zy r ch=tb at w4 ⊢;left;cases tb with
   | none =>
    refine zA (λ b=>absurd rfl b) (λ _=>?_);left;exact ⟨.refl,so5⟩
   | some b =>
    refine oE1 (w4 b rfl) λ i l9=>oA5 l9 λ m5 _ e2 e3 _=>?_;clear l9;subst m5;refine oE2 (so5.cell e2) λ bC vs l9=>oA3 l9 λ hbC hvC rvC=>?_;clear l9;have lv:vs.length=(qb (qE st kn (jP r ch)).2.cells i).length:=by rw [rvC.len,ah]
    have lp:0 < vs.length:=by rw [lv];exact dF.mpr e3
    refine zA (λ _=>?_) (λ b=>absurd (λ z=>by cases z) b);exists ra so5.hy T.ad T.fH sff_l.1 (zq (SqL.of so5.hc.out) (zL (Zw hbC)) ?_);exists wN (j:=0) hvC (Jw (by decide) (by simpa using lp)) ?_;refine ⟨qx (WG hbC),?_⟩;have:=so5.putC hbC (c':=(qb (qE st kn (jP r ch)).2.cells i).set 0 (qE st kn (jP r ch)).1) (by rw [eP];exact Reps.set rvC 0 rv5);simpa [ZU] using this
  rintro σ H6 ⟨rfl,f6,so6⟩;have hct6:=f6 _ _ (so5.offT ⟨_,hct5⟩) hct5;have hKn6:=hKn5.fr f6;have rv6:=so5.repT f6 rv5;have fr6:=fr5.trans f6;exists mB hct6 (show atI (chV ch) 2=some (.int ch.2.2) from rfl) ?_;exists ra so6.hy T.ad T.fN sff_l.2.1 (wN so6.hs (Jw (cy _) (by rw [zu,show (movedF r st kn ch).sides.length=rs.length from w3.so.1];exact Int.ofNat_lt.mpr hk)) ?_);rw [aX,zdK];have so7:=so6.putS (s':=(movedF r st kn ch).sides.set kn ch.2.2);have f7:Fr (y :: n.all) H6 (upd H6 n.ls (.lst (iv ((movedF r st kn ch).sides.set kn ch.2.2)))):=qx (by simp [SN.all]);have hct7:=f7 _ _ (so6.offT ⟨_,hct6⟩) hct6;have hKn7:=hKn6.fr f7;have rv7:=so6.repT f7 rv6;have fr7:=fr6.trans f7;generalize upd H6 n.ls (.lst (iv ((movedF r st kn ch).sides.set kn ch.2.2)))=H7 at so7 hct7 hKn7 rv7 fr7 ⊢;have hg7:=jN (xs:=(movedF r st kn ch).gone) (k:=kn) (d:=[]) (by rw [show (movedF r st kn ch).gone.length=rs.length from w3.go.1];exact hk);obtain ⟨p1,p2⟩:=w3.go.2 kn r _ hr' hg7;obtain ⟨bG,hbG,hgG⟩:=so7.goneL hg7;have e0:VT r st kn ch=({ movedF r st kn ch with sides:=(movedF r st kn ch).sides.set kn ch.2.2,gone:=(movedF r st kn ch).gone.set kn (zcJ ((movedF r st kn ch).gone.getD kn []) (xG r ch)) },⟨kn,(qE st kn (jP r ch)).1,jP r ch,Zy r ch⟩):=rfl;have so8:=so7.putG (g':=zcJ ((movedF r st kn ch).gone.getD kn []) (xG r ch)) hbG;generalize (movedF r st kn ch).gone.getD kn []=g at *;have hcp:xG r ch < g.length:=by rw [p1];exact c6
  left;unfold zfi;exists ra so7.hy T.ad T.fQ sff_l.2.2.1 (zq (SqL.of so7.hg.out) (zL (zbX hbG)) ?_);exists uc (Qv T).mono (spCounted.i _ ct r ch _ rfl hKn7 hct7 c3 ?_);refine iE4 bG _ (xG r ch) _ (iA6 rfl rfl (SqL.of hgG) (cy _) (zL (wD (jN (d:=0) hcp))) ?_);exists wN hgG (Jw (cy _) (by rw [zu];exact Int.ofNat_lt.mpr hcp)) ?_;rw [aX,zdK];have f8:Fr (y :: n.all) H7 (upd H7 bG (.lst (iv (g.set (xG r ch) (g.getD (xG r ch) 0 + 1))))):=qx (zfc hbG);have rv8:=so7.repT f8 rv7;change StO a (upd H7 bG (.lst (iv (g.set (xG r ch) (g.getD (xG r ch) 0 + 1))))) y n _ at so8;have fr8:=fr7.trans f8;generalize e8:upd H7 bG (.lst (iv (g.set (xG r ch) (g.getD (xG r ch) 0 + 1))))=H8 at so8 f8 rv8 fr8 ⊢;left;intro t ht;refine k _ _ (fr8.trans (za6 ht)) ?_ ?_
  ·rw [e];simp only;rw [e0];exact so8.same (zf ht)
  ·rw [e];simp only;rw [e0];exact Reps.mkT (vs:=[.int kn,v5,hdV (jP r ch),hdV (Zy r ch)]) (.cons .int (.cons (zcg rv8 (zf ht)) (.cons (zbn _) (.cons (zbn _) .nil)))) ⟨_,mv⟩ mv
def zg3 (T:Txt K mg a):Cal P w K mg base "act" 4 ["work","state","number"] [] (spAct a):=T.l7.cal (zf0 T)
noncomputable def zW (rs:As) (st:PSt):Nat->PSt × List Move
 | 0=>(st,[])
 | i + 1=>((wI rs (zW rs st i).1 i).1,(zW rs st i).2 ++ (wI rs (zW rs st i).1 i).2.toList)
theorem wY {bs:A1} {rs:As} {st:PSt} (wf:stWf bs rs st) (mi:qc bs rs) (bo:∀ b∈bs,zF b.1 b.2) (ro:∀ r∈rs,r.ok):∀ i,stWf bs rs (zW rs st i).1
 | 0=>wf
 | i + 1=>zfe (wY wf mi bo ro i) mi bo ro
theorem JL (rs:As) (st:PSt):∀ i,(zW rs st i).2.length<=i
 | 0=>ap _
 | i + 1=>by
  have:=JL rs st i;show ((zW rs st i).2 ++ (wI rs (zW rs st i).1 i).2.toList).length<=i + 1
  rw [aM];cases (wI rs (zW rs st i).1 i).2 with
  | none=>exact Nat.le_succ_of_le this
  | some _=>exact Nat.succ_le_succ this
section
variable {H H':Hp} {y:Addr} {n:SN} {st:PSt}
def StO.offN (h:StO a H y n st) (e:H b=none):b ∉ y :: n.all:=by
 have no:∀ o,H b≠some o:=λ o z=>by rw [e] at z;cases z
 intro hb;unfold SN.all at hb;rcases az.mp hb with rfl|hb
 ·exact no _ h.hy
 rcases az.mp hb with rfl|hb
 ·exact no _ h.hs
 rcases az.mp hb with rfl|hb
 ·exact no _ h.hc.out
 rcases az.mp hb with rfl|hb
 ·exact no _ h.hg.out
 rcases aF.mp hb with hb|hb
 ·obtain ⟨us,z⟩:=h.hc.isl (aB _ hb);exact no _ z
 ·obtain ⟨us,z⟩:=h.hg.isl (aB _ hb);exact no _ z
def StO.out {M:Addr} {us vs:Ao} (h:StO a H y n st) (e:H M=some (.lst us)) (nM:M ∉ y :: n.all):StO a (upd H M (.lst vs)) y n st:=by
 have k:∀ c o,c≠M->H c=some o->upd H M (.lst vs) c=some o:=λ c o nc hc=>by rw [mw nc];exact hc
 have kt:∀ c,zT H c->c≠M:=λ c ⟨xs,hx⟩ z=>by rw [z,e] at hx;cases hx
 refine ⟨k _ _ (λ z=>nM (by rw [<- z];simp)) h.hy,h.hc.tup λ c o hz hc=>k c o (λ z=>?_) hc,k _ _ (λ z=>nM (by rw [<- z];simp [SN.all])) h.hs,h.hg.tup λ c o hz hc=>k c o (λ z=>?_) hc,h.nd⟩
 ·rcases hz with rfl|hz|hz
  ·exact nM (by rw [<- z];simp [SN.all])
  ·exact nM (by rw [<- z];simp [SN.all,hz])
  ·exact kt c hz z
 ·rcases hz with rfl|hz|hz
  ·exact nM (by rw [<- z];simp [SN.all])
  ·exact nM (by rw [<- z];simp [SN.all,hz])
  ·exact kt c hz z
def StO.repsT (h:StO a H y n st) (s:Fr (y :: n.all) H H') {ds:List D} (r:Reps H (zT H) vs ds):Reps H' (zT H') vs ds :=
 ⟨r.len,λ i v d h1 h2=>h.repT s (r.g i v d h1 h2)⟩
def Vo {M:Addr} {us vs:Ao} (e:H M=some (.lst us)) {d:D} (r:Rep H (zT H) v d):Rep (upd H M (.lst vs)) (zT (upd H M (.lst vs))) v d :=
 Rep.keep (λ b o hp hb=>⟨Qw e hp,by obtain ⟨xs,hx⟩:=hp;rw [mw (λ z=>by rw [z,e] at hx;cases hx)];exact hb⟩) r
def zcf {M:Addr} {us vs:Ao} (e:H M=some (.lst us)) {ws:Ao} {ds:List D} (r:Reps H (zT H) ws ds):Reps (upd H M (.lst vs)) (zT (upd H M (.lst vs))) ws ds :=
 ⟨r.len,λ i v d h1 h2=>Vo e (r.g i v d h1 h2)⟩
end
inductive spActAll (a:Ad) (vs:Ao) (H:Hp) (Q:VK) (E:XK):Prop
 | i (vw:V) (y:Addr) (n:SN) (st:PSt) (bs:A1) (rs:As):vs=[vw,.ref y]->Rep H (Off (y :: n.all)) vw (qf a bs rs)->StO a H y n st->stWf bs rs st->qc bs rs->(∀ b∈bs,zF b.1 b.2)->(∀ r∈rs,r.ok)->(∀ l us H',Fr (y :: n.all) H H'->StO a H' y n (zW rs st rs.length).1->H l=none->l ∉ y :: n.all->H' l=some (.lst us)->Reps H' (zT H') us ((zW rs st rs.length).2.map XM)->Q (.ref l) H')->spActAll a vs H Q E
theorem zcE (T:Txt K mg a):Cal P w K mg base "act_all" 5 ["work","state"] [] (spActAll a):=T.kY.cal λ F=>by
 refine F.okx zar ?_ ?_
 ·walk_at "i"
 walk_at "j";rcases h with ⟨vw,y,n,st,bs,rs,rfl,hw,so,wf,mi,bo,ro,k⟩;refine oE7 (qo hw) λ yw dw fw l1 l2 bvs me l9=>oA9 l9 λ m5 hyw ew1 ew2 hl1 hl2 hB hK no=>?_;clear l9;subst m5;have lk:me.length=rs.length:=hK.len;have r24:=mi.1.2.2;walk_at "T";refine ⟨_,(zh (zo 2 zar.nd (zC zb))  (zQ (qq qS rfl (wu (za (zy zN zJ (za (zk (pq 0) rfl) zb)) zb)) (qd 3 zar.nd)  (zh (zo 4 zar.nd ‹(pq 0) (za (pq 1) (za (pq 3) zb))›)  (zc (zx (zl zbs (pq 4) zz (zn _))  (zc (zp (qk am ax aw zE (pq 2) (za (pq 4) zb))))  zm))))  (zc (zj (pq 2))))),?_⟩;left;intro M hM;have nM:=so.offN hM;have s1:=zf (o:=.lst []) hM;have hM1:upd H M (.lst []) M=some (.lst []):=mv;generalize upd H M (.lst [])=H1 at s1 hM1 ⊢;exists cut (λ σ' H'=>∃ (v3 v4:Ap) (us:Ao),σ'=[some (.ref yw),some (.ref y),some (.ref M),v3,v4]/\Fr (y :: n.all) H H'/\StO a H' y n (zW rs st rs.length).1/\H' M=some (.lst us)/\Reps H' (zT H') us ((zW rs st rs.length).2.map XM)) ?_ ?_
 ·walk_at "e";exists ra (s1 _ _ hyw) T.fG T.fF ew2 ?_;refine ⟨_,.inl ⟨_,SqL.of (s1 _ _ hl2),rfl⟩,?_⟩;rw [lk];exists ⟨by lia,by lia,?_⟩;refine Z9 (n:=(rs.length:Int).toNat) (λ i σ H'=>∃ (v3 v4:Ap) (us:Ao),σ=[some (.ref yw),some (.ref y),some (.ref M),v3,v4]/\Fr (y :: n.all) H H'/\StO a H' y n (zW rs st i).1/\H' M=some (.lst us)/\Reps H' (zT H') us ((zW rs st i).2.map XM)) (iE3 _ _ _ (iA5 rfl s1.fr (so.same s1) hM1 (.nil))) ?_ (λ σ H' h=>?_)
  ·intro i σ H2 hi m8;refine oE3 m8 λ v3 v4 us l9=>oA5 l9 λ m5 f2 so2 hM2 r2=>?_;ext;have hi:i < rs.length:=by simpa using hi
   have al:=JL rs st i;have lu:us.length=(zW rs st i).2.length:=by rw [r2.len,ah]
   left;simp only [Int.zero_add];refine uc (zg3 T).mono (spAct.i (.ref yw) y n _ i bs rs rfl (hw.fr f2) so2 (wY wf mi bo ro i) mi bo ro hi (λ v H3 f3 so3 rv=>?_));have f23:=f2.trans f3;have hM3:=f3 _ _ nM hM2;have r3:=so2.repsT f3 r2;have eA:zW rs st (i + 1)=((wI rs (zW rs st i).1 i).1,(zW rs st i).2 ++ (wI rs (zW rs st i).1 i).2.toList):=rfl;left;cases e:(wI rs (zW rs st i).1 i).2 with
   | none =>
    rw [e] at rv eA;cases rv;refine zA (λ b=>absurd rfl b) (λ _=>?_);rw [eA];exact iE3 _ _ _ (iA5 rfl f23 so3 hM3 (by rw [show (none:Option Move).toList=[] from rfl,bH];exact r3))
   | some m =>
    rw [e] at rv eA;refine zA (λ _=>?_) (λ b=>?_)
    ·exists ⟨.inl ⟨rfl,_,SqL.of hM3⟩,iE3 M _ _ (iA5 rfl rfl hM3 (zi (by lia)) (iE3 _ _ _ (iA5 rfl (λ b o nb hb=>by rw [mw (my hb hM)];exact f23 b o nb hb) ?_ mv ?_)))⟩
     ·rw [eA];exact so3.out hM3 nM
     ·rw [eA];show Reps _ _ _ (List.map XM ((zW rs st i).2 ++ [m]))
      rw [a7];exact (zcf hM3 r3).append (Reps.one (Vo hM3 rv))
    ·exfalso;refine b λ z=>?_;subst z;cases rv
  ·have e:((rs.length:Int)).toNat=rs.length:=by simp
   rw [e] at h;exact h
 intro σ' H2 m8;refine oE3 m8 λ v3 v4 us l9=>oA5 l9 λ m5 f2 so2 hM2 r2=>?_;ext;left;exact k _ _ _ f2 so2 hM nM hM2 r2
noncomputable def wv (c:Au) (p:Nat):List z8:=if c.getD (p + 1) none=none then (c.set (p + 1) (c.getD p none)).set p none else c
noncomputable def Xa (c:Au):Nat->List z8
 | 0=>c
 | k + 1=>wv (Xa c k) (c.length - 2 - k)
noncomputable def zfn (c:Au):List z8:=Xa c (c.length - 1)
def zaR {c:Au} {p:Nat}:(wv c p).length=c.length:=by
 unfold wv
 split <;> simp
theorem Jk {c:Au}:∀ k,(Xa c k).length=c.length
 | 0=>rfl
 | k + 1=>by rw [Xa,zaR,Jk k]
def zaQ {c:Au} {p:Nat} {x:z8} (h:x∈wv c p):x∈c\/x=none:=by
 unfold wv at h
 split at h
 ·rcases ww h with h|h
  ·rcases ww h with h|h
   ·exact .inl h
   ·rw [aT] at h;cases e:c[p]? with
    | none=>rw [e] at h;exact .inr h
    | some y=>rw [e] at h;exact .inl (by rw [h];exact ai e)
  ·exact .inr h
 ·exact .inl h
theorem VD {c:Au} {x:z8}:∀ k,x∈Xa c k->x∈c\/x=none
 | 0=>λ h=>.inl h
 | k + 1=>λ h=>by
  rcases zaQ h with h|h
  ·exact VD k h
  ·exact .inr h
def zcU (h:H b=some o):upd H b o=H:=by
 funext x
 by_cases e:x=b
 ·rw [e,mv,h]
 ·rw [mw e]
def WJ {x:z8} (r:Rep H p v (qg x)):v=.non ↔ x=none:=by
 cases x with
 | none=>cases r;simp
 | some x=>obtain ⟨t,us,rfl,_⟩:=Rep.tup' r;simp
def atD {xs:Au} {p:Nat} (h:p < xs.length):xs[p]?=some (xs.getD p none):=jN h
def zah:Sp:=λ vs H Q _=>∃ (b:Addr) (us:Ao) (c:Au),vs=[.ref b]/\H b=some (.lst us)/\Reps H (zT H) us (c.map qg)/\c.length<=100/\∀ us',Reps H (zT H) us' ((zfn c).map qg)->Q .non (upd H b (.lst us'))
def V2 (T:Txt K mg a):Cal P w K mg base "move_belt" 1 ["cells"] [] zah:=T.ko.cal λ F=>by
 refine F.okx Wa ?_ ?_
 ·walk_at "i"
 walk_at "j";refine oE3 h λ b us c l9=>oA5 l9 λ m5 hb rb lc k=>?_;clear l9 h;subst m5;have lu:us.length=c.length:=by rw [rb.len,ah]
 walk_at "T";refine ⟨_,(zc (qq qS rfl (zfR (za (zw Wm (zy zN zJ (za (pq 0) zb)) zd) (za (vd xr zd) (za (vd xr zd) zb)))) (qd 1 Wa.nd)  (zc (zx (zl qZ (zt (pq 0) (zw zP (pq 1) zd)) zz (zn _))  (zh (Q7 (zt (pq 0) (pq 1)) (Ja (pq 0) (zw zP (pq 1) zd) xy))  (zc (Q7 zz (Ja (pq 0) (pq 1) xy))))  zm)))),?_⟩;left;walk_at "e";exists ⟨_,.inl ⟨_,SqL.of hb,rfl⟩,?_⟩;rw [lu];exists iE2 _ _ (iA3 rfl (iA4 (by lia) (by lia) (by lia) (by lia)) ?_);rw [show ((c.length:Int) - 2 - -1).toNat=c.length - 1 by lia];refine zgV (K:=K) (λ i σ H'=>∃ (v1:Ap) (us':Ao),σ=[some (.ref b),v1]/\H'=upd H b (.lst us')/\Reps H (zT H) us' ((Xa c i).map qg)) (iE2 _ us (iA3 rfl ((zcU hb).symm) rb)) ?_ ?_
 ·intro i σ H' hi m8;refine oE2 m8 λ v1 us' l9=>oA3 l9 λ m5 mh r1=>?_;clear l9 m8;subst m5 mh;have lm:=Jk (c:=c) i;have l1:us'.length=c.length:=by rw [r1.len,ah,lm]
  obtain ⟨p,hp⟩:∃ p,c.length - 2 - i=p:=⟨_,rfl⟩;have ep:(c.length:Int) - 2 - i=p:=by lia
  have hp1:p + 1 < c.length:=by lia
  rw [ep];have eS:Xa c (i + 1)=wv (Xa c i) p:=by rw [Xa,hp]
  rw [eS];generalize Xa c i=m at r1 lm ⊢;have m0:m[p]?=some (m.getD p none):=atD (by lia);have m1:m[p + 1]?=some (m.getD (p + 1) none):=atD (by lia);obtain ⟨u0,hu0,ru0⟩:=r1.of (i:=p) (d:=qg (m.getD p none)) (by rw [au,m0];rfl);obtain ⟨u1,hu1,ru1⟩:=r1.of (i:=p + 1) (d:=qg (m.getD (p + 1) none)) (by rw [au,m1];rfl);have e1:((p:Int) + 1)=((p + 1:Nat):Int):=by lia
  left;rw [e1];refine zq (SqL.of mv) (zL hu1) ?_;exists zA (λ z=>?_) (λ z=>?_)
  ·have z:=(WJ ru1).mp z;exists zq (SqL.of mv) (zL hu0) ?_;exists wN mv (Jw (by lia) (by lia)) ?_;exists wN mv (Jw (by lia) (by simp;lia)) ?_;rw [vV,vV];refine iE2 _ _ (iA3 rfl rfl ?_);unfold wv;rw [aA z,eP,eP,aX,aX];exact Reps.set (Reps.set r1 _ ru0) _ .non
  ·have z:m.getD (p + 1) none≠none:=λ y=>z ((WJ ru1).mpr y);exists iE2 _ us' (iA3 rfl rfl ?_);unfold wv;rw [aq z];exact r1
 ·intro σ H' m8;refine oE2 m8 λ v1 us' l9=>oA3 l9 λ m5 mh r1=>?_;clear l9 m8;subst m5 mh;exact k _ r1
noncomputable def qW (bs:A1) (t:Int) (cs:At):Nat->List Au
 | 0=>cs
 | i + 1=>if t % (bs.getD i (0,1)).2=0 then (qW bs t cs i).set i (zfn ((qW bs t cs i).getD i [])) else qW bs t cs i
theorem vR {bs:A1} {rs:As} {t:Int} {cs:At} (h:jQ bs rs cs):∀ i,jQ bs rs (qW bs t cs i)
 | 0=>h
 | i + 1=>by
  have ih:=vR h i (t:=t);rw [qW]
  split
  ·generalize qW bs t cs i=ds at ih ⊢;cases e:ds[i]? with
   | none=>rw [List.set_eq_of_length_le (c7.mp e)];exact ih
   | some c =>
    have ec:ds.getD i []=c:=by rw [aT,e];rfl
    rw [ec];have hi:i < bs.length:=by rw [<- ih.1];exact (aa.mp e).1
    refine Z0 ih e (Jk _) λ x hx=>?_;rcases VD _ hx with hx|hx
    ·exact (ih.2 i _ c (ae hi) e).2 x hx
    ·rw [hx];exact Zx
  ·exact ih
noncomputable def passF (bs:A1) (rs:As) (st:PSt):PSt × List Move:=({ (zW rs st rs.length).1 with turn:=(zW rs st rs.length).1.turn + 1,cells:=qW bs (zW rs st rs.length).1.turn (zW rs st rs.length).1.cells bs.length },(zW rs st rs.length).2)
def zdo {rs:As} {st:PSt} (wf:stWf bs rs st) (mi:qc bs rs) (bo:∀ b∈bs,zF b.1 b.2) (ro:∀ r∈rs,r.ok):stWf bs rs (passF bs rs st).1:=by
 have w:=wY wf mi bo ro rs.length;exact ⟨vR w.co _,w.so,w.go⟩
def StO.ney {y:Addr} {n:SN} {st:PSt} (h:StO a H y n st):y ∉ n.all:=λ z=>by
 have hy:=h.hy;have c:∀ vs,H y≠some (.lst vs):=λ vs z=>by rw [hy] at z;cases z
 simp only [SN.all,az,aF] at z;rcases z with z|z|z|z|z
 ·exact c _ (by rw [z];exact h.hs)
 ·exact c _ (by rw [z];exact h.hc.out)
 ·exact c _ (by rw [z];exact h.hg.out)
 ·obtain ⟨vs,hv⟩:=h.hc.isl (aB _ z);exact c _ hv
 ·obtain ⟨vs,hv⟩:=h.hg.isl (aB _ z);exact c _ hv
def StO.putT {y:Addr} {n:SN} {st:PSt} {t:Int} (h:StO a H y n st):StO a (upd H y (.ins a.l n.dx (sff t n.lc n.ls n.lg))) y n { st with turn:=t }:=by
 have ny:=h.ney;have tn:∀ b,zT H b->b≠y:=λ b ⟨xs,hx⟩ z=>by rw [z,h.hy] at hx;cases hx
 simp only [SN.all,az,aF,not_or] at ny;refine oA5 ny λ n1 n2 n3 n4 n5=>?_;clear ny;refine ⟨mv,h.hc.tup λ b o c hb=>?_,?_,h.hg.tup λ b o c hb=>?_,h.nd⟩
 ·rw [mw ?_]
  ·exact hb
  ·rcases c with rfl|c|c
   ·exact aZ n2
   ·exact λ z=>n4 (by rw [<- z];exact c)
   ·exact tn b c
 ·rw [mw (aZ n1)];exact h.hs
 ·rw [mw ?_]
  ·exact hb
  ·rcases c with rfl|c|c
   ·exact aZ n3
   ·exact λ z=>n5 (by rw [<- z];exact c)
   ·exact tn b c
def zaa {rs:As} (h:Rep H p v (qf a bs rs)):∃ y dx fs l1 bvs,v=.ref y/\p y/\H y=some (.ins a.u dx fs)/\fs.lookup ("belts":Str)=some (.ref l1)/\p l1/\H l1=some (.lst bvs)/\Bts a H p bvs bs:=by
 refine oE3 (Rep.ob' h) λ y dx fs l9=>oA5 l9 λ m5 py hy g1 g2=>?_;clear l9;subst m5;obtain ⟨u1,e1,r1⟩:=g1 _ _ WH;refine oE2 r1.lst' λ l1 bvs l9=>oA4 l9 λ m5 pl h1 b1=>?_;clear l9;subst m5;exact iE5 y dx fs l1 bvs (iA7 rfl py hy e1 pl h1 (.of b1))
theorem zgE {t u:Int} {lc ls lg:Addr}:z5 "turn" (.int u) (sff t lc ls lg)=sff u lc ls lg:=rfl
def zc3 (a:Ad):Sp:=λ vs H Q _=>∃ (vw:V) (y:Addr) (n:SN) (st:PSt) (bs:A1) (rs:As),vs=[vw,.ref y]/\Rep H (Off (y :: n.all)) vw (qf a bs rs)/\StO a H y n st/\stWf bs rs st/\qc bs rs/\(∀ b∈bs,zF b.1 b.2)/\(∀ r∈rs,r.ok) /\
 ∀ l us H',Fr (y :: n.all) H H'->StO a H' y n (passF bs rs st).1->H l=none->l ∉ y :: n.all->H' l=some (.lst us)->Reps H' (zT H') us ((passF bs rs st).2.map XM)->Q (.ref l) H'
def Wn (T:Txt K mg a) (F:Fun K "pass_turn" "pass_turn" xh f fd):FnOk P w K mg base (CXr P w) 6 f fd ["work","state"] (zc3 a):=by
 refine F.okx X8 ?_ ?_
 ·walk_at "i"
 walk_at "j";refine oE6 h λ vw y n st bs rs l9=>oA8 l9 λ m5 hw so wf mi bo ro k=>?_;clear l9 h;subst m5;have b24:=mi.1.1.2;walk_at "T";refine ⟨_,(zg (zo 2 X8.nd ‹(pq 0) (za (pq 1) zb)›)  (zQ (qq qS rfl (qQ (za (zk (pq 0) rfl) zb)) (ZV (n:=2) rfl (qz (qd 3 X8.nd) (qz (qd 4 X8.nd) wP)))  (zc (zx (zl (qA hr.units1) (zw qa (zk (pq 1) rfl) (zk (pq 4) rfl)) zd (zn _))  (zc (zp ‹(zt (zk (pq 1) rfl) (pq 3)) zb›))  zm)))  (zg (zck (pq 1) zd zgi)  (zc (zj (pq 2)))))),?_⟩;exists uc (zcE T).mono (spActAll.i vw y n st bs rs rfl hw so wf mi bo ro (λ l us H1 f1 so1 nl nl' hl rl=>?_));have wA:=wY wf mi bo ro rs.length;have hw1:=hw.fr f1;refine oE5 (zaa hw1) λ yw dw fw l1 bvs l9=>oA7 l9 λ m5 _ hyw ew1 pl1 hl1 hB=>?_;clear l9;subst m5;have lb:bvs.length=bs.length:=hB.len;generalize hA:zW rs st rs.length=A at so1 rl wA;refine oA4 (sff_l (t:=A.1.turn) (lc:=n.lc) (ls:=n.ls) (lg:=n.lg)) λ lk1 lk2 lk3 lk4=>?_;left;let mj:St->Hp->Prop:=λ σ' H'=>∃ (v3 v4:Ap),σ'=[some (.ref yw),some (.ref y),some (.ref l),v3,v4]/\Fr (y :: n.all) H1 H'/\StO a H' y n { A.1 with cells:=qW bs A.1.turn A.1.cells bs.length };refine cut mj ?_ ?_
 ·walk_at "e";exists ra hyw T.fG T.fJ ew1 (iE2 l1 _ (iA3 rfl hl1 ?_));let ml:Nat->St->Hp->Prop:=λ i σ H'=>∃ (v3 v4:Ap),σ=[some (.ref yw),some (.ref y),some (.ref l),v3,v4]/\Fr (y :: n.all) H1 H'/\StO a H' y n { A.1 with cells:=qW bs A.1.turn A.1.cells i };refine XH (K:=K) (a:=l1) (xs:=bvs) ml (iE2 _ _ (iA3 rfl Fr.refl so1)) (λ i σ H' _ h=>by obtain ⟨_,_,_,f,_⟩:=h;exact SqL.of (f _ _ pl1 hl1)) ?_ ?_
  ·intro i x t σ H2 hi ht m8;refine oE2 m8 λ v3 v4 l9=>oA3 l9 λ m5 f2 so2=>?_;ext;obtain ⟨b,hb',hBt⟩:=hB.at hi;refine oE3 hBt.inv λ y1 dx1 fs1 l9=>oA5 l9 λ m5 py1 g0 _ e2=>?_;clear l9;subst m5;have g02:=f2 _ _ py1 g0;have hil:=(aa.mp hb').1;have bk:=bo b (ai hb');have f3:=f2.trans (za6 (ms:=y :: n.all) (o:=.tup [.int i,.ref y1]) ht);have so3:=so2.same (zf (o:=.tup [.int i,.ref y1]) ht);have g03:=mz (o:=.tup [.int i,.ref y1]) g02 ht;refine un2 mv ?_;generalize upd H2 t (.tup [.int i,.ref y1])=H3 at f3 so3 g03 ⊢;have eb:bs.getD i (0,1)=b:=by rw [aT,hb'];rfl
   have co:=vR (t:=A.1.turn) wA.co i;have hc:=jN (xs:=qW bs A.1.turn A.1.cells i) (d:=[]) (show i < _ by rw [co.1];exact hil);refine oE2 (so3.cell hc) λ bC vs l9=>oA3 l9 λ hbC hvC rvC=>?_;clear l9;have lc:=(co.2 i b _ hb' hc).1;have b1:=bk.1;have b2:=bk.2.1;have b3:=bk.2.2.1;exists ra so3.hy T.ad T.fI lk4 ?_;refine ra g03 T.gq T.fY e2 ?_;exists zA (λ z=>?_) (λ z=>?_)
   ·exists uc (V2 T).mono ?_;refine ra so3.hy T.ad T.fH lk1 (zq (SqL.of so3.hc.out) (zL (Zw hbC)) ?_);refine iE3 bC vs _ (iA5 rfl hvC rvC (by lia) (λ us' r'=>?_));refine iE2 _ _ (iA3 rfl (f3.trans (qx (WG hbC))) ?_);have:=so3.putC hbC r';rw [qW,eb,aA z];exact this
   ·refine iE2 _ _ (iA3 rfl f3 ?_);rw [qW,eb,aq z];exact so3
  ·intro σ H2 m8;refine oE2 m8 λ v3 v4 l9=>oA3 l9 λ m5 f2 so2=>?_;ext;rw [lb] at so2;exact iE2 _ _ (iA3 rfl f2 so2)
 intro σ' H2 m8;refine oE2 m8 λ v3 v4 l9=>oA3 l9 λ m5 f2 so2=>?_;ext;exists ⟨y,?_⟩;refine iE4 a.l n.dx _ _ (iA6 rfl so2.hy T.ad T.fI lk4 ?_);refine iE2 _ 1 (iA3 rfl rfl (iE2 n.dx _ (iA3 so2.hy (show 4 < 1000 by decide) ?_)));rw [zgE];have f3:=f2.trans (qx (x:=y) (o:=.ins a.l n.dx (sff (A.1.turn + 1) n.lc n.ls n.lg)) (by simp));exists k l us _ (f1.trans f3) (by rw [passF,hA];exact so2.putT) nl nl' (f3 _ _ nl' hl) (by rw [passF,hA];exact so1.repsT f3 rl)
def V0 (T:Txt K mg a):Cal P w K mg base "pass_turn" 6 ["work","state"] [] (zc3 a):=T.kq.cal (Wn T)
def zc8 (a:Ad):Sp:=λ vs H Q _=>∃ (v:V) (st:PSt) (p:A5),vs=[v]/\Rep H p v (xY a st)/\st.cells.length<=100/\st.gone.length<=100/\∀ v' H',Same H H'->StNew a H H' v' st->Q v' H'
def JH (T:Txt K mg a):Cal P w K mg base "copied_state" 3 ["state"] [] (zc8 a):=T.iB.cal λ F=>by
 refine F.okx Qh ?_ ?_
 ·walk_at "i"
 walk_at "j";refine oE3 h λ v st p l9=>oA5 l9 λ m5 hs lc lg k=>?_;clear l9 h;subst m5;refine oE3 (Rep.ob' hs) λ y dx fs l9=>oA5 l9 λ m5 py hy g1 g2=>?_;clear l9;subst m5;obtain ⟨u1,e1,r1⟩:=g1 _ _ (WP st);obtain ⟨u2,e2,r2⟩:=g1 _ _ (Xn st);obtain ⟨u3,e3,r3⟩:=g1 _ _ (Xm st);obtain ⟨u4,e4,r4⟩:=g1 _ _ (WQ st);cases r1;walk_at "T";refine ⟨_,(zc (zj (qh (x:="State") ⟨rfl,rfl,rfl⟩ hr (za (zk (pq 0) rfl) (za (zk (pq 0) rfl) (za (zk (pq 0) rfl) (za (zk (pq 0) rfl) zb))))))),?_⟩;exists iE4 a.l _ _ _ ⟨(zby T).mono,iE5 y a.l dx fs _ (iA6 rfl hy T.ad T.fI e1 ?_)⟩;refine ra hy T.ad T.fH e2 ?_;refine ra hy T.ad T.fN e3 ?_;refine ra hy T.ad T.fQ e4 ?_;exact VG T (st:=st) r2 r3 r4 lc lg λ y' H' s' sn=>k _ _ s' sn
inductive spOneTurn (a:Ad) (vs:Ao) (H:Hp) (Q:VK) (E:XK):Prop
 | i (vw v:V) (st:PSt) (bs:A1) (rs:As) (p:A5):vs=[vw,v]->Rep H (Off []) vw (qf a bs rs)->Rep H p v (xY a st)->stWf bs rs st->qc bs rs->(∀ b∈bs,zF b.1 b.2)->(∀ r∈rs,r.ok)->(∀ v' H',Same H H'->StNew a H H' v' (passF bs rs st).1->Q v' H')->spOneTurn a vs H Q E
def JF (T:Txt K mg a):Cal P w K mg base "one_turn" 7 ["work","state"] [] (spOneTurn a):=T.kJ.cal λ F=>by
 refine F.okx Vd ?_ ?_
 ·walk_at "i"
 walk_at "j";rcases h with ⟨vw,v,st,bs,rs,p,rfl,hw,hv,wf,mi,bo,ro,k⟩;have b24:=mi.1.1.2;have r24:=mi.1.2.2;walk_at "T";refine ⟨_,(zh (zo 2 Vd.nd ‹(pq 1) zb›)  (zh (zp ‹(pq 0) (za (pq 2) zb)›)  (zc (zj (pq 2))))),?_⟩;exists uc (JH T).mono (iE3 v st p (iA5 rfl hv (by rw [wf.co.1];lia) (by rw [wf.go.1];lia) (λ v' H1 s1 sn=>?_)));refine oE2 sn λ y n l9=>oA5 l9 λ m5 so1 ny nd nn=>?_;clear l9 sn;subst m5;have na:∀ b∈y :: n.all,H b=none:=λ b hb=>by
  rcases az.mp hb with rfl|hb
  ·exact ny
  ·exact nn b hb
 have hw1:Rep H1 (Off (y :: n.all)) vw (qf a bs rs):=j7 (hw.more (ns:=y :: n.all) λ b hb=>.inr (na b hb)) s1;exists uc (V0 T).mono (iE6 vw y n st bs rs (iA8 rfl hw1 so1 wf mi bo ro (λ l us H2 f2 so2 _ _ _ _=>?_)));left;exact k _ _ (λ b o hb=>f2 b o (λ z=>by rw [na b z] at hb;cases hb) (s1 b o hb)) (iE2 y n (iA5 rfl so2 ny nd nn))
noncomputable def jn (bs:A1) (rs:As):Nat->PSt
 | 0=>qy bs rs
 | n + 1=>(passF bs rs (jn bs rs n)).1
def zd1 {rs:As} (ro:∀ r∈rs,r.ok):stWf bs rs (qy bs rs):=by
 refine ⟨⟨by simp [qy],λ i b c h1 h2=>?_⟩,⟨by simp [qy],λ i r s h1 h2=>?_⟩,⟨by simp [qy],λ i r g h1 h2=>?_⟩⟩
 ·simp only [qy,au,h1,Option.map_some,Option.some.injEq] at h2;subst h2;refine ⟨by simp,λ x hx=>?_⟩;rw [(cx.mp hx).2];exact Zx
 ·have hs:=ai h2;have e:s=0:=(cx.mp hs).2;subst e;have ok:=ro r (ai h1);obtain ⟨wd,ins,outs,pc,ks⟩:=r;refine iA4 (by decide) (λ hw=>?_) (λ hw=>?_) (λ _ _=>rfl)
  ·simp only at hw;subst hw;have:=ok.2.1;simp only at this ⊢
   lia
  ·simp only at hw;subst hw;have:=ok.2.1;simp only at this ⊢
   lia
 ·simp only [qy,au,h1,Option.map_some,Option.some.injEq] at h2;subst h2;refine ⟨rfl,λ n hn=>?_⟩;rw [(cx.mp hn).2];decide
theorem Ze {bs:A1} {rs:As} (mi:qc bs rs) (bo:∀ b∈bs,zF b.1 b.2) (ro:∀ r∈rs,r.ok):∀ n,stWf bs rs (jn bs rs n)
 | 0=>zd1 ro
 | n + 1=>zdo (Ze mi bo ro n) mi bo ro
def WW:Sp:=λ vs H Q _=>∃ a b:Int,vs=[.int a,.int b]/\0<=a/\0<=b/\Q (.int (Int.gcd a b:Int)) H
def zcp (F:Fun K "common" "common" vY f fd):FnOk P w K mg base (CXr P w) 1 f fd ["one","other"] WW:=by
 refine F.okx zb7 ?_ ?_
 ·walk_at "i"
 walk_at "k";obtain ⟨a,b,rfl,ha,hb,k⟩:=h;refine ⟨_,(zh (zo 2 zb7.nd (pq 0))  (zh (zo 3 zb7.nd (pq 1))  (zh (zdj qS (zl Xs (pq 3) zd (zn _))  (zh (zo 4 zb7.nd (zw qa (pq 2) (pq 3)))  (zh (zo 2 zb7.nd (pq 3))  (zc (zo 3 zb7.nd (pq 4))))))  (zc (zj (pq 2)))))),?_⟩;walk_at "r";refine ⟨λ m σ H'=>∃ p r v,σ=[some (.int a),some (.int b),some (.int p),some (.int r),v]/\H'=H/\0<=p/\0<=r/\Int.gcd p r=Int.gcd a b/\m=r.toNat,⟨_,a,b,none,rfl,rfl,ha,hb,rfl,rfl⟩,?_⟩;rintro m σ H' ⟨p,r,v,rfl,rfl,hp,hr',hg,rfl⟩;walk_at "r";refine zA (λ h=>?_) (λ h=>?_)
 ·refine zhh ?_;have h1:=aH p (show r≠0 by lia);have h2:=aD p h;exact ⟨h,_,by lia,r,p % r,_,rfl,rfl,hr',h1,(zdW hp h).trans hg,rfl⟩
 ·have e:r=0:=by lia
  subst e;have e2:=ze2 hp;rw [hg] at e2;rw [<- e2];exact k
def Pac (ns:A6):Prop:=∀ n∈ns,0 < n/\n<=1000000000000
def Pac.nil:Pac []:=λ _ h=>nomatch h
def Pac.snoc (h:Pac ns) (h1:0 < n) (h2:n<=1000000000000):Pac (ns ++ [n]):=λ k hk=>by
 rcases aF.mp hk with z|z
 ·exact h k z
 ·rw [ay.mp z];exact ⟨h1,h2⟩
def Pac.at (h:Pac ns) {x:V} (e:(ns.map V.int)[i]?=some x):∃ n,x=.int n/\0 < n/\n<=1000000000000/\n∈ns/\ns.take (i + 1)=ns.take i ++ [n]:=by
 rw [au,aC] at e;obtain ⟨n,hn,rfl⟩:=e;have hm:=ai hn;refine ⟨n,iA5 rfl ((h n hm).1) ((h n hm).2) hm ?_⟩;rw [fu,hn]
 rfl
def zb4 (K:A0):Sp:=λ vs H Q _=>∃ (l:Addr) (ns:A6),vs=[.ref l]/\SqL K H l (ns.map V.int)/\Pac ns/\∀ L,IsLcm ns L->Q (.int L) H
def zd5 (T:Txt K mg a):Cal P w K mg base "common" 1 ["one","other"] [] WW:=T.lE.cal zcp
def zcD (T:Txt K mg a):Cal P w K mg base "lasting" 2 ["paces"] [] (zb4 K):=T.kZ.cal λ F=>by
 refine F.okx zao ?_ ?_
 ·walk_at "i"
 walk_at "k";refine oE2 h λ l ns l9=>oA4 l9 λ m5 hl hn k=>?_;clear l9 h;subst m5;refine ⟨_,(zh (zo 1 zao.nd zd)  (zh (qq qS rfl (zX (pq 0)) (qd 2 zao.nd)  (zc (zo 1 zao.nd (zw Ji (zw zeN (pq 1) ‹(pq 1) (za (pq 2) zb)›) (pq 2)))))  (zc (zj (pq 1))))),?_⟩;left;walk_at "e";refine ⟨l,rfl,.inl ⟨⟨_,hl⟩,?_⟩⟩;refine qt (K:=K) (a:=l) (xs:=ns.map V.int) (λ i σ H'=>∃ (m:Int) (v:Ap),σ=[some (V.ref l),some (V.int m),v]/\H'=H/\IsLcm (ns.take i) m) (iE2 1 none (iA3 rfl rfl IsLcm.nil)) (λ i σ H' _ ⟨_,_,_,e,_⟩=>e ▸ hl) ?_ ?_
 ·intro i x σ H1 hi m8;refine oE2 m8 λ m v l9=>oA3 l9 λ m5 mh hm=>?_;clear l9 m8;subst m5 mh;refine oE1 (hn.at hi) λ p l9=>oA5 l9 λ m5 p0 p1 _ ht=>?_;clear l9;subst m5;walk_at "r";have g0:(0:Int) < (Int.gcd m p:Int):=by have:=zbE (a:=m) (b:=p) (by lia);lia
  have g1:(Int.gcd m p:Int)<=p:=Wu p0;refine iE3 _ _ _ ⟨zd5 T,⟨m,p,rfl,cV hm.pos,cV p0,?_⟩⟩;walk_at "r";refine ⟨fd_ok g0 ?_,mul_okR (by lia) (by lia),?_⟩
  ·have:(1000000000000:Nat) < 2 ^ 8999:=by symm
   lia
  ·rw [fdiv_pos g0,ht];exact iE2 _ _ ⟨rfl,hm.step p0⟩
 ·intro σ H1 m8;refine oE2 m8 λ m v l9=>oA3 l9 λ m5 mh hm=>?_;clear l9 m8;subst m5 mh;rw [ah,aV] at hm;walk_at "r";exact k m hm
theorem IsLcm.ex:∀ {ns:A6},Pac ns->∃ L,IsLcm ns L:=λ {ns} h=>by
 have:∀ k,k<=ns.length->∃ L,IsLcm (ns.take k) L:=λ k=>by
  induction k with
  | zero=>exact λ _=>⟨1,IsLcm.nil⟩
  | succ k ih =>
   intro hk;obtain ⟨L,hL⟩:=ih (by lia);have e:ns.take (k + 1)=ns.take k ++ [ns[k]]:=by rw [fu,ae (by lia)];rfl
   rw [e];exact ⟨_,hL.step (h _ (dR _)).1⟩
 have:=this ns.length (ap _)
 rwa [aV] at this
def zgQ (T:Txt K mg a) (wd:Wd):kitOne K (.ref (xf a wd)) (.ref a.p)=some (decide (wd=.drain)):=by
 cases wd
 ·exact T.ir
 ·exact T.iH
 ·exact T.iu
 ·exact T.gy
 ·exact T.iI
 ·exact T.iw
noncomputable def qJ (wd:Wd) (rs:As) (n:Nat):List Int:=((List.range n).filter λ i=>decide (rs[i]?.map Row.wd=some wd)).map λ (i:Nat)=>(i:Int)
def jd {rs:As} {n:Nat} {r:Row} (h:rs[n]?=some r):qJ wd rs (n + 1)=qJ wd rs n ++ if r.wd=wd then [(n:Int)] else []:=by
 unfold qJ;rw [d7,List.filter_append,a7]
 congr 1
 by_cases e:r.wd=wd <;> simp [h,e]
noncomputable def zB (wd:Wd) (rs:As):List Int:=qJ wd rs rs.length
def jq (wd:Wd) (rs:As) (n:Nat):(qJ wd rs n).length<=n:=by
 unfold qJ;rw [ah];exact bc (List.length_filter_le _ _) (by simp)
def Zi {rs:As} {m:Int} (h:m∈zB wd rs):∃ (i:Nat) (r:Row),m=i/\rs[i]?=some r/\r.wd=wd:=by
 unfold zB qJ at h;obtain ⟨i,hi,rfl⟩:=aP.mp h;rw [b7] at hi;have h2:=br hi.2;rw [aC] at h2;obtain ⟨r,h3,h4⟩:=h2;exact iE2 i r (iA3 rfl h3 h4)
def Vz {rs:As} {r:Row} (h:rs[i]?=some r) (hw:r.wd=wd):(i:Int)∈zB wd rs:=by
 unfold zB qJ;refine aP.mpr ⟨i,b7.mpr ⟨bu.mpr (aa.mp h).1,?_⟩,rfl⟩;rw [h];exact bF (by rw [<- hw];rfl)
def zc5 (a:Ad) (wd:Wd):Sp:=λ vs H Q _=>∃ (v:V) (bs:A1) (rs:As) (p:A5),vs=[v]/\Rep H p v (qf a bs rs)/\rs.length<=100/\∀ q H',Same H H'->H q=none->H' q=some (.lst (iv (zB wd rs)))->Q (.ref q) H'
def Xb (T:Txt K mg a):MCal P w K mg base a.u "drains" 1 ["self"] [] (zc5 a .drain):=T.iS.cal T.fG λ F=>by
 refine F.okx QU ?_ ?_
 ·walk_at "i"
 walk_at "j";refine oE4 h λ v bs rs p l9=>oA4 l9 λ m5 hv l100 k=>?_;clear l9 h;subst m5;refine oE7 (qo hv) λ y dx fs l1 l2 bvs me l9=>oA9 l9 λ m5 hy e1 e2 h1 h2 hB hK no=>?_;clear l9;subst m5;walk_at "T";refine ⟨_,(zc (zj (xb (vars:=["number","knot"]) (caps:=[]) (N:=["number","knot"]) (ON:=["self"]) (osc:=ze js) rfl rfl (by right) rfl rfl (qQ (za (zk (pq 0) rfl) zb)) (λ _ _ _ _=>(ZV (n:=2) rfl (qz (qd 0 (show (["number","knot"]:A8).Nodup from by symm)) (qz (qd 1 (show (["number","knot"]:A8).Nodup from by symm)) wP)))) (λ _ _ _ _=>(zbo (zK (zy qr zr (za (pq 1) (za qC zb))) (λ _=>rfl)))) (λ _ _ _ _=>(pq 0))))),?_⟩;left;walk_at "d";exists ra hy T.fG T.fF e2 (iE2 l2 _ (iA3 rfl h2 (λ _ _ _ _ mf hacc=>?_)));refine XH (K:=K) (a:=l2) (xs:=me) (λ i σ H'=>∃ (v0 v1:Ap),σ=[v0,v1]/\Same H H'/\H' mf=some (.lst (iv (qJ .drain rs i)))) (iE2 _ _ (iA3 rfl (zf hacc) mv)) (λ i σ H' _ h=>by obtain ⟨_,_,_,s,_⟩:=h;exact SqL.of (s _ _ h2)) ?_ ?_
 ·intro i x t σ H' hi ht m8;refine oE2 m8 λ v0 v1 l9=>oA3 l9 λ m5 s7 e1'=>?_;ext;obtain ⟨r,hr',hKn⟩:=hK.at hi;refine oE6 hKn.inv λ y1 dx1 m1 m2 m3 fs1 l9=>oA9 l9 λ m5 _ _ _ _ g0 f1 f2 mh=>oA5 mh λ _ g1 g2 _ _=>?_;clear l9 mh;subst m5;have hil:=(aa.mp hr').1;have s8:=s7.trans (zf (o:=.tup [.int i,.ref y1]) ht);have e8:=mz (o:=.tup [.int i,.ref y1]) e1' ht;refine un2 mv ?_;generalize upd H' t (.tup [.int i,.ref y1])=H8 at s8 e8 ⊢;exists iE2 (.ref a.p) _ (iA3 T.kh rfl (iE4 _ _ _ _ (iA4 rfl ((WT T r.wd).ty (CT T r.wd) (s8 _ _ g0)) (.inl ⟨_,rfl,zgQ T r.wd⟩) ?_)));exists zA (λ b=>?_) (λ b=>?_)
  ·refine ⟨_,iA3 e8 (zi (by have:=jq .drain rs i;rw [zu];lia)) (iE2 _ _ (iA3 rfl (λ b o hb=>by rw [mw (my hb hacc)];exact s8 b o hb) ?_))⟩;rw [mv,jd hr',aA b,qw]
  ·exact iE2 _ _ (iA3 rfl s8 (by rw [jd hr',aq b,bH];exact e8))
 intro σ H2 m8;refine oE2 m8 λ v0 v1 l9=>oA3 l9 λ m5 s2 ha=>?_;ext;rw [hK.len] at ha;exact k _ _ s2 hacc ha
def wx (T:Txt K mg a):MCal P w K mg base a.u "sources" 1 ["self"] [] (zc5 a .source):=T.iG.cal T.fG λ F=>by
 refine F.okx Qi ?_ ?_
 ·walk_at "i"
 walk_at "j";refine oE4 h λ v bs rs p l9=>oA4 l9 λ m5 hv l100 k=>?_;clear l9 h;subst m5;refine oE7 (qo hv) λ y dx fs l1 l2 bvs me l9=>oA9 l9 λ m5 hy e1 e2 h1 h2 hB hK no=>?_;clear l9;subst m5;walk_at "T";refine ⟨_,(zc (zj (xb (vars:=["number","knot"]) (caps:=[]) (N:=["number","knot"]) (ON:=["self"]) (osc:=ze jf) rfl rfl (by right) rfl rfl (qQ (za (zk (pq 0) rfl) zb)) (λ _ _ _ _=>(ZV (n:=2) rfl (qz (qd 0 (show (["number","knot"]:A8).Nodup from by symm)) (qz (qd 1 (show (["number","knot"]:A8).Nodup from by symm)) wP)))) (λ _ _ _ _=>(zbo (zK (zy qr zr (za (pq 1) (za qC zb))) (λ _=>rfl)))) (λ _ _ _ _=>(pq 0))))),?_⟩;left;walk_at "d";exists ra hy T.fG T.fF e2 (iE2 l2 _ (iA3 rfl h2 (λ _ _ _ _ mf hacc=>?_)));refine XH (K:=K) (a:=l2) (xs:=me) (λ i σ H'=>∃ (v0 v1:Ap),σ=[v0,v1]/\Same H H'/\H' mf=some (.lst (iv (qJ .source rs i)))) (iE2 _ _ (iA3 rfl (zf hacc) mv)) (λ i σ H' _ h=>by obtain ⟨_,_,_,s,_⟩:=h;exact SqL.of (s _ _ h2)) ?_ ?_
 ·intro i x t σ H' hi ht m8;refine oE2 m8 λ v0 v1 l9=>oA3 l9 λ m5 s7 e1'=>?_;ext;obtain ⟨r,hr',hKn⟩:=hK.at hi;refine oE6 hKn.inv λ y1 dx1 m1 m2 m3 fs1 l9=>oA9 l9 λ m5 _ _ _ _ g0 f1 f2 mh=>oA5 mh λ _ g1 g2 _ _=>?_;clear l9 mh;subst m5;have hil:=(aa.mp hr').1;have s8:=s7.trans (zf (o:=.tup [.int i,.ref y1]) ht);have e8:=mz (o:=.tup [.int i,.ref y1]) e1' ht;refine un2 mv ?_;generalize upd H' t (.tup [.int i,.ref y1])=H8 at s8 e8 ⊢;exists iE2 (.ref a.o) _ (iA3 T.gC rfl (iE4 _ _ _ _ (iA4 rfl ((WT T r.wd).ty (CT T r.wd) (s8 _ _ g0)) (.inl ⟨_,rfl,zeX T r.wd⟩) ?_)));exists zA (λ b=>?_) (λ b=>?_)
  ·refine ⟨_,iA3 e8 (zi (by have:=jq .source rs i;rw [zu];lia)) (iE2 _ _ (iA3 rfl (λ b o hb=>by rw [mw (my hb hacc)];exact s8 b o hb) ?_))⟩;rw [mv,jd hr',aA b,qw]
  ·exact iE2 _ _ (iA3 rfl s8 (by rw [jd hr',aq b,bH];exact e8))
 intro σ H2 m8;refine oE2 m8 λ v0 v1 l9=>oA3 l9 λ m5 s2 ha=>?_;ext;rw [hK.len] at ha;exact k _ _ s2 hacc ha
def x9 (bs:A1) (rs:As) (n:Int):Prop:=(∃ b∈bs,b.2=n)\/∃ r∈rs,(r.wd=.source\/r.wd=.drain)/\r.pace=n/\0 < n
def Q3 {r:Row} (h:r.ok) (hw:r.wd=.source\/r.wd=.drain):0<=r.pace/\r.pace<=4:=by
 obtain ⟨wd,ins,outs,pc,ks⟩:=r;rcases hw with hw|hw
 ·simp only at hw;subst hw;have h1:=h.2.2.1;have h2:=h.2.2.2.1;simp only at h1 h2;exact ⟨by show 0<=pc;lia,h2⟩
 ·simp only at hw;subst hw;exact ⟨h.2.2.1,h.2.2.2⟩
def zfF (a:Ad):Sp:=λ vs H Q _=>∃ (v:V) (bs:A1) (rs:As) (p:A5),vs=[v]/\Rep H p v (qf a bs rs)/\bs.length<=100/\rs.length<=100/\(∀ b∈bs,zF b.1 b.2)/\(∀ r∈rs,r.ok) /\
 ∀ L ns H',IsLcm ns L->(∀ n,n∈ns ↔ x9 bs rs n)->Same H H'->Q (.int L) H'
def VJ (T:Txt K mg a):MCal P w K mg base a.u "beat" 3 ["self"] [] (zfF a):=T.kz.cal T.fG λ F=>by
 refine F.okx Wc ?_ ?_
 ·walk_at "i"
 walk_at "j";refine oE4 h λ v bs rs p l9=>oA7 l9 λ m5 hv lb lr bo ro k=>?_;clear l9 h;subst m5;have hv0:=hv;refine oE7 (qo hv) λ y dx fs l1 l2 bvs me l9=>oA9 l9 λ m5 hy e1 e2 h1 h2 hB hK no=>?_;clear l9;subst m5;walk_at "T";refine ⟨_,(zh (Q6 (i:=1) Wc.nd rfl (Or.inl rfl) (vars:=["belt"]) (caps:=[]) (N:=["belt"]) (ON:=["self","paces","number","pace"]) (osc:=ze xk) rfl rfl (by right) rfl rfl (zX (zk (pq 0) rfl)) (λ _ _ _ _=>(qd 0 (show (["belt"]:A8).Nodup from by symm))) (λ _ _ _ _=>z6) (λ _ _ _ _=>(zk (pq 0) rfl)))  (zh (qq qS rfl (zX (zw zP (Qz ⟨rfl,rfl,rfl⟩ hr (pq 0)) (Qz ⟨rfl,rfl,rfl⟩ hr (pq 0)))) (qd 2 Wc.nd)  (zh (zo 3 Wc.nd (zk (zt (zk (pq 0) rfl) (pq 2)) rfl))  (zc (zx (zl Xs (pq 3) zd (zn _))  (zc (zp (qk am ax aw zE (pq 1) (za (pq 3) zb))))  zm))))  (zc (zj ‹(pq 1) zb›)))),?_⟩;left;walk_at "d";exists ra hy T.fG T.fJ e1 ⟨l1,rfl,.inl ⟨⟨_,SqL.of h1⟩,λ _ _ _ _ mf hacc=>?_⟩⟩;let mj:Nat->St->Hp->Prop:=λ i σ H'=>∃ (v0:Ap),σ=[v0]/\Same H H'/\H' mf=some (.lst (iv ((bs.take i).map (·.2))));refine qt (K:=K) (a:=l1) (xs:=bvs) mj ⟨_,iA3 rfl (zf hacc) (by rw [cq];exact mv)⟩ (λ i σ H' _ h=>by obtain ⟨_,_,s,_⟩:=h;exact SqL.of (s _ _ h1)) ?_ ?_
 ·intro i x σ H' hi m8;refine oE1 m8 λ v0 l9=>oA3 l9 λ m5 s7 e7=>?_;ext;obtain ⟨b,hr',hBt⟩:=hB.at hi;refine oE3 hBt.inv λ y1 dx1 fs1 l9=>oA5 l9 λ m5 _ g0 f1 f2=>?_;clear l9;subst m5;have hil:=(aa.mp hr').1;exists ra (s7 _ _ g0) T.gq T.fY f2 ?_;refine ⟨_,iA3 e7 (zi (by rw [zu,ah,aW];lia)) ⟨_,iA3 rfl (λ b o hb=>by rw [mw (my hb hacc)];exact s7 b o hb) ?_⟩⟩;rw [mv,aR,hr',a7,qw]
  rfl
 intro σ H2 m8;refine oE1 m8 λ v0 l9=>oA3 l9 λ m5 s2 ha=>?_;ext;rw [hB.len,aV] at ha;left;walk_at "e";exists iE7 y a.u dx fs _ _ _ (iA5 rfl (s2 _ _ hy) (no _ (by symm) (by symm)) ((wx T).mono) ?_);refine iE4 _ bs rs p (iA4 rfl (hv0.keep λ b o pb hb=>⟨pb,s2 _ _ hb⟩) lr (λ q1 H3 s3 n1 hq1=>?_));refine iE7 y a.u dx fs _ _ _ (iA5 rfl (s3 _ _ (s2 _ _ hy)) (no _ (by symm) (by symm)) ((Xb T).mono) ?_);refine iE4 _ bs rs p (iA4 rfl (hv0.keep λ b o pb hb=>⟨pb,s3 _ _ (s2 _ _ hb)⟩) lr (λ q2 H4 s4 n2 hq2=>?_));have l3:=jq .source rs rs.length;have l4:=jq .drain rs rs.length;refine Wj (SqL.of (s4 _ _ hq1)) (SqL.of hq2) (wK (by rw [zu,zu];show (qJ _ _ _).length + (qJ _ _ _).length<=_;lia)) λ q3 hq3=>?_;rw [zaY];have s5:Same H (upd H4 q3 (.lst (iv (zB .source rs ++ zB .drain rs)))):=((s2.trans s3).trans s4).trans (zf hq3);have ha5:upd H4 q3 (.lst (iv (zB .source rs ++ zB .drain rs))) mf=some (.lst (iv (bs.map (·.2)))):=mz (s4 _ _ (s3 _ _ ha)) hq3;have hq5:upd H4 q3 (.lst (iv (zB .source rs ++ zB .drain rs))) q3=some (.lst (iv (zB .source rs ++ zB .drain rs))):=mv;have nq:q3≠mf:=(my (s4 _ _ (s3 _ _ ha)) hq3).symm;have hq0:H q3=none:=zM ((s2.trans s3).trans s4) hq3;generalize upd H4 q3 (.lst (iv (zB .source rs ++ zB .drain rs)))=H5 at s5 ha5 hq5 ⊢;refine ⟨q3,rfl,.inl ⟨⟨_,SqL.of hq5⟩,?_⟩⟩;let ml:Nat->St->Hp->Prop:=λ i σ H'=>∃ (v2 v3:Ap) (ns:A6),σ=[some (.ref y),some (.ref mf),v2,v3]/\Same H H'/\H' q3=some (.lst (iv (zB .source rs ++ zB .drain rs)))/\H' mf=some (.lst (iv ns))/\Pac ns/\ns.length<=bs.length + i/\∀ n,n∈ns ↔ n∈bs.map (·.2)\/∃ (m:Nat) (r:Row),(m:Int)∈(zB .source rs ++ zB .drain rs).take i/\rs[m]?=some r/\r.pace=n/\0 < n;refine qt (K:=K) (a:=q3) (xs:=iv (zB .source rs ++ zB .drain rs)) ml
  ⟨_,_,bs.map (·.2),rfl,s5,hq5,ha5,?_,by simp,?_⟩ (λ i σ H' _ h=>by obtain ⟨_,_,_,_,_,h,_⟩:=h;exact SqL.of h) ?_ ?_
 ·intro n hn;obtain ⟨b,hb,rfl⟩:=aP.mp hn;have:=bo b hb;exact ⟨by have:=this.2.2.1;lia,by have:=this.2.2.2;lia⟩
 ·intro n;simp
 ·intro i x σ H6 hi m8;refine oE3 m8 λ v2 v3 ns l9=>oA7 l9 λ m5 s6 hq6 ha6 pn ln mem=>?_;ext;obtain ⟨m,hm,rfl⟩:=Zn hi;have hmm:=ai hm;have hil:=(aa.mp hm).1;have hlen:(zB .source rs ++ zB .drain rs).length<=200:=by
   rw [aM];show (qJ _ _ _).length + (qJ _ _ _).length<=_
   lia
  obtain ⟨j,r,rfl,hr',hw⟩:∃ (j:Nat) (r:Row),m=j/\rs[j]?=some r/\(r.wd=.source\/r.wd=.drain):=by
   rcases aF.mp hmm with z|z
   ·obtain ⟨j,r,q1,q2,q3⟩:=Zi z;exact ⟨j,r,q1,q2,.inl q3⟩
   ·obtain ⟨j,r,q1,q2,q3⟩:=Zi z;exact ⟨j,r,q1,q2,.inr q3⟩
  have hp:=Q3 (ro r (ai hr')) hw;obtain ⟨kv,hkv,hKn⟩:∃ kv,me[j]?=some kv/\KnP a H p kv r:=by
   have hj:=(aa.mp hr').1;have e:me[j]?=some (me[j]'(by rw [hK.len];exact hj)):=ae _;exact ⟨_,e,hK.g j _ r e hr'⟩
  refine oE6 hKn.inv λ y1 dx1 m1 m2 m3 fs1 l9=>oA9 l9 λ m5 _ _ _ _ g0 _ _ mh=>oA5 mh λ _ _ _ _ fp=>?_;clear l9 mh;subst m5;exists ra (s6 _ _ hy) T.fG T.fF e2 (zq (SqL.of (s6 _ _ h2)) (zL hkv) ?_);have NP:NoAttr K (xf a r.wd) "pace":=by
   rcases hw with z|z
   ·rw [z];exact T.fS
   ·rw [z];exact T.fR
  refine iE5 y1 (xf a r.wd) dx1 fs1 _ (iA6 rfl (s6 _ _ g0) (CT T _) NP (fp hw) ?_);left;have tk:(zB .source rs ++ zB .drain rs).take (i + 1)=(zB .source rs ++ zB .drain rs).take i ++ [(j:Int)]:=by rw [aR,hm];rfl
  refine zA (λ b=>?_) (λ b=>?_)
  ·exists ⟨.inl ⟨rfl,_,SqL.of ha6⟩,iE3 mf _ _ (iA5 rfl rfl ha6 (zi (by rw [zu];lia)) ?_)⟩;rw [qw];refine iE3 _ _ (ns ++ [r.pace]) (iA7 rfl (λ b o hb=>by rw [mw (my hb hacc)];exact s6 b o hb) (by rw [mw nq];exact hq6) mv (pn.snoc b (by lia)) (by simp;lia) (λ n=>?_));rw [aF,mem n,ay,tk];constructor
   ·rintro ((h|⟨m',r',h1,h2,h3,h4⟩)|h)
    ·exact .inl h
    ·exact .inr (iE2 m' r' (iA4 (bj _ h1) h2 h3 h4))
    ·subst h;exact .inr (iE2 j r (iA4 (a5 _ (ay.mpr rfl)) hr' rfl b))
   ·rintro (h|⟨m',r',h1,h2,h3,h4⟩)
    ·exact .inl (.inl h)
    ·rcases aF.mp h1 with h1|h1
     ·exact .inl (.inr (iE2 m' r' (iA4 h1 h2 h3 h4)))
     ·have e:m'=j:=by have:=ay.mp h1;lia
      subst e;rw [hr'] at h2;cases h2;exact .inr h3.symm
  ·refine iE3 _ _ ns (iA7 rfl s6 hq6 ha6 pn (by lia) (λ n=>?_));rw [mem n,tk];constructor
   ·rintro (h|⟨m',r',h1,h2,h3,h4⟩)
    ·exact .inl h
    ·exact .inr (iE2 m' r' (iA4 (bj _ h1) h2 h3 h4))
   ·rintro (h|⟨m',r',h1,h2,h3,h4⟩)
    ·exact .inl h
    ·rcases aF.mp h1 with h1|h1
     ·exact .inr (iE2 m' r' (iA4 h1 h2 h3 h4))
     ·have e:m'=j:=by have:=ay.mp h1;lia
      subst e;rw [hr'] at h2;cases h2
      lia
 ·intro σ H6 m8;refine oE3 m8 λ v2 v3 ns l9=>oA7 l9 λ m5 s6 hq6 ha6 pn ln mem=>?_;ext;rw [zu,aV] at mem;exists uc (zcD T).mono (iE2 mf ns (iA4 rfl (SqL.of ha6) pn (λ L hL=>k L ns _ hL (λ n=>?_) s6)));rw [mem n];unfold x9;constructor
  ·rintro (h|⟨m',r',h1,h2,h3,h4⟩)
   ·obtain ⟨b,hb,e⟩:=aP.mp h;exact .inl ⟨b,hb,e⟩
   ·refine .inr ⟨r',iA4 (ai h2) ?_ h3 h4⟩;rcases aF.mp h1 with z|z
    ·refine oE2 (Zi z) λ j r l9=>oA3 l9 λ q1 q2 q3=>?_;clear l9;have e:m'=j:=by lia
     subst e;rw [h2] at q2;cases q2;exact .inl q3
    ·refine oE2 (Zi z) λ j r l9=>oA3 l9 λ q1 q2 q3=>?_;clear l9;have e:m'=j:=by lia
     subst e;rw [h2] at q2;cases q2;exact .inr q3
  ·rintro (⟨b,hb,e⟩|⟨r,hr',hw,h3,h4⟩)
   ·exact .inl (aP.mpr ⟨b,hb,e⟩)
   ·obtain ⟨m',hm'⟩:=bW hr';refine .inr (iE2 m' r (iA4 ?_ hm' h3 h4));rcases hw with hw|hw
    ·exact bj _ (Vz hm' hw)
    ·exact a5 _ (Vz hm' hw)
def zdS {G:Addr} {ags:Ab} {gss:List A6} {g:A6} (h:NL H p G ags (jo gss)) (e:gss[i]?=some g):∃ b,ags[i]?=some b/\H b=some (.lst (iv g)):=by
 obtain ⟨b,vs,h1,h2,h3⟩:=h.at (i:=i) (xs:=g.map D.int) (by rw [jo,au,e];rfl);rw [QC h3] at h2;exact ⟨b,h1,h2⟩
noncomputable def kdW (rs:As) (x:Int × Int):Int:=Js ((rs[x.1.toNat]?.map Row.kinds).getD []) x.2
noncomputable def qi (rs:As) (c:Au):List A9:=c.map λ wr=>wr.map (kdW rs)
def Xo (a:Ad):Sp:=λ vs H Q _=>∃ (vw:V) (cb:Addr) (us:Ao) (bs:A1) (rs:As) (c:Au) (p q:A5),vs=[vw,.ref cb]/\Rep H p vw (qf a bs rs)/\H cb=some (.lst us)/\Reps H q us (c.map qg)/\(∀ wr∈c,vx rs wr)/\(∀ r∈rs,r.ok)/\c.length<=6/\∀ t H',Same H H'->H t=none->H' t=some (.tup ((qi rs c).map oiV))->Q (.ref t) H'
theorem zbg (T:Txt K mg a):Cal P w K mg base "kinds_in" 2 ["work","cells"] [] (Xo a):=T.kG.cal λ F=>by
 refine F.okx Ve ?_ ?_
 ·walk_at "i"
 walk_at "j";refine oE8 h λ vw cb us bs rs c p q l9=>oA8 l9 λ m5 hw hcb rus wk ro c6 k=>?_;clear l9 h;subst m5;have lu:us.length=c.length:=by rw [rus.len,ah]
 walk_at "T";refine ⟨_,(zc (zj (jz jA jm (za (xb (vars:=["ware"]) (caps:=[0]) (N:=["ware","work"]) (ON:=["work","cells"]) (osc:=ze xO) rfl rfl (by right) rfl rfl (zX (pq 1)) (λ _ _ _ _=>(qd 0 (show (["ware","work"]:A8).Nodup from by symm))) (λ _ _ _ _=>z6) (λ _ _ _ _=>(xC (zl qZ (pq 0) zz (zn _)) zz (ZW hr (za (pq 1) (za (pq 0) zb)))))) zb)))),?_⟩;walk_at "d";exists ⟨cb,rfl,.inl ⟨⟨_,SqL.of hcb⟩,λ _ _ _ _ mf hacc=>?_⟩⟩;let mj:Nat->St->Hp->Prop:=λ j σ H'=>∃ (v0:Ap),σ=[v0,some vw]/\Same H H'/\H' mf=some (.lst ((qi rs (c.take j)).map oiV));refine qt (K:=K) (a:=cb) (xs:=us) mj ⟨_,iA3 rfl (zf hacc) mv⟩ (λ i σ H' _ h=>by obtain ⟨_,_,s,_⟩:=h;exact SqL.of (s _ _ hcb)) ?_ ?_
 ·intro j v σ H1 hj m8;refine oE1 m8 λ v0 l9=>oA3 l9 λ m5 s1 ha=>?_;ext;obtain ⟨d,hd,rv⟩:=rus.at hj;rw [au,aC] at hd;obtain ⟨wr,hwr,rfl⟩:=hd;have hjl:=(aa.mp hwr).1;have e:(qi rs (c.take (j + 1))).map oiV=(qi rs (c.take j)).map oiV ++ [oiV (wr.map (kdW rs))]:=by
   rw [aR,hwr];simp [qi]
  have lk:((qi rs (c.take j)).map oiV).length<=6:=by simp [qi];lia
  have sn:∀ (x:V),Same H (upd H1 mf (.lst ((qi rs (c.take j)).map oiV ++ [x]))):=λ x b o hb=>by rw [mw (my hb hacc)];exact s1 b o hb
  cases wr with
  | none =>
   have rv:Rep H q v .non:=rv;cases rv;left;exact ⟨_,iA3 ha (zi (by lia)) ⟨_,iA3 rfl (sn _) (by rw [mv,e];rfl)⟩⟩
  | some x =>
   obtain ⟨tx,rfl,htx⟩:=Jc (b:=x) rv;refine oE2 (wk _ (ai hwr) x.1 x.2 rfl) λ jj r l9=>oA4 l9 λ e1 hr' hs _=>?_;clear l9;have kp:0 < r.kinds.length:=by
    have ok:=ro r (ai hr');unfold Row.ok at ok;rw [hs] at ok;have:=ok.2.2.2.2.1
    lia
   have hw1:Rep H1 p vw (qf a bs rs):=hw.keep λ b o hb ho=>⟨hb,s1 _ _ ho⟩;have rx:Rep H1 q (.ref tx) (.tup [.int jj,.int x.2]):=by
    have:=rv.keep (H':=H1) (q:=q) λ b o hb ho=>⟨hb,s1 _ _ ho⟩;have e2:qg (some x)=.tup [.int x.1,.int x.2]:=rfl;rw [e2,e1] at this;exact this
   exists uc (XQ T).mono (iE5 vw (.ref tx) bs rs p (iE4 q jj x.2 r (iA7 rfl hw1 rx hr' hs kp ?_)));refine ⟨_,iA3 ha (zi (by lia)) ⟨_,iA3 rfl (sn _) ?_⟩⟩;rw [mv,e];show _=some (HO.lst (_ ++ [V.int (kdW rs x)]))
   unfold kdW;rw [e1,aX,hr']
   rfl
 intro σ H1 m8;refine oE1 m8 λ v0 l9=>oA3 l9 λ m5 s1 ha=>?_;ext;rw [lu,aV] at ha;refine iE2 mf _ ⟨rfl,.inl ⟨SqL.of ha,λ t ht=>?_⟩⟩;exact k t _ (s1.trans (zf ht)) (zM s1 ht) mv
def Z1 (bs:A1) (rs:As) (L:Int):Prop:=∃ ns,IsLcm ns L/\∀ n,n∈ns ↔ x9 bs rs n
def zec {rs:As} {L L':Int} (h:Z1 bs rs L) (h':Z1 bs rs L'):L=L':=by
 obtain ⟨ns,i,m⟩:=h;obtain ⟨ns',i',m'⟩:=h';have d:L ∣ L':=i.least _ λ n hn=>i'.dv n ((m' n).mpr ((m n).mp hn));have d':L' ∣ L:=i'.least _ λ n hn=>i.dv n ((m n).mpr ((m' n).mp hn));exact Int.dvd_antisymm (cV i.pos) (cV i'.pos) d d'
open Classical in
noncomputable def qB (bs:A1) (rs:As):Int:=if h:∃ L,Z1 bs rs L then Classical.choose h else 1
def V6 {rs:As} {L:Int} (h:Z1 bs rs L):L=qB bs rs:=by
 unfold qB;rw [dif_pos ⟨L,h⟩];exact zec h (Classical.choose_spec (⟨L,h⟩:∃ L,Z1 bs rs L))
noncomputable def qv (rs:As) (st:PSt) (j:Int):Int:=match rs[j.toNat]? with
 | some r=>(st.gone.getD j.toNat []).headD 0 % (r.kinds.length:Int)
 | none=>0
noncomputable def zan (bs:A1) (rs:As) (st:PSt):ShK:=(some (st.turn % qB bs rs),st.cells.map (qi rs),st.sides.map some,(zB .source rs).map λ j=>some (qv rs st j))
def WV (a:Ad):Sp:=λ vs H Q _=>∃ (vw:V) (y:Addr) (n:SN) (j:Nat) (bs:A1) (rs:As) (st:PSt) (r:Row) (p:A5),vs=[vw,.ref y,.int j]/\Rep H p vw (qf a bs rs)/\StO a H y n st/\rs[j]?=some r/\r.wd=.source/\r.ok/\stWf bs rs st/\Q (.int (qv rs st j)) H
def WD (T:Txt K mg a):Cal P w K mg base "kind_place" 1 ["work","state","number"] [] (WV a):=T.iU.cal λ F=>by
 refine F.okx JS ?_ ?_
 ·walk_at "i"
 walk_at "j";refine oE5 h λ vw y n j bs l9=>oE4 l9 λ rs st r p m5=>oA8 m5 λ mh hv so hr' hs ok wf k=>?_;clear l9 m5 h;subst mh;refine oE7 (qo hv) λ yw dx fs l1 l2 bvs me l9=>oA9 l9 λ m5 hy e1 e2 h1 h2 hB hK no=>?_;clear l9;subst m5;obtain ⟨kv,hkv,hKn⟩:=QA hK hr';refine oE6 hKn.inv λ y1 dx1 m1 m2 m3 fs1 l9=>oA9 l9 λ m5 _ _ _ _ g0 _ _ mh=>oA5 mh λ _ _ _ g3 _=>?_;clear l9 mh;subst m5;obtain ⟨g3a,g3b⟩:=g3 hs;have kp:0 < r.kinds.length:=by
  unfold Row.ok at ok;rw [hs] at ok;have:=ok.2.2.2.2.1
  lia
 have hj:=(aa.mp hr').1;obtain ⟨g,hg⟩:∃ g,st.gone[j]?=some g:=⟨_,ae (by rw [wf.go.1];exact hj)⟩;have q1:=(wf.go.2 j r g hr' hg).1;have cp:=wF ok;obtain ⟨gh,gs,rfl⟩:=cf (dP (by lia:0 < g.length));obtain ⟨bG,hbG,hgG⟩:=zdS so.hg hg;have hmap:(n.ags.map V.ref)[j]?=some (.ref bG):=by rw [au,hbG];rfl
 have ek:qv rs st j=gh % (r.kinds.length:Int):=by
  unfold qv;rw [aX,hr',aT,hg]
  rfl
 rw [ek] at k;walk_at "T";refine ⟨_,(zc (zj (zw qa (zt (zt (zk (pq 1) rfl) (pq 2)) zd) (zy zN zJ (za (zk (zt (zk (pq 0) rfl) (pq 2)) rfl) zb))))),?_⟩;exists ra so.hy T.ad T.fQ rfl (zq (SqL.of so.hg.out) (zL hmap) (zq (SqL.of hgG) at0 ?_));exists ra hy T.fG T.fF e2 (zq (SqL.of h2) (zL hkv) ?_);refine iE5 y1 (xf a r.wd) dx1 fs1 _ (iA6 rfl g0 (CT T _) (by rw [hs];exact T.fK) g3a ?_);refine ⟨_,.inl ⟨_,SqL.of g3b,rfl⟩,?_⟩;rw [zu];left;exact ⟨by lia,k⟩
theorem Wi {H:Hp} {p:A5}:∀ c:List A9,Reps H p (c.map oiV) (c.map oiD)
 | []=>.nil
 | none :: c=>.cons .non (Wi c)
 | some n :: c=>.cons .int (Wi c)
def ZR {t:Addr} {c:List A9} (h:H t=some (.tup (c.map oiV))):Rep H (zT H) (.ref t) (.tup (c.map oiD)):=(Wi c).mkT ⟨_,h⟩ h
def xv {H H':Hp} {d:D} (r:Rep H (zT H) v d) (s:Same H H'):Rep H' (zT H') v d:=r.keep λ b o ⟨xs,hx⟩ hb=>⟨⟨xs,s _ _ hx⟩,s _ _ hb⟩
def wJ {H H':Hp} {ds:List D} (r:Reps H (zT H) vs ds) (s:Same H H'):Reps H' (zT H') vs ds:=r.keep λ b o ⟨xs,hx⟩ hb=>⟨⟨xs,s _ _ hx⟩,s _ _ hb⟩
def zds {rs:As} {m:Int} (h:m∈zB wd rs):∃ (j:Nat) (r:Row),m=j/\rs[j]?=some r/\r.wd=wd:=by
 unfold zB qJ at h;obtain ⟨j,hj,rfl⟩:=aP.mp h;obtain ⟨h1,h2⟩:=b7.mp hj;have h2:=br h2;obtain ⟨r,hr,e⟩:=aC.mp h2;exact iE2 j r (iA3 rfl hr e)
def zen (a:Ad):Sp:=λ vs H Q _=>∃ (vw:V) (y:Addr) (n:SN) (bs:A1) (rs:As) (st:PSt) (p:A5),vs=[vw,.ref y]/\Rep H p vw (qf a bs rs)/\StO a H y n st/\stWf bs rs st/\bs.length<=24/\rs.length<=24/\(∀ b∈bs,zF b.1 b.2)/\(∀ r∈rs,r.ok)/\∀ t H',Same H H'->Rep H' (zT H') (.ref t) (shD (zan bs rs st))->Q (.ref t) H'
def zbf (T:Txt K mg a):Cal P w K mg base "shape_of" 4 ["work","state"] [] (zen a):=T.kH.cal λ F=>by
 refine F.okx Vb ?_ ?_
 ·walk_at "i"
 walk_at "j";refine oE7 h λ vw y n bs rs st p l9=>oA9 l9 λ m5 hv so wf b24 r24 bo ro k=>?_;clear l9 h;subst m5;refine oE7 (qo hv) λ yw dx fs l1 l2 bvs me l9=>oA9 l9 λ m5 hy e1 e2 h1 h2 hB hK no=>?_;clear l9;subst m5;walk_at "T";refine ⟨_,(zh (zo 2 Vb.nd (zw qa (zk (pq 1) rfl) (Qz ⟨rfl,rfl,rfl⟩ hr (pq 0))))  (zh (zo 3 Vb.nd (jz jA jm (za (xb (vars:=["cells"]) (caps:=[0]) (N:=["cells","work"]) (ON:=["work","state","beat_place","kinds","places"]) (osc:=ze jV) rfl rfl (by right) rfl rfl (zX (zk (pq 1) rfl)) (λ _ _ _ _=>(qd 0 (show (["cells","work"]:A8).Nodup from by symm))) (λ _ _ _ _=>z6) (λ _ _ _ _=>(ZW hr (za (pq 1) (za (pq 0) zb))))) zb)))  (zh (zo 4 Vb.nd (jz jA jm (za (xb (vars:=["number"]) (caps:=[0,1]) (N:=["number","work","state"]) (ON:=["work","state","beat_place","kinds","places"]) (osc:=ze jV) rfl rfl (by right) rfl rfl (zX (Qz ⟨rfl,rfl,rfl⟩ hr (pq 0))) (λ _ _ _ _=>(qd 0 (show (["number","work","state"]:A8).Nodup from by symm))) (λ _ _ _ _=>z6) (λ _ _ _ _=>(ZW hr (za (pq 1) (za (pq 2) (za (pq 0) zb)))))) zb)))  (zc (zj (ji (za (pq 2) (za (pq 3) (za (jz jA jm (za (zk (pq 1) rfl) zb)) (za (pq 4) zb)))))))))),?_⟩;exists ra so.hy T.ad T.fI rfl ?_;refine iE7 yw a.u dx fs _ _ _ (iA5 rfl hy (no _ (by symm) (by symm)) ((VJ T).mono) ?_);refine iE4 (.ref yw) bs rs p (iA7 rfl hv (by lia) (by lia) bo ro (λ L ns H1 il im s1=>?_));have lp:=il.pos;have eL:=V6 ⟨ns,il,im⟩;left;rw [eL];clear il im lp eL;have so1:=so.same s1;have hv1:Rep H1 p (.ref yw) (qf a bs rs):=hv.keep λ b o hb ho=>⟨hb,s1 _ _ ho⟩;have lc:n.acs.length=st.cells.length:=by rw [so.hc.len,z7,ah]
 have lcb:st.cells.length=bs.length:=wf.co.1;walk_at "d";exists ra so1.hy T.ad T.fH rfl ⟨n.lc,rfl,.inl ⟨⟨_,SqL.of so1.hc.out⟩,λ _ _ _ _ mf hacc=>?_⟩⟩;let mj:Nat->St->Hp->Prop:=λ i σ H'=>∃ (v0:Ap) (us:Ao),σ=[v0,some (.ref yw)]/\Same H1 H'/\H' mf=some (.lst us)/\us.length=i/\Reps H' (zT H') us ((st.cells.take i).map λ c=>.tup ((qi rs c).map oiD));refine qt (K:=K) (a:=n.lc) (xs:=n.acs.map V.ref) mj (iE2 _ ([]) (iA5 rfl (zf hacc) mv rfl (.nil))) (λ i σ H' _ h=>by obtain ⟨_,_,_,s,_⟩:=h;exact SqL.of (s _ _ so1.hc.out)) ?_ ?_
 ·intro i x σ H2 hi m8;refine oE2 m8 λ v0 us l9=>oA5 l9 λ m5 s2 ha lu ru=>?_;ext;rw [au,aC] at hi;obtain ⟨cb,hcb,rfl⟩:=hi;have hil:i < st.cells.length:=by rw [<- lc];exact (aa.mp hcb).1
  obtain ⟨c,ec⟩:∃ c,st.cells[i]?=some c:=⟨_,ae hil⟩;obtain ⟨vs,hvs,rvs⟩:=so1.hc.g i cb _ hcb (show (z7 st.cells)[i]?=some (c.map qg) by rw [z7,au,ec];rfl);obtain ⟨b,hb⟩:∃ b,bs[i]?=some b:=⟨_,ae (by rw [<- wf.co.1];exact hil)⟩;obtain ⟨lc6,wk⟩:=wf.co.2 i b c hb ec;have bk:=(bo b (ai hb)).2.1;exists uc (zbg T).mono (iE8 (.ref yw) cb vs bs rs c p _ (iA8 rfl (hv1.keep (λ b o hb ho=>⟨hb,s2 _ _ ho⟩)) (s2 _ _ hvs) (rvs.keep (λ b o hb ho=>⟨hb,s2 _ _ ho⟩)) wk ro (by lia) (λ t H3 s3 nt ht=>?_)));have nta:∀ b,zT H3 b->b≠mf:=λ b ⟨xs,hx⟩ z=>by rw [z,s3 _ _ ha] at hx;cases hx
  refine ⟨_,iA3 (s3 _ _ ha) (zi (by lia)) (iE2 _ (us ++ [.ref t]) (iA5 rfl (λ b o hb=>by rw [mw (my hb hacc)];exact s3 _ _ (s2 b o hb)) mv (by simp [lu]) ?_))⟩;rw [aR,ec,a7];refine ((wJ ru s3).append (.one (ZR ht))).keep λ b o tb hb=>?_;have ne:=nta b tb;obtain ⟨xs,hx⟩:=tb;exact ⟨⟨xs,by rw [mw ne];exact hx⟩,by rw [mw ne];exact hb⟩
 intro σ H2 m8;refine oE2 m8 λ v0 us l9=>oA5 l9 λ m5 s2 ha lu ru=>?_;ext;rw [ah,lc,aV] at ru;refine iE2 mf _ ⟨rfl,.inl ⟨SqL.of ha,λ t1 ht1=>?_⟩⟩;have s3:=zf (o:=.tup us) ht1;have ru3:=wJ ru s3;have hT1:upd H2 t1 (.tup us) t1=some (.tup us):=mv;have s13:=s2.trans s3;generalize upd H2 t1 (.tup us)=H3 at s3 ru3 hT1 s13 ⊢;have r1:Rep H3 (zT H3) (.ref t1) (.tup ((st.cells.map (qi rs)).map λ r=>.tup (r.map oiD))):=by
  rw [dC];exact ru3.mkT ⟨_,hT1⟩ hT1
 clear ru ru3 ha hT1 s2 s3;have so3:=so1.same s13;have hv3:Rep H3 p (.ref yw) (qf a bs rs):=hv1.keep λ b o hb ho=>⟨hb,s13 _ _ ho⟩;exists iE7 yw a.u dx fs _ _ _ (iA5 rfl (s13 _ _ (s1 _ _ hy)) (no _ (by symm) (by symm)) ((wx T).mono) ?_);refine iE4 (.ref yw) bs rs p (iA4 rfl hv3 (by lia) (λ q H4 s4 nq hq=>?_));have ln:=jq .source rs rs.length;have so4:=so3.same s4;have hv4:Rep H4 p (.ref yw) (qf a bs rs):=hv3.keep λ b o hb ho=>⟨hb,s4 _ _ ho⟩;refine ⟨q,rfl,.inl ⟨⟨_,SqL.of hq⟩,λ _ _ _ _ ac2 hac2=>?_⟩⟩;let ml:Nat->St->Hp->Prop:=λ i σ H'=>∃ (v0:Ap),σ=[v0,some (.ref yw),some (.ref y)]/\Same H4 H'/\H' ac2=some (.lst ((((zB .source rs).take i).map λ j=>some (qv rs st j)).map oiV));refine qt (K:=K) (a:=q) (xs:=iv (zB .source rs)) ml ⟨_,iA3 rfl (zf hac2) mv⟩ (λ i σ H' _ h=>by obtain ⟨_,_,s,_⟩:=h;exact SqL.of (s _ _ hq)) ?_ ?_
 ·intro i x σ H5 hi m8;refine oE1 m8 λ v0 l9=>oA3 l9 λ m5 s5 ha=>?_;ext;obtain ⟨m,hm,rfl⟩:=Zn hi;have hil:=(aa.mp hm).1;refine oE2 (zds (ai hm)) λ jj r l9=>oA3 l9 λ m5 hr' hs=>?_;clear l9;subst m5;have ln:(zB .source rs).length<=rs.length:=ln;exists uc (WD T).mono (iE5 (.ref yw) y n jj bs (iE4 rs st r p (iA8 rfl (hv4.keep (λ b o hb ho=>⟨hb,s5 _ _ ho⟩)) (so4.same s5) hr' hs (ro r (ai hr')) wf ?_)));refine ⟨_,iA3 ha (zi (by rw [ah,ah,aW];lia)) ⟨_,iA3 rfl (λ b o hb=>by rw [mw (my hb hac2)];exact s5 b o hb) ?_⟩⟩;rw [mv,aR,hm];simp [oiV]
 intro σ H5 m8;refine oE1 m8 λ v0 l9=>oA3 l9 λ m5 s5 ha=>?_;ext;rw [zu,aV] at ha;refine iE2 ac2 _ ⟨rfl,.inl ⟨SqL.of ha,λ t2 ht2=>?_⟩⟩;have s6:=zf (o:=.tup (((zB .source rs).map λ j=>some (qv rs st j)).map oiV)) ht2;have hT2:upd H5 t2 (.tup (((zB .source rs).map λ j=>some (qv rs st j)).map oiV)) t2=some (.tup (((zB .source rs).map λ j=>some (qv rs st j)).map oiV)):=mv;have s36:=(s4.trans s5).trans s6;generalize upd H5 t2 (.tup (((zB .source rs).map λ j=>some (qv rs st j)).map oiV))=H6 at s36 hT2 ⊢;have so6:=so3.same s36;exists ra so6.hy T.ad T.fN rfl (iE2 n.ls _ ⟨rfl,.inl ⟨SqL.of so6.hs,λ t3 ht3=>?_⟩⟩);intro t4 ht4;have s7:=zf (o:=.tup (iv st.sides)) ht3;have hT3:upd H6 t3 (.tup (iv st.sides)) t3=some (.tup ((st.sides.map some).map oiV)):=by rw [mv,dC];rfl
 generalize upd H6 t3 (.tup (iv st.sides))=H7 at s7 hT3 ht4 ⊢;have s8:=zf (o:=.tup [.int (st.turn % qB bs rs),.ref t1,.ref t3,.ref t2]) ht4;have hT4:upd H7 t4 (.tup [.int (st.turn % qB bs rs),.ref t1,.ref t3,.ref t2]) t4=some (.tup [.int (st.turn % qB bs rs),.ref t1,.ref t3,.ref t2]):=mv;generalize upd H7 t4 (.tup [.int (st.turn % qB bs rs),.ref t1,.ref t3,.ref t2])=H8 at s8 hT4 ⊢;refine k t4 H8 ((s1.trans s13).trans (s36.trans (s7.trans s8))) ?_;exact Reps.mkT (vs:=[.int (st.turn % qB bs rs),.ref t1,.ref t3,.ref t2]) (.cons .int (.cons (xv r1 (s36.trans (s7.trans s8))) (.cons (xv (ZR hT3) s8) (.cons (xv (ZR hT2) (s7.trans s8)) .nil)))) ⟨_,hT4⟩ hT4
noncomputable abbrev z9 (bs:A1) (rs:As) (i:Nat):ShK:=zan bs rs (jn bs rs i)
structure RoundAt (bs:A1) (rs:As) (lim i j:Nat):Prop where
 lt:i < j
 le:j<=lim
 eq:z9 bs rs i=z9 bs rs j
 fst:∀ x y,x < y->y < j->z9 bs rs x≠z9 bs rs y
def x8 (bs:A1) (rs:As) (lim:Nat):Prop:=∀ x y,x < y->y<=lim->z9 bs rs x≠z9 bs rs y
def RoundAt.one {rs:As} {lim lim' i j i' j':Nat} (h:RoundAt bs rs lim i j) (h':RoundAt bs rs lim' i' j'):i=i'/\j=j':=by
 have ej:j=j':=by
  rcases dY j j' with z|z|z
  ·exact absurd h.eq (h'.fst i j h.lt z)
  ·exact z
  ·exact absurd h'.eq (h.fst i' j' h'.lt z)
 subst ej;refine ⟨?_,rfl⟩;rcases dY i i' with z|z|z
 ·exact absurd (h.eq.trans h'.eq.symm) (h.fst i i' z h'.lt)
 ·exact z
 ·exact absurd (h'.eq.trans h.eq.symm) (h.fst i' i z h.lt)
def RoundAt.no {rs:As} {lim i j:Nat} (h:RoundAt bs rs lim i j):¬ x8 bs rs lim:=λ z=>z i j h.lt h.le h.eq
def Nxt (H H':Hp):Prop:=∀ b u,H b=some u->(∀ φ,u≠.ext φ)->H' b=some u
def Same.nxt {H H':Hp} (s:Same H H'):Nxt H H':=λ b u hb _=>s b u hb
def Nxt.trans {H H' H2:Hp} (a:Nxt H H') (b:Nxt H' H2):Nxt H H2:=λ c u hc n=>b c u (a c u hc n) n
def zeP {D:Addr} {φ:Heap->Prop} (h:H D=some (.ext φ)):Nxt H (upd H D o):=λ b u hb n=>by
 rw [mw (λ z=>by rw [z,h] at hb;cases hb;exact n φ rfl)];exact hb
def zdv {H H':Hp} {G:Addr} {as:Ab} {xss:List (List D)} (h:NL H (zT H) G as xss) (s:Nxt H H'):NL H' (zT H') G as xss:=by
 refine h.tup λ b o c hb=>s b o hb λ φ z=>?_;subst z;rcases c with c|c|⟨xs,c⟩
 ·rw [c,h.out] at hb;cases hb
 ·obtain ⟨vs,hv⟩:=h.isl (aB _ c);rw [hv] at hb;cases hb
 ·rw [c] at hb;cases hb
def StO.nxt {H H':Hp} {y:Addr} {n:SN} {st:PSt} (h:StO a H y n st) (s:Nxt H H'):StO a H' y n st:=⟨s _ _ h.hy (λ φ z=>by cases z),zdv h.hc s,s _ _ h.hs (λ φ z=>by cases z),zdv h.hg s,h.nd⟩
def zej {H H':Hp} {d:D} (r:Rep H (zT H) v d) (s:Nxt H H'):Rep H' (zT H') v d:=r.keep λ b o ⟨xs,hx⟩ hb=>by
 have e:=s b _ hx (λ φ z=>by cases z);rw [hx] at hb;cases hb;exact ⟨⟨xs,e⟩,e⟩
structure SD (a:Ad) (H:Hp) (bs:A1) (rs:As) (xs:List (ShK × Addr × Addr)) (t:Nat):Prop where
 len:xs.length=t
 at':∀ (i:Nat) x,xs[i]?=some x->x.1=z9 bs rs i/\Rep H (zT H) (.ref x.2.1) (shD x.1)/\∃ n,StO a H x.2.2 n (jn bs rs i)
 fst:∀ x y,x < y->y < t->z9 bs rs x≠z9 bs rs y
def SD.nxt {H H':Hp} {rs:As} {xs:List (ShK × Addr × Addr)} {t:Nat} (h:SD a H bs rs xs t) (s:Nxt H H'):SD a H' bs rs xs t:=⟨h.len,λ i x e=>by
 refine oA3 (h.at' i x e) λ e1 r l9=>oE1 l9 λ n so=>?_;clear l9;exact (iA3 e1 (zej r s) ⟨n,so.nxt s⟩),h.fst⟩
def SD.keys {rs:As} {xs:List (ShK × Addr × Addr)} {t:Nat} (h:SD a H bs rs xs t):keysOk H xs:=λ x hx=>by
 obtain ⟨i,hi⟩:=bW hx;exact ⟨_,(h.at' i x hi).2.1⟩
def SD.look {rs:As} {xs:List (ShK × Addr × Addr)} {t:Nat} {k:ShK} {y:Addr} (h:SD a H bs rs xs t) (e:xn xs k=some y):∃ i n,i < t/\z9 bs rs i=k/\StO a H y n (jn bs rs i):=by
 unfold xn at e;obtain ⟨x,hx,rfl⟩:=aC.mp e;have hk:x.1=k:=by
  have:=find?_some hx;simpa using this
 obtain ⟨i,hi⟩:=bW (List.mem_of_find?_eq_some hx);refine oA3 (h.at' i x hi) λ e1 _ l9=>oE1 l9 λ n so=>?_;clear l9;exact iE2 i n (iA3 (by rw [<- h.len];exact (aa.mp hi).1) (e1.symm.trans hk) so)
def SD.new {rs:As} {xs:List (ShK × Addr × Addr)} {t:Nat} {k:ShK} (h:SD a H bs rs xs t) (e:xn xs k=none):∀ i,i < t->z9 bs rs i≠k:=λ i hi z=>by
 obtain ⟨x,hx⟩:∃ x,xs[i]?=some x:=⟨_,ae (by rw [h.len];exact hi)⟩;unfold xn at e;rw [Option.map_eq_none_iff,fD] at e;exact e x (ai hx) (bF ((h.at' i x hx).1.trans z))
def SD.add {rs:As} {xs:List (ShK × Addr × Addr)} {t:Nat} {b y:Addr} {n:SN} (h:SD a H bs rs xs t) (e:xn xs (z9 bs rs t)=none) (r:Rep H (zT H) (.ref b) (shD (z9 bs rs t))) (so:StO a H y n (jn bs rs t)):SD a H bs rs (xs ++ [(z9 bs rs t,b,y)]) (t + 1):=by
 refine ⟨by simp [h.len],λ i x hx=>?_,λ u v huv hv=>?_⟩
 ·by_cases hi:i < xs.length
  ·rw [aY hi] at hx;exact h.at' i x hx
  ·rw [aS (by lia)] at hx;have hz:=(aa.mp hx).1;have:i=t:=by simp at hz;have:=h.len;lia
   subst this;rw [h.len,Nat.sub_self] at hx;cases hx;exact iA3 rfl r ⟨n,so⟩
 ·rcases Nat.lt_or_ge v t with z|z
  ·exact h.fst u v huv z
  ·have:v=t:=by lia
   subst this;exact h.new e u huv
def WS (a:Ad):Sp:=λ vs H Q E=>∃ (vw:V) (lim:Nat) (bs:A1) (rs:As),vs=[vw,.int lim]/\Rep H (Off []) vw (qf a bs rs)/\qc bs rs/\(∀ b∈bs,zF b.1 b.2)/\(∀ r∈rs,r.ok)/\lim<=1000 /\
 (∀ i j t y0 y1 n0 n1 H',RoundAt bs rs lim i j->Same H H'->H' t=some (.tup [.ref y0,.ref y1])->StO a H' y0 n0 (jn bs rs i)->StO a H' y1 n1 (jn bs rs j)->Q (.ref t) H') /\
 (x8 bs rs lim->∀ H',Same H H'->E (.ref a.h) none H')
theorem WC (T:Txt K mg a):Cal P w K mg base "round_ends" 8 ["work","limit"] [] (WS a):=T.iZ.cal λ F=>by
 refine F.okx JR ?_ ?_
 ·walk_at "i"
 walk_at "j";refine oE4 h λ vw lim bs rs l9=>oA8 l9 λ m5 hv mi bo ro l1000 kQ kE=>?_;clear l9 h;subst m5;have b24:=mi.1.1.2;have r24:=mi.1.2.2;walk_at "T";refine ⟨_,(zg (zo 2 JR.nd ‹(pq 0) zb›)  (zg (zo 3 JR.nd zeH)  (zQ (qq qS rfl (wu (za (zw zP (pq 1) zd) zb)) (qd 4 JR.nd)  (zg (zo 5 JR.nd ‹(pq 0) (za (pq 2) zb)›)  (zg (zx (zfP (zfW hr.units1 (pq 5) (pq 3)) (by with_unfolding_all rfl))  (zc (zj (ji (za (zeI hr.units1 (pq 3) (pq 5) (λ _ _=>rfl)) (za (pq 2) zb)))))  zm)  (zg (zeF hr.units1 (pq 3) (pq 5) (pq 2) rfl)  (zc (zo 2 JR.nd ‹(pq 0) (za (pq 2) zb)›))))))  (zc (qI ⟨rfl,rfl,rfl⟩ rfl (za j9 zb)))))),?_⟩;exists uc (vv T).mono (spEmpty.i vw bs rs _ rfl hv b24 r24 bo ro (λ v' H1 s1 sn=>?_));refine oE2 sn λ y nn l9=>oA5 l9 λ m5 so _ _ _=>?_;clear l9 sn;subst m5;left;intro D hD;have sD:=zf (o:=sdO P w D []) hD;have nD:H D=none:=zM s1 hD;have s2:=s1.trans sD;have so2:=so.same sD;have hD2:upd H1 D (sdO P w D []) D=some (sdO P w D []):=mv;generalize upd H1 D (sdO P w D [])=H2 at s2 so2 hD2 ⊢;clear so s1 sD hD;left;let mj:St->Hp->Prop:=λ σ' H'=>∃ (v2 v4 v5:Ap),σ'=[some vw,some (.int lim),v2,some (.ref D),v4,v5]/\Same H H'/\x8 bs rs lim;refine cut mj ?_ ?_
 ·walk_at "e";exists ⟨by lia,by lia,?_⟩;refine Z9 (n:=((lim:Int) + 1).toNat) (λ t σ H'=>∃ (v4 v5:Ap) (y:Addr) (n:SN) (xs:List (ShK × Addr × Addr)),σ=[some vw,some (.int lim),some (.ref y),some (.ref D),v4,v5]/\Same H H'/\H' D=some (sdO P w D xs)/\StO a H' y n (jn bs rs t)/\SD a H' bs rs xs t) (iE5 _ _ y nn ([]) (iA5 rfl s2 hD2 so2 ⟨rfl,λ i x e=>by simp at e,λ x y _ z=>absurd z (Nat.not_lt_zero _)⟩)) ?_ ?_
  ·clear so2 hD2 s2;intro t σ H3 ht m8;refine oE5 m8 λ v4 v5 y n xs l9=>oA5 l9 λ m5 s3 hD3 so3 sd3=>?_;ext;have ht':t<=lim:=by lia
   have lx:=sd3.len;exists uc (zbf T).mono (iE7 vw y n bs rs (jn bs rs t) _ (iA9 rfl (hv.same s3) so3 (Ze mi bo ro t) b24 r24 bo ro (λ b H4 s4 r4=>?_)));have hD4:=s4 _ _ hD3;have so4:=so3.same s4;have sd4:=sd3.nxt (Same.nxt s4);have s04:=s3.trans s4;clear hD3 so3 sd3 s3 s4;exists iE5 D b xs _ _ (iA6 rfl rfl hD4 sd4.keys r4 ?_);cases el:xn xs (z9 bs rs t) with
   | some y0 =>
    refine oE2 (sd4.look el) λ i n0 l9=>oA3 l9 λ hi ei so0=>?_;clear l9;exists iE6 D b xs _ _ y0 (iA7 rfl rfl hD4 sd4.keys r4 el (λ q hq=>?_));have sq:=zf (o:=.tup [.ref y0,.ref y]) hq;exact kQ i t q y0 y n0 n _ ⟨hi,ht',ei,sd4.fst⟩ (s04.trans sq) mv (so0.same sq) (so4.same sq)
   | none =>
    exists iE6 D b xs _ _ y (iA9 rfl rfl rfl hD4 sd4.keys r4 el (zi (by lia)) ?_);have nx:Nxt H4 (upd H4 D (sdO P w D (xs ++ [(z9 bs rs t,b,y)]))):=zeP hD4;have so5:=so4.nxt nx;have sd5:=(sd4.add el r4 so4).nxt nx;have hD5:upd H4 D (sdO P w D (xs ++ [(z9 bs rs t,b,y)])) D=some (sdO P w D (xs ++ [(z9 bs rs t,b,y)])):=mv;have s5:Same H (upd H4 D (sdO P w D (xs ++ [(z9 bs rs t,b,y)]))):=λ c u hc=>by rw [mw (my hc nD)];exact s04 c u hc
    generalize upd H4 D (sdO P w D (xs ++ [(z9 bs rs t,b,y)]))=H5 at so5 sd5 hD5 s5 ⊢;exists uc (JF T).mono (spOneTurn.i vw (.ref y) (jn bs rs t) bs rs _ rfl (hv.same s5) so5.rep (Ze mi bo ro t) mi bo ro (λ v' H6 s6 sn=>?_));refine oE2 sn λ y2 n2 l9=>oA3 l9 λ m5 so6 _=>?_;clear l9 sn;subst m5;exact iE5 _ _ y2 n2 _ (iA5 rfl (s5.trans s6) (s6 _ _ hD5) so6 (sd5.nxt (Same.nxt s6)))
  ·intro σ H3 m8;refine oE5 m8 λ v4 v5 y n xs l9=>oA5 l9 λ m5 s3 hD3 so3 sd3=>?_;ext;exact iE3 _ _ _ (iA3 rfl s3 (λ x y hxy hy=>sd3.fst x y hxy (by lia)))
 intro σ' H3 m8;refine oE3 m8 λ v2 v4 v5 l9=>oA3 l9 λ m5 s3 nr=>?_;ext;left;exact ⟨a.h,iA3 T.ia T.lB (kE nr H3 s3)⟩
def WO {st:PSt} {fb:A9}:(qE st k fb).2.turn=st.turn/\(qE st k fb).2.sides=st.sides/\(qE st k fb).2.gone=st.gone:=by
 cases fb <;> exact ⟨rfl,rfl,rfl⟩
def Vu {st:PSt} {x:z8} {tb:A9}:(ZU st x tb).turn=st.turn/\(ZU st x tb).sides=st.sides/\(ZU st x tb).gone=st.gone:=by
 cases tb <;> exact ⟨rfl,rfl,rfl⟩
def VE {r:Row} {st:PSt} {ch:Aj}:(movedF r st k ch).turn=st.turn/\(movedF r st k ch).sides=st.sides/\(movedF r st k ch).gone=st.gone:=by
 obtain ⟨a1,a2,a3⟩:=WO (st:=st) (k:=k) (fb:=jP r ch);obtain ⟨b1,b2,b3⟩:=Vu (st:=(qE st k (jP r ch)).2) (x:=(qE st k (jP r ch)).1) (tb:=Zy r ch);exact ⟨b1.trans a1,b2.trans a2,b3.trans a3⟩
def Z8 {α:Type} {xs:List α} {k j:Nat} {x d:α} (h:k≠j):(xs.set k x).getD j d=xs.getD j d:=by
 rw [aT,aT,bM h]
def zcO (rs:As) (st:PSt) (k:Nat):(wI rs st k).1.turn=st.turn/\∀ j,k < j->(wI rs st k).1.sides.getD j 0=st.sides.getD j 0/\(wI rs st k).1.gone.getD j []=st.gone.getD j []:=by
 unfold wI;cases rs[k]? with
 | none=>exact ⟨rfl,λ _ _=>⟨rfl,rfl⟩⟩
 | some r =>
  simp only;cases qD r (ja rs st.cells r) (xD st.cells r) st.turn (st.sides.getD k 0).toNat with
  | none=>exact ⟨rfl,λ _ _=>⟨rfl,rfl⟩⟩
  | some ch =>
   obtain ⟨c1,c2,c3⟩:=VE (r:=r) (st:=st) (k:=k) (ch:=ch);refine ⟨c1,λ j hj=>⟨?_,?_⟩⟩
   ·show ((movedF r st k ch).sides.set k _).getD j 0=_
    rw [Z8 (by lia),c2]
   ·show ((movedF r st k ch).gone.set k _).getD j []=_
    rw [Z8 (by lia),c3]
theorem Qf (rs:As) (st:PSt):∀ i,(zW rs st i).1.turn=st.turn/\∀ j,i<=j->(zW rs st i).1.sides.getD j 0=st.sides.getD j 0/\(zW rs st i).1.gone.getD j []=st.gone.getD j []
 | 0=>⟨rfl,λ _ _=>⟨rfl,rfl⟩⟩
 | i + 1=>by
  obtain ⟨h1,h2⟩:=Qf rs st i;obtain ⟨g1,g2⟩:=zcO rs (zW rs st i).1 i;refine ⟨g1.trans h1,λ j hj=>?_⟩;obtain ⟨a1,a2⟩:=h2 j (by lia);obtain ⟨b1,b2⟩:=g2 j (by lia);exact ⟨b1.trans a1,b2.trans a2⟩
theorem ZT (bs:A1) (rs:As):∀ n,(jn bs rs n).turn=n
 | 0=>rfl
 | n + 1=>by
  show (zW rs (jn bs rs n) rs.length).1.turn + 1=_
  rw [(Qf rs (jn bs rs n) rs.length).1,ZT bs rs n]
  rfl
def zc2 (a:Ad) (R:List (Int × Int)->List Row->Nat->Nat->Hp->V->Hp->Prop):Sp:=λ vs H Q E=>∃ (vw:V) (lim:Nat) (bs:A1) (rs:As),vs=[vw,.int lim]/\Rep H (Off []) vw (qf a bs rs)/\qc bs rs/\(∀ b∈bs,zF b.1 b.2)/\(∀ r∈rs,r.ok)/\lim<=1000 /\
 (∀ i j v H',RoundAt bs rs lim i j->Same H H'->R bs rs i j H v H'->Q v H')/\(x8 bs rs lim->∀ H',Same H H'->E (.ref a.h) none H')
def rOf (_:A1) (_:As) (i j:Nat) (_:Hp) (v:V) (H':Hp):Prop:=∃ t,v=.ref t/\H' t=some (.tup [.int i,.int ((j:Int) - i)])
def Z4 (T:Txt K mg a) (F:FunD K "round_of" "round_of" qX f fd):FnOk P w K mg base (CXr P w) 9 f fd ["work","limit"] (zc2 a rOf):=by
 refine F.okx Vc ?_ ?_
 ·walk_at "i"
 walk_at "j";refine oE4 h λ vw lim bs rs l9=>oA8 l9 λ m5 hv mi bo ro l1000 kQ kE=>?_;clear l9 h;subst m5;walk_at "T";refine ⟨_,(zh (zo 2 Vc.nd ‹(pq 0) (za (pq 1) zb)›)  (zc (zj (ji (za (zk (zt (pq 2) zd) rfl) (za (zw Wm (zk (zt (pq 2) zd) rfl) (zk (zt (pq 2) zd) rfl)) zb)))))),?_⟩;exists uc (WC T).mono (iE4 vw lim bs rs (iA8 rfl hv mi bo ro l1000 (λ i j t y0 y1 n0 n1 H1 rnd s1 ht so0 so1=>?_) kE));exists mB ht at0 (ra so0.hy T.ad T.fI rfl ?_);refine mB ht (show atI _ 1=some (.ref y1) from rfl) (ra so1.hy T.ad T.fI rfl ?_);refine mB ht at0 (ra so0.hy T.ad T.fI rfl ?_);left;intro t2 ht2;rw [ZT,ZT];exact kQ i j _ _ rnd (s1.trans (zf ht2)) ⟨t2,rfl,mv⟩
def vQ (T:Txt K mg a):Cal P w K mg base "round_of" 9 ["work","limit"] [] (zc2 a rOf):=T.iJ.cal (Z4 T)
def zbc (T:Txt K mg a):Cal P w K mg base "round_of" 9 ["work","limit"] [.int 200] (zc2 a rOf):=T.iJ.cald (Z4 T)
def QB {A W Z:Prop} [Decidable A] (z:Z) (w:A->Z->W):if A then W else Z:=by
 by_cases h:A
 ·rw [aA h];exact w h z
 ·rw [aq h];exact z
inductive spLimit (K:A0) (a:Ad) (vs:Ao) (H:Hp) (Q:VK) (E:XK):Prop
 | i (l:Addr) (ns:A6) (vw:V) (bs:A1) (rs:As) (p:A5):vs=[.ref l,vw]->SqL K H l (iv ns)->Rep H p vw (qf a bs rs)->(∀ lim:Nat,lim<=1000->Q (.int lim) H)->spLimit K a vs H Q E
def zcG (T:Txt K mg a):Cal P w K mg base "_law_limit" 2 ["_law_script","_law_work_here"] [] (spLimit K a):=T.lh.cal λ F=>by
 refine F.okx zaw ?_ ?_
 ·walk_at "i"
 walk_at "j";rcases h with ⟨l,ns,vw,bs,rs,p,rfl,hl,hv,k⟩;refine oE7 (qo hv) λ yw dx fs l1 l2 bvs me l9=>oA9 l9 λ m5 hy e1 e2 h1 h2 hB hK no=>?_;clear l9;subst m5;have kk:∀ n:Int,0<=n->n<=1000->Q (.int n) H:=λ n a b=>by
  obtain ⟨m,rfl⟩:∃ m:Nat,n=m:=⟨n.toNat,by lia⟩;exact k m (by lia)
 walk_at "T";refine ⟨_,(zg (zo 2 zaw.nd ‹‹(pq 0) (za zd zb)› (za zd zb)›)  (zg (zx (PW.pt (pw_and (zl Zg (zO (pq 2)) zd (zn _)) (pw_and1 (zl (qA hr.units1) (zy zN zJ (za (zk (pq 1) rfl) zb)) zd (zn _)))))  (zc (zj zd))  zm)  (zg (zx (PW.pt (pw_and (zl (qA hr.units1) (zO (pq 2)) zd (zn _)) (pw_and1 (zl Zg (zy zN zJ (za (zk (pq 1) rfl) zb)) zd (zn _)))))  (zc (zj zd))  zm)  (zg (zx (zl (qA hr.units1) (zO (pq 2)) zd (zn _))  (zc (zj (zw zP zd (zO (zU (pq 2))))))  zm)  (zg (zx (PW.pt (pw_and (zl (qA hr.units1) (zO (pq 2)) zd (zn _)) (pw_and1 (zl Zg (zy zN zJ (za (zk (pq 1) rfl) zb)) zd (zn _)))))  (zc (zj (zw zP zd (zO (zU (pq 2))))))  zm)  (zg (zx (PW.pt (pw_and (zl (qA hr.units1) (zO (pq 2)) zd (zn _)) (pw_and1 (zl Zg (zy zN zJ (za (zk (pq 1) rfl) zb)) zd (zn _)))))  (zc (zj (zw zP zd (zO (zU (pq 2))))))  zm)  (zg (zx (zl Xs (zy zN zJ (za (zk (pq 1) rfl) zb)) zd (zn _))  (zc (zj (zw zP zd (zO (zU (pq 2))))))  zm)  (zc (zj (zw zP zd (zO (zU (pq 2))))))))))))),?_⟩;exists uc (qM T).mono (uc (zd8 T).mono (iE3 l ns 7 (iA3 rfl hl ?_)));refine iE2 _ _ (iA4 rfl (by decide) (by decide) ?_);have u0:=jb (Qb ns 7) 1207959571;generalize xJ (Qb ns 7) 1207959571=nu at u0 ⊢;exists QB ?_ (λ _ z=>⟨fU,iE5 yw a.u dx fs _ (iA6 rfl hy T.fG T.fJ e1 ⟨_,⟨.inl ⟨_,SqL.of h1,rfl⟩,zA (λ _=>kk _ (by decide) (by decide)) (λ _=>z)⟩⟩)⟩);exists QB ?_ (λ _ z=>⟨fU,iE5 yw a.u dx fs _ (iA6 rfl hy T.fG T.fJ e1 ⟨_,⟨.inl ⟨_,SqL.of h1,rfl⟩,zA (λ _=>kk _ (by decide) (by decide)) (λ _=>z)⟩⟩)⟩);exists zA (λ _=>(kk _ (by lia) (by lia))) (λ _=>?_);exists QB ?_ (λ _ z=>⟨fU,iE5 yw a.u dx fs _ (iA6 rfl hy T.fG T.fJ e1 ⟨_,⟨.inl ⟨_,SqL.of h1,rfl⟩,zA (λ _=>(kk _ (by lia) (by lia))) (λ _=>z)⟩⟩)⟩);exists QB ?_ (λ _ z=>⟨fU,iE5 yw a.u dx fs _ (iA6 rfl hy T.fG T.fJ e1 ⟨_,⟨.inl ⟨_,SqL.of h1,rfl⟩,zA (λ _=>(kk _ (by lia) (by lia))) (λ _=>z)⟩⟩)⟩);exists ra hy T.fG T.fJ e1 ⟨_,.inl ⟨_,SqL.of h1,rfl⟩,zA (λ _=>(kk _ (by lia) (by lia))) (λ _=>?_)⟩;left;exact (kk _ (by lia) (by lia))
def zhb (a:Ad) (R:List (Int × Int)->List Row->Nat->Hp->V->Hp->Prop):Sp:=λ vs H Q _=>∃ (vw:V) (lim:Nat) (bs:A1) (rs:As),vs=[vw,.int lim]/\Rep H (Off []) vw (qf a bs rs)/\qc bs rs/\(∀ b∈bs,zF b.1 b.2)/\(∀ r∈rs,r.ok)/\lim<=1000/\∀ v H',Same H H'->R bs rs lim H v H'->Q v H'
def zfN (bs:A1) (rs:As) (lim:Nat) (_:Hp) (v:V) (H':Hp):Prop:=(x8 bs rs lim/\v=.non)\/∃ i j t,RoundAt bs rs lim i j/\v=.ref t/\H' t=some (.tup [.int i,.int ((j:Int) - i)])
def XT (T:Txt K mg a):Cal P w K mg base "_law_round" 10 ["_law_work_here","_law_limit_here"] [] (zhb a zfN):=T.lj.cal λ F=>by
 refine F.okx zau ?_ ?_
 ·walk_at "i"
 walk_at "j";refine oE4 h λ vw lim bs rs l9=>oA7 l9 λ m5 hv mi bo ro l1000 k=>?_;clear l9 h;subst m5;walk_at "T";refine ⟨_,(zh (zo 2 zau.nd zz)  (zh (zfQ ⟨rfl,rfl,rfl⟩ rfl (λ pn G=>(zc (zx (zl (qA hr.units1) (pq 1) zd (zn _))  (zc (zo 2 zau.nd ‹(pq 0) zb›))  (zc (zo 2 zau.nd ‹(pq 0) (za (pq 1) zb)›))))) (λ pn a=>(zc (zo 2 zau.nd zz))))  (zc (zj (pq 2))))),?_⟩;left;unfold zfg;exists ⟨a.h,iA3 T.ia T.lC (λ pn=>zA (λ e=>?_) (λ _=>?_))⟩
 ·have e:lim=200:=by lia
  subst e;exact iE3 _ _ _ ⟨(zbc T).mono,⟨vw,200,bs,rs,rfl,hv,mi,bo,ro,l1000,λ i j v H1 rnd s1 ⟨t,e,ht⟩=>k v H1 s1 (.inr (iE3 i j t (iA3 rnd e ht))),λ nr H1 s1=>⟨a.h,iA3 rfl T.ge (λ _ _=>k _ _ s1 (.inl ⟨nr,rfl⟩))⟩⟩⟩
 ·exact uc (vQ T).mono (iE4 vw lim bs rs (iA8 rfl hv mi bo ro l1000 (λ i j v H1 rnd s1 ⟨t,e,ht⟩=>k v H1 s1 (.inr (iE3 i j t (iA3 rnd e ht)))) (λ nr H1 s1=>⟨a.h,iA3 rfl T.ge (λ _ _=>k _ _ s1 (.inl ⟨nr,rfl⟩))⟩)))
def six (L:Int):Prop:=L=1\/L=2\/L=3\/L=4\/L=6\/L=12
def zfG {L:Int} (p:0 < L) (d:L ∣ 12):six L:=by
 have l:=Int.le_of_dvd (by decide) d;obtain ⟨q,hq⟩:=d;have h:L=1\/L=2\/L=3\/L=4\/L=5\/L=6\/L=7\/L=8\/L=9\/L=10\/L=11\/L=12:=by lia
 unfold six;rcases h with rfl|rfl|rfl|rfl|rfl|rfl|rfl|rfl|rfl|rfl|rfl|rfl <;> lia
def zed {L d:Int} (h:six L) (e:([1,2,3,4,6]:A6)[i]?=some d) (no:∀ x∈([1,2,3,4,6]:A6).take i,¬ L ∣ x) (y:L ∣ d):d=L:=by
 match i,e with
 | 0,e=>cases e;rcases h with rfl|rfl|rfl|rfl|rfl|rfl <;> revert y no <;> decide
 | 1,e=>cases e;rcases h with rfl|rfl|rfl|rfl|rfl|rfl <;> revert y no <;> decide
 | 2,e=>cases e;rcases h with rfl|rfl|rfl|rfl|rfl|rfl <;> revert y no <;> decide
 | 3,e=>cases e;rcases h with rfl|rfl|rfl|rfl|rfl|rfl <;> revert y no <;> decide
 | 4,e=>cases e;rcases h with rfl|rfl|rfl|rfl|rfl|rfl <;> revert y no <;> decide
 | i + 5,e=>simp at e
def zcM {L:Int} (h:six L) (no:∀ x∈([1,2,3,4,6]:A6),¬ L ∣ x):L=12:=by
 rcases h with rfl|rfl|rfl|rfl|rfl|rfl <;> revert no <;> decide
def all_dv {b:Int}:(ns.map λ n=>decide (b % n=0)).all id=true ↔ ∀ n∈ns,n ∣ b:=by
 rw [dc];constructor
 ·intro h n hn;have:=h _ (aP.mpr ⟨n,hn,rfl⟩);exact Int.dvd_of_emod_eq_zero (br this)
 ·intro h x hx;obtain ⟨n,hn,rfl⟩:=aP.mp hx;exact bF (Int.emod_eq_zero_of_dvd (h n hn))
def zhl (h:0<=n) (h4:n<=4):∃ m:Int,(if n > 1 then n else 1)=m/\1<=m/\m<=4/\∀ d:Int,m ∣ d ↔ (0 < n->n ∣ d):=by
 by_cases z:n > 1
 ·rw [aA z];exact ⟨n,rfl,by lia,h4,λ d=>⟨λ x _=>x,λ x=>x (by lia)⟩⟩
 ·rw [aq z];refine ⟨1,iA4 rfl (by lia) (by lia) (λ d=>⟨λ _ p=>?_,λ _=>e6 d⟩)⟩;rw [show n=1 by lia];exact e6 d
def Dv (bs:A1) (rs:As) (d:Int):Prop:=∀ n,x9 bs rs n->n ∣ d
def Dv.snoc {rs:As} {r:Row} {d:Int}:Dv bs (rs ++ [r]) d ↔ Dv bs rs d/\((r.wd=.source\/r.wd=.drain)->0 < r.pace->r.pace ∣ d):=by
 constructor
 ·intro h;refine ⟨λ n hn=>h n ?_,λ hw hp=>h _ (.inr ⟨r,iA4 (by simp) hw rfl hp⟩)⟩;rcases hn with hn|⟨x,hx,q⟩
  ·exact .inl hn
  ·exact .inr ⟨x,bj _ hx,q⟩
 ·rintro ⟨h,g⟩ n (hn|⟨x,hx,hw,rfl,hp⟩)
  ·exact h n (.inl hn)
  ·rcases aF.mp hx with hx|hx
   ·exact h _ (.inr ⟨x,iA4 hx hw rfl hp⟩)
   ·rw [ay.mp hx] at hw hp ⊢;exact g hw hp
section
variable {bs:A1} {rs:As}
def Qe (bo:∀ b∈bs,zF b.1 b.2) (ro:∀ r∈rs,r.ok) (h:x9 bs rs n):0 < n/\n<=4:=by
 rcases h with ⟨b,hb,rfl⟩|⟨r,hr,hw,rfl,hp⟩
 ·have h:=bo b hb;exact ⟨by have:=h.2.2.1;lia,h.2.2.2⟩
 ·exact ⟨hp,(Q3 (ro r hr) hw).2⟩
def ze9 (bo:∀ b∈bs,zF b.1 b.2) (ro:∀ r∈rs,r.ok):∃ L,Z1 bs rs L:=by
 have hm:∀ n,n∈(bs.map (·.2) ++ (rs.filter λ r=>decide ((r.wd=.source\/r.wd=.drain)/\0 < r.pace)).map Row.pace) ↔ x9 bs rs n:=λ n=>by
  simp only [aF,aP,b7,bJ,x9];constructor
  ·rintro (⟨b,hb,e⟩|⟨r,⟨hr,hw,hp⟩,e⟩)
   ·exact .inl ⟨b,hb,e⟩
   ·exact .inr ⟨r,iA4 hr hw e (by rw [<- e];exact hp)⟩
  ·rintro (⟨b,hb,e⟩|⟨r,hr,hw,e,hp⟩)
   ·exact .inl ⟨b,hb,e⟩
   ·exact .inr ⟨r,⟨hr,hw,by rw [e];exact hp⟩,e⟩
 obtain ⟨L,hL⟩:=IsLcm.ex (ns:=bs.map (·.2) ++ (rs.filter λ r=>decide ((r.wd=.source\/r.wd=.drain)/\0 < r.pace)).map Row.pace) λ n hn=>by
  have b4:=Qe bo ro ((hm n).mp hn)
  lia
 exact iE2 L _ ⟨hL,hm⟩
def vS (bo:∀ b∈bs,zF b.1 b.2) (ro:∀ r∈rs,r.ok):0 < qB bs rs/\∀ d,qB bs rs ∣ d ↔ Dv bs rs d:=by
 obtain ⟨L,hL⟩:=ze9 bo ro;rw [<- V6 hL];obtain ⟨ns,il,im⟩:=hL;exact ⟨il.pos,λ d=>⟨λ h n hn=>Int.dvd_trans (il.dv n ((im n).mpr hn)) h,λ h=>il.least d λ n hn=>h n ((im n).mp hn)⟩⟩
def zcN (bo:∀ b∈bs,zF b.1 b.2) (ro:∀ r∈rs,r.ok):six (qB bs rs):=by
 obtain ⟨p,h⟩:=vS bo ro;refine zfG p ((h 12).mpr λ n hn=>?_);have b4:=Qe bo ro hn;have:n=1\/n=2\/n=3\/n=4:=by lia
 rcases this with rfl|rfl|rfl|rfl <;> decide
end
inductive spBeatL (a:Ad) (vs:Ao) (H:Hp) (Q:VK) (E:XK):Prop
 | i (vw:V) (bs:A1) (rs:As) (p:A5):vs=[vw]->Rep H p vw (qf a bs rs)->bs.length<=24->rs.length<=24->(∀ b∈bs,zF b.1 b.2)->(∀ r∈rs,r.ok)->(∀ H',Same H H'->Q (.int (qB bs rs)) H')->spBeatL a vs H Q E
def zd7 (T:Txt K mg a):Cal P w K mg base "_law_beat" 1 ["_law_work_here"] [] (spBeatL a):=T.lJ.cal λ F=>by
 refine F.okx zcc ?_ ?_
 ·walk_at "i"
 walk_at "j";rcases h with ⟨v,bs,rs,p,rfl,hv,lb,lr,bo,ro,k⟩;refine oE7 (qo hv) λ y dx fs l1 l2 bvs me l9=>oA9 l9 λ m5 hy e1 e2 h1 h2 hB hK no=>?_;clear l9;subst m5;obtain ⟨bp,bd⟩:=vS bo ro;have b6:=zcN bo ro;generalize qB bs rs=L at bp bd b6 k;walk_at "T";refine ⟨_,(zg (Q6 (i:=1) zcc.nd rfl (Or.inl rfl) (vars:=["_law_belt_here"]) (caps:=[]) (N:=["_law_belt_here"]) (ON:=["_law_work_here","_law_paces","_law_knot","_law_beat_here"]) (osc:=ze wp) rfl rfl (by right) rfl rfl (zX (zk (pq 0) rfl)) (λ _ _ _ _=>(qd 0 (show (["_law_belt_here"]:A8).Nodup from by symm))) (λ _ _ _ _=>z6) (λ _ _ _ _=>(zk (pq 0) rfl)))  (zQ (qq qS rfl (zX (zk (pq 0) rfl)) (qd 2 zcc.nd)  (zc (zx (PW.pt (pw_or (zK (zy qr zr (za (pq 2) (za qC zb))) (λ _=>rfl)) (pw_or1 (zK (zy qr zr (za (pq 2) (za qC zb))) (λ _=>rfl)))))  (zc (zp (qk am ax aw zE (pq 1) (za (zy (XO rfl) zeb (za zd (za (zk (pq 2) rfl) zb))) zb))))  zm)))  (zQ (qq qS rfl (zX (zC (za zd (za zd (za zd (za zd (za zd zb))))))) (zbp (i:=3) zcc.nd rfl (Or.inr rfl))  (zc (zx (zK (zy (zgt rfl) zgr (za (xb (vars:=["_law_pace"]) (caps:=[3]) (N:=["_law_pace","_law_beat_here"]) (ON:=["_law_work_here","_law_paces","_law_knot","_law_beat_here"]) (osc:=ze wp) rfl rfl (by right) rfl rfl (zX (pq 1)) (λ _ _ _ _=>(qd 0 (show (["_law_pace","_law_beat_here"]:A8).Nodup from by symm))) (λ _ _ _ _=>z6) (λ _ _ _ _=>(wQ (Vy hr.units1) (zw qa (pq 1) (pq 0)) zd (zn _)))) zb)) (λ _=>rfl))  (zc (zj (pq 3)))  zm)))  (zc (zj zd))))),?_⟩;left;walk_at "d";exists ra hy T.fG T.fJ e1 ⟨l1,rfl,.inl ⟨⟨_,SqL.of h1⟩,λ _ _ _ _ mf hacc=>?_⟩⟩;refine qt (K:=K) (a:=l1) (xs:=bvs) (λ i σ H'=>∃ (v0:Ap),σ=[v0]/\Same H H'/\H' mf=some (.lst (iv ((bs.take i).map (·.2))))) ⟨_,iA3 rfl (zf hacc) (by rw [cq];exact mv)⟩ (λ i σ H' _ h=>by obtain ⟨_,_,s,_⟩:=h;exact SqL.of (s _ _ h1)) ?_ ?_
 ·intro i x σ H' hi m8;refine oE1 m8 λ v0 l9=>oA3 l9 λ m5 s7 e7=>?_;ext;obtain ⟨b,hr',hBt⟩:=hB.at hi;refine oE3 hBt.inv λ y1 dx1 fs1 l9=>oA5 l9 λ m5 _ g0 f1 f2=>?_;clear l9;subst m5;have hil:=(aa.mp hr').1;exists ra (s7 _ _ g0) T.gq T.fY f2 ?_;refine ⟨_,iA3 e7 (zi (by rw [zu,ah,aW];lia)) ⟨_,iA3 rfl (λ b o hb=>by rw [mw (my hb hacc)];exact s7 b o hb) ?_⟩⟩;rw [mv,aR,hr',a7,qw]
  rfl
 intro σ H2 m8;refine oE1 m8 λ v0 l9=>oA3 l9 λ m5 s2 ha=>?_;ext;rw [hB.len,aV] at ha;exists cut (λ σ' H'=>∃ (v2:Ap) (ns:A6),σ'=[some (.ref y),some (.ref mf),v2,none]/\Same H H'/\H' mf=some (.lst (iv ns))/\ns.length<=48/\(∀ n∈ns,1<=n/\n<=4)/\∀ d,(∀ n∈ns,n ∣ d) ↔ Dv bs rs d) ?_ ?_
 ·walk_at "e";exists ra (s2 _ _ hy) T.fG T.fF e2 ⟨l2,rfl,.inl ⟨⟨_,SqL.of (s2 _ _ h2)⟩,?_⟩⟩;refine qt (K:=K) (a:=l2) (xs:=me) (λ i σ H'=>∃ (v2:Ap) (ns:A6),σ=[some (.ref y),some (.ref mf),v2,none]/\Same H H'/\H' mf=some (.lst (iv ns))/\ns.length<=bs.length + i/\(∀ n∈ns,1<=n/\n<=4)/\∀ d,(∀ n∈ns,n ∣ d) ↔ Dv bs (rs.take i) d) (iE2 _ (bs.map (·.2)) (iA6 rfl s2 ha (by simp) ?_ ?_)) (λ i σ H' _ h=>by obtain ⟨_,_,_,s,_⟩:=h;exact SqL.of (s _ _ h2)) ?_ ?_
  ·intro n hn;obtain ⟨b,hb,rfl⟩:=aP.mp hn;have h:=bo b hb;exact ⟨h.2.2.1,h.2.2.2⟩
  ·intro d;constructor
   ·rintro h n (⟨b,hb,rfl⟩|⟨r,hr,_⟩)
    ·exact h _ (aP.mpr ⟨b,hb,rfl⟩)
    ·exact absurd hr (by simp)
   ·intro h n hn;obtain ⟨b,hb,rfl⟩:=aP.mp hn;exact h _ (.inl ⟨b,hb,rfl⟩)
  ·intro i x σ H6 hi m8;refine oE2 m8 λ v2 ns l9=>oA6 l9 λ m5 s6 ha6 ln pn dn=>?_;ext;obtain ⟨r,hr',hKn⟩:=hK.at hi;refine oE6 hKn.inv λ y1 dx1 m1 m2 m3 fs1 l9=>oA9 l9 λ m5 _ _ _ _ g0 _ _ mh=>oA5 mh λ _ _ _ _ fp=>?_;clear l9 mh;subst m5;have hil:=(aa.mp hr').1;have tk:rs.take (i + 1)=rs.take i ++ [r]:=by rw [aR,hr'];rfl
   exists iE2 (.ref a.o) _ (iA3 T.gC rfl (iE4 _ _ _ _ (iA4 rfl ((WT T r.wd).ty (CT T r.wd) (s6 _ _ g0)) (.inl ⟨_,rfl,zeX T r.wd⟩) ?_)));exists zbB (C:=r.wd=.drain) (λ hw=>?_) (λ n1 hp=>?_)
   ·have hp:=Q3 (ro r (ai hr')) hw;have NP:NoAttr K (xf a r.wd) "pace":=by
     rcases hw with z|z
     ·rw [z];exact T.fS
     ·rw [z];exact T.fR
    refine oE1 (zhl hp.1 hp.2) λ m l9=>oA4 l9 λ em m1 m4 md=>?_;clear l9;exists iA3 (.inl ⟨rfl,_,SqL.of ha6⟩) kP (iE5 y1 (xf a r.wd) dx1 fs1 _ (iA6 rfl (s6 _ _ g0) (CT T _) NP (fp hw) (iE2 _ _ ⟨rfl,?_⟩)));rw [em];refine iE3 mf _ _ (iA5 rfl rfl ha6 (zi (by rw [zu];lia)) ?_);rw [qw];refine iE2 _ (ns ++ [m]) (iA6 rfl (λ b o hb=>by rw [mw (my hb hacc)];exact s6 b o hb) mv (by simp;lia) (λ n hn=>?_) (λ d=>?_))
    ·rcases aF.mp hn with hn|hn
     ·exact pn n hn
     ·rw [ay.mp hn];exact ⟨m1,m4⟩
    ·rw [tk,Dv.snoc,<- dn d];constructor
     ·intro h;exact ⟨λ n hn=>h n (bj _ hn),λ _=>(md d).mp (h m (by simp))⟩
     ·rintro ⟨h,g⟩ n hn;rcases aF.mp hn with hn|hn
      ·exact h n hn
      ·rw [ay.mp hn];exact (md d).mpr (g hw)
   exists iE2 (.ref a.p) _ (iA3 T.kh rfl (iE4 _ _ _ _ (iA4 rfl ((WT T r.wd).ty (CT T r.wd) (s6 _ _ g0)) (.inl ⟨_,rfl,zgQ T r.wd⟩) ?_)));exists zA (λ z=>hp z) (λ n2=>(iE2 _ ns (iA6 rfl s6 ha6 (by lia) pn (λ d=>?_))));rw [tk,Dv.snoc,<- dn d];exact ⟨λ h=>⟨h,λ z=>absurd z (λ z=>z.elim n1 n2)⟩,λ h=>h.1⟩
  ·intro σ H6 m8;refine oE2 m8 λ v2 ns l9=>oA6 l9 λ m5 s6 ha6 ln pn dn=>?_;ext;rw [hK.len] at ln dn;rw [aV] at dn;exact iE2 _ ns (iA6 rfl s6 ha6 (by lia) pn dn)
 clear ha s2;intro σ' H3 m8;refine oE2 m8 λ v2 ns l9=>oA6 l9 λ m5 s3 ha3 ln pn dn=>?_;ext;have dv:∀ d,(∀ n∈ns,n ∣ d) ↔ L ∣ d:=λ d=>(dn d).trans (bd d).symm;exists cut (λ σ' H'=>∃ (v3:Ap),σ'=[some (.ref y),some (.ref mf),v2,v3]/\Same H H'/\L=12) ?_ ?_
 ·walk_at "e";left;intro B hB';have sB:=zf (o:=.lst [V.int 1,.int 2,.int 3,.int 4,.int 6]) hB';have hB3:upd H3 B (.lst [V.int 1,.int 2,.int 3,.int 4,.int 6]) B=some (.lst (iv [1,2,3,4,6])):=mv;have s4:=s3.trans sB;have ha4:=sB _ _ ha3;generalize upd H3 B (.lst [V.int 1,.int 2,.int 3,.int 4,.int 6])=H4 at s4 ha4 hB3 ⊢;clear s3 ha3 sB hB';refine ⟨B,rfl,.inl ⟨⟨_,SqL.of hB3⟩,?_⟩⟩;refine qt (K:=K) (a:=B) (xs:=iv [1,2,3,4,6]) (λ i σ H'=>∃ (v3:Ap),σ=[some (.ref y),some (.ref mf),v2,v3]/\Same H H'/\Same H4 H'/\∀ x∈([1,2,3,4,6]:A6).take i,¬ L ∣ x) ⟨_,iA4 rfl s4 (Same.refl _) (λ x hx=>by simp at hx)⟩ (λ i σ H' _ h=>by obtain ⟨_,_,_,s,_⟩:=h;exact SqL.of (s _ _ hB3)) ?_ ?_
  ·intro i x σ H5 hi m8;refine oE1 m8 λ v3 l9=>oA4 l9 λ m5 s5 t5 no=>?_;ext;obtain ⟨d,hd,rfl⟩:=Zn hi;left;walk_at "d";exists ⟨mf,rfl,.inl ⟨⟨_,SqL.of (t5 _ _ ha4)⟩,λ _ _ _ _ ac hac=>?_⟩⟩;refine qt (K:=K) (a:=mf) (xs:=iv ns) (λ j σ H'=>∃ (v0:Ap),σ=[v0,some (.int d)]/\Same H5 H'/\H' ac=some (.lst (((ns.take j).map λ n=>decide (d % n=0)).map V.bl))) ⟨_,iA3 rfl (zf hac) mv⟩ (λ j σ H' _ h=>by obtain ⟨_,_,s,_⟩:=h;exact SqL.of (s _ _ (t5 _ _ ha4))) ?_ ?_
   ·intro j z σ H6 hj m8;refine oE1 m8 λ v0 l9=>oA3 l9 λ m5 s6 h6=>?_;ext;obtain ⟨n,hn,rfl⟩:=Zn hj;have hjl:=(aa.mp hn).1;have n1:=(pn n (ai hn)).1;exists ⟨_,iA3 h6 (zi (by rw [ah,ah,aW];lia)) ⟨_,iA3 rfl (λ b o hb=>by rw [mw (my hb hac)];exact s6 b o hb) ?_⟩⟩;rw [mv,aR,hn];simp
   intro σ H6 m8;refine oE1 m8 λ v0 l9=>oA3 l9 λ m5 s6 h6=>?_;ext;rw [zu,aV] at h6;refine iE2 ac _ (iA3 rfl h6 ?_);exists zA (λ z=>?_) (λ z=>?_)
   ·have z:=(dv d).mp (all_dv.mp z);left;rw [zed b6 hd no z];exact k _ (s5.trans s6)
   ·refine ⟨_,iA4 rfl (s5.trans s6) (t5.trans s6) (λ x hx=>?_)⟩;rw [aR,hd] at hx;rcases aF.mp hx with hx|hx
    ·exact no x hx
    ·rw [show x=d by simpa using hx];exact λ q=>z (all_dv.mpr ((dv d).mpr q))
  ·intro σ H5 m8;refine oE1 m8 λ v3 l9=>oA4 l9 λ m5 s5 t5 no=>?_;ext;exact ⟨_,iA3 rfl s5 (zcM b6 no)⟩
 intro σ' H5 m8;refine oE1 m8 λ v3 l9=>oA3 l9 λ m5 s5 mh=>?_;clear l9 m8;subst m5 mh;left;exact k _ s5
theorem zcH (T:Txt K mg a):Cal P w K mg base "_law_kinds" 1 ["_law_work_here","_law_cells"] [] (Xo a):=T.ll.cal λ F=>by
 refine F.okx zax ?_ ?_
 ·walk_at "i"
 walk_at "j";refine oE8 h λ vw cb us bs rs c p q l9=>oA8 l9 λ m5 hw hcb rus wk ro c6 k=>?_;clear l9 h;subst m5;have lu:us.length=c.length:=by rw [rus.len,ah]
 refine oE7 (qo hw) λ yw dx fs l1 l2 bvs me l9=>oA9 l9 λ m5 hy e1 e2 h1 h2 hB hK no=>?_;clear l9;subst m5;walk_at "T";refine ⟨_,(zg (zo 2 zax.nd (zC zb))  (zQ (qq qS rfl (zX (pq 1)) (qd 3 zax.nd)  (zc (zx (zl qZ (pq 3) zz (zn _))  (zc (zp (qk am ax aw zE (pq 2) (za zz zb))))  (zg (zo 4 zax.nd (zk (zt (zk (pq 0) rfl) (zt (pq 3) zd)) rfl))  (zc (zp (qk am ax aw zE (pq 2) (za (zt (pq 4) (zw qa (zt (pq 3) zd) (zy zN zJ (za (pq 4) zb)))) zb))))))))  (zc (zj (jz jA jm (za (pq 2) zb)))))),?_⟩;left;intro R hR;have sR:=zf (o:=.lst []) hR;have hR1:upd H R (.lst []) R=some (.lst ((qi rs (c.take 0)).map oiV)):=mv;generalize upd H R (.lst [])=H1 at sR hR1 ⊢;exists cut (λ σ' H'=>∃ (v3 v4:Ap),σ'=[some (.ref yw),some (.ref cb),some (.ref R),v3,v4]/\Same H H'/\H' R=some (.lst ((qi rs c).map oiV))) ?_ ?_
 ·walk_at "e";exists ⟨cb,rfl,.inl ⟨⟨_,SqL.of (sR _ _ hcb)⟩,?_⟩⟩;refine qt (K:=K) (a:=cb) (xs:=us) (λ j σ H'=>∃ (v3 v4:Ap),σ=[some (.ref yw),some (.ref cb),some (.ref R),v3,v4]/\Same H H'/\H' R=some (.lst ((qi rs (c.take j)).map oiV))) (iE2 _ _ (iA3 rfl sR hR1)) (λ i σ H' _ h=>by obtain ⟨_,_,_,s,_⟩:=h;exact SqL.of (s _ _ hcb)) ?_ ?_
  ·intro j v σ H2 hj m8;refine oE2 m8 λ v3 v4 l9=>oA3 l9 λ m5 s2 ha=>?_;ext;obtain ⟨d,hd,rv⟩:=rus.at hj;rw [au,aC] at hd;obtain ⟨wr,hwr,rfl⟩:=hd;have hjl:=(aa.mp hwr).1;have e:(qi rs (c.take (j + 1))).map oiV=(qi rs (c.take j)).map oiV ++ [oiV (wr.map (kdW rs))]:=by
    rw [aR,hwr];simp [qi]
   have lk:((qi rs (c.take j)).map oiV).length<=6:=by simp [qi];lia
   have sn:∀ (x:V),Same H (upd H2 R (.lst ((qi rs (c.take j)).map oiV ++ [x]))):=λ x b o hb=>by rw [mw (my hb hR)];exact s2 b o hb
   cases wr with
   | none =>
    have rv:Rep H q v .non:=rv;cases rv;left;exact ⟨.inl ⟨rfl,_,SqL.of ha⟩,iE3 R _ _ (iA5 rfl rfl ha (zi (by lia)) (iE2 _ _ (iA3 rfl (sn _) (by rw [mv,e];rfl))))⟩
   | some x =>
    obtain ⟨tx,rfl,htx⟩:=Jc (b:=x) rv;refine oE2 (wk _ (ai hwr) x.1 x.2 rfl) λ jj r l9=>oA4 l9 λ ej hr' hs _=>?_;clear l9;obtain ⟨kv,hkv,hKn⟩:=QA hK hr';refine oE6 hKn.inv λ y1 dx1 m1 m2 m3 fs1 l9=>oA9 l9 λ m5 _ _ _ _ g0 _ _ mh=>oA5 mh λ _ _ _ g3 _=>?_;clear l9 mh;subst m5;obtain ⟨g3a,g3b⟩:=g3 hs;have kp:0 < r.kinds.length:=by
     have ok:=ro r (ai hr');unfold Row.ok at ok;rw [hs] at ok;have:=ok.2.2.2.2.1
     lia
    have htx2:=s2 _ _ htx;rw [ej] at htx2;exists ra (s2 _ _ hy) T.fG T.fF e2 (mB htx2 at0 (zq (SqL.of (s2 _ _ h2)) (zL hkv) ?_));refine iE5 y1 (xf a r.wd) dx1 fs1 _ (iA6 rfl (s2 _ _ g0) (CT T _) (by rw [hs];exact T.fK) g3a ?_);exists ⟨.inl ⟨rfl,_,SqL.of ha⟩,mB htx2 rfl ?_⟩;exists ⟨_,.inl ⟨_,SqL.of (s2 _ _ g3b),rfl⟩,?_⟩;rw [zu];exists ⟨by lia,zq (SqL.of (s2 _ _ g3b)) (XE x.2 kp) ?_⟩;refine iE3 R _ _ (iA5 rfl rfl ha (zi (by lia)) (iE2 _ _ (iA3 rfl (sn _) ?_)));rw [mv,e];show _=some (HO.lst (_ ++ [V.int (kdW rs x)]))
    unfold kdW;rw [ej,aX,hr']
    rfl
  ·intro σ H2 m8;refine oE2 m8 λ v3 v4 l9=>oA3 l9 λ m5 s2 ha=>?_;ext;rw [lu,aV] at ha;exact iE2 _ _ (iA3 rfl s2 ha)
 intro σ' H2 m8;refine oE2 m8 λ v3 v4 l9=>oA3 l9 λ m5 s2 ha=>?_;ext;exists iE2 R _ ⟨rfl,.inl ⟨SqL.of ha,λ t ht=>?_⟩⟩;exact k t _ (s2.trans (zf ht)) (zM s2 ht) mv
def zc1 (a:Ad):Sp:=λ vs H Q _=>∃ (vw:V) (y:Addr) (n:SN) (bs:A1) (rs:As) (st:PSt) (p:A5),vs=[vw,.ref y,.int (qB bs rs)]/\Rep H p vw (qf a bs rs)/\StO a H y n st/\stWf bs rs st/\bs.length<=24/\rs.length<=24/\(∀ b∈bs,zF b.1 b.2)/\(∀ r∈rs,r.ok)/\∀ t H',Same H H'->Rep H' (zT H') (.ref t) (shD (zan bs rs st))->Q (.ref t) H'
def zcF (T:Txt K mg a):Cal P w K mg base "_law_shape" 2 ["_law_work_here","_law_state","_law_beat_here"] [] (zc1 a):=T.lw.cal λ F=>by
 refine F.okx zat ?_ ?_
 ·walk_at "i"
 walk_at "j";refine oE7 h λ vw y n bs rs st p l9=>oA9 l9 λ m5 hv so wf b24 r24 bo ro k=>?_;clear l9 h;subst m5;refine oE7 (qo hv) λ yw dx fs l1 l2 bvs me l9=>oA9 l9 λ m5 hy e1 e2 h1 h2 hB hK no=>?_;clear l9;subst m5;have bp:=(vS bo ro).1;have lc:n.acs.length=st.cells.length:=by rw [so.hc.len,z7,ah]
 have lcb:st.cells.length=bs.length:=wf.co.1;walk_at "T";refine ⟨_,(zg (zo 3 zat.nd (zC zb))  (zQ (qq qS rfl (qQ (za (zk (pq 0) rfl) zb)) (ZV (n:=2) rfl (qz (qd 4 zat.nd) (qz (qd 5 zat.nd) wP)))  (zc (zx (zK (zy qr zr (za (pq 5) (za qC zb))) (λ _=>rfl))  (zc (zp (qk am ax aw zE (pq 3) (za (zw qa (zt (zt (zk (pq 1) rfl) (pq 4)) zd) (zy zN zJ (za (zk (pq 5) rfl) zb))) zb))))  zm)))  (zg (zo 6 zat.nd (jz jA jm (za (xb (vars:=["_law_cells"]) (caps:=[0]) (N:=["_law_cells","_law_work_here"]) (ON:=["_law_work_here","_law_state","_law_beat_here","_law_counts","_law_k","_law_knot","_law_belts"]) (osc:=ze wL) rfl rfl (by right) rfl rfl (zX (zk (pq 1) rfl)) (λ _ _ _ _=>(qd 0 (show (["_law_cells","_law_work_here"]:A8).Nodup from by symm))) (λ _ _ _ _=>z6) (λ _ _ _ _=>(ZW hr (za (pq 1) (za (pq 0) zb))))) zb)))  (zc (zj (ji (za (zw qa (zk (pq 1) rfl) (pq 2)) (za (pq 6) (za (jz jA jm (za (zk (pq 1) rfl) zb)) (za (jz jA jm (za (pq 3) zb)) zb)))))))))),?_⟩;left;intro C hC;have sC:=zf (o:=.lst []) hC;have hC1:upd H C (.lst []) C=some (.lst (((qJ .source rs 0).map λ j=>some (qv rs st j)).map oiV)):=mv;generalize upd H C (.lst [])=H1 at sC hC1 ⊢;exists cut (λ σ' H'=>∃ (v4 v5:Ap),σ'=[some (.ref yw),some (.ref y),some (.int (qB bs rs)),some (.ref C),v4,v5,none]/\Same H H'/\H' C=some (.lst (((zB .source rs).map λ j=>some (qv rs st j)).map oiV))) ?_ ?_
 ·walk_at "e";exists ra (sC _ _ hy) T.fG T.fF e2 (iE2 l2 _ (iA3 rfl (sC _ _ h2) ?_));refine XH (K:=K) (a:=l2) (xs:=me) (λ i σ H'=>∃ (v4 v5:Ap),σ=[some (.ref yw),some (.ref y),some (.int (qB bs rs)),some (.ref C),v4,v5,none]/\Same H H'/\H' C=some (.lst (((qJ .source rs i).map λ j=>some (qv rs st j)).map oiV))) (iE2 _ _ (iA3 rfl sC hC1)) (λ i σ H' _ h=>by obtain ⟨_,_,_,s,_⟩:=h;exact SqL.of (s _ _ h2)) ?_ ?_
  ·intro i x t σ H2 hi ht m8;refine oE2 m8 λ v4 v5 l9=>oA3 l9 λ m5 s2 ha=>?_;ext;obtain ⟨r,hr',hKn⟩:=hK.at hi;refine oE6 hKn.inv λ y1 dx1 m1 m2 m3 fs1 l9=>oA9 l9 λ m5 _ _ _ _ g0 _ _ mh=>oA5 mh λ _ _ _ g3 _=>?_;clear l9 mh;subst m5;have hil:=(aa.mp hr').1;have s3:=s2.trans (zf (o:=.tup [.int i,.ref y1]) ht);have ha3:=mz (o:=.tup [.int i,.ref y1]) ha ht;refine un2 mv ?_;generalize upd H2 t (.tup [.int i,.ref y1])=H3 at s3 ha3 ⊢;clear s2 ha ht;exists iE2 (.ref a.o) _ (iA3 T.gC rfl (iE4 _ _ _ _ (iA4 rfl ((WT T r.wd).ty (CT T r.wd) (s3 _ _ g0)) (.inl ⟨_,rfl,zeX T r.wd⟩) ?_)));exists zA (λ b=>?_) (λ b=>(iE2 _ _ (iA3 rfl s3 (by rw [jd hr',aq b,bH];exact ha3))));obtain ⟨g3a,g3b⟩:=g3 b;have ok:=ro r (ai hr');have kp:0 < r.kinds.length:=by
    unfold Row.ok at ok;rw [b] at ok;have:=ok.2.2.2.2.1
    lia
   obtain ⟨g,hg⟩:∃ g,st.gone[i]?=some g:=⟨_,ae (by rw [wf.go.1];exact hil)⟩;have q1:=(wf.go.2 i r g hr' hg).1;have cp:=wF ok;obtain ⟨gh,gs,rfl⟩:=cf (dP (by lia:0 < g.length));have so3:=so.same s3;obtain ⟨bG,hbG,hgG⟩:=zdS so3.hg hg;have hmap:(n.ags.map V.ref)[i]?=some (.ref bG):=by rw [au,hbG];rfl
   have ek:qv rs st i=gh % (r.kinds.length:Int):=by
    unfold qv;rw [aX,hr',aT,hg]
    rfl
   exists ⟨.inl ⟨rfl,_,SqL.of ha3⟩,iE5 y a.l n.dx _ _ (iA6 rfl so3.hy T.ad T.fQ rfl (zq (SqL.of so3.hg.out) (zL hmap) (zq (SqL.of hgG) at0 ?_)))⟩;exists iE5 y1 (xf a r.wd) dx1 fs1 _ (iA6 rfl (s3 _ _ g0) (CT T _) (by rw [b];exact T.fK) g3a ⟨_,⟨.inl ⟨_,SqL.of (s3 _ _ g3b),rfl⟩,?_⟩⟩);rw [zu];exists ⟨by lia,iE3 C _ _ (iA5 rfl rfl ha3 (zi (by have:=jq .source rs i;rw [ah,ah];lia)) (iE2 _ _ (iA3 rfl (λ b o hb=>by rw [mw (my hb hC)];exact s3 b o hb) ?_)))⟩;rw [mv,jd hr',aA b,a7,a7];show _=some (HO.lst (_ ++ [V.int (qv rs st i)]))
   rw [ek]
  ·intro σ H2 m8;refine oE2 m8 λ v4 v5 l9=>oA3 l9 λ m5 s2 ha=>?_;ext;rw [hK.len] at ha;exact iE2 _ _ (iA3 rfl s2 ha)
 clear sC hC1;intro σ' H2 m8;refine oE2 m8 λ v4 v5 l9=>oA3 l9 λ m5 s1 hC2=>?_;ext;have so1:=so.same s1;have hv1:Rep H2 p (.ref yw) (qf a bs rs):=hv.keep λ b o hb ho=>⟨hb,s1 _ _ ho⟩;left;walk_at "d";exists ra so1.hy T.ad T.fH rfl ⟨n.lc,rfl,.inl ⟨⟨_,SqL.of so1.hc.out⟩,λ _ _ _ _ mf hacc=>?_⟩⟩;refine qt (K:=K) (a:=n.lc) (xs:=n.acs.map V.ref) (λ i σ H'=>∃ (v0:Ap) (us:Ao),σ=[v0,some (.ref yw)]/\Same H2 H'/\H' mf=some (.lst us)/\us.length=i/\Reps H' (zT H') us ((st.cells.take i).map λ c=>.tup ((qi rs c).map oiD))) (iE2 _ ([]) (iA5 rfl (zf hacc) mv rfl (.nil))) (λ i σ H' _ h=>by obtain ⟨_,_,_,s,_⟩:=h;exact SqL.of (s _ _ so1.hc.out)) ?_ ?_
 ·intro i x σ H3 hi m8;refine oE2 m8 λ v0 us l9=>oA5 l9 λ m5 s2 ha lu ru=>?_;ext;rw [au,aC] at hi;obtain ⟨cb,hcb,rfl⟩:=hi;have hil:i < st.cells.length:=by rw [<- lc];exact (aa.mp hcb).1
  obtain ⟨c,ec⟩:∃ c,st.cells[i]?=some c:=⟨_,ae hil⟩;obtain ⟨vs,hvs,rvs⟩:=so1.hc.g i cb _ hcb (show (z7 st.cells)[i]?=some (c.map qg) by rw [z7,au,ec];rfl);obtain ⟨b,hb⟩:∃ b,bs[i]?=some b:=⟨_,ae (by rw [<- wf.co.1];exact hil)⟩;obtain ⟨lc6,wk⟩:=wf.co.2 i b c hb ec;have bk:=(bo b (ai hb)).2.1;exists uc (zcH T).mono (iE8 (.ref yw) cb vs bs rs c p _ (iA8 rfl (hv1.keep (λ b o hb ho=>⟨hb,s2 _ _ ho⟩)) (s2 _ _ hvs) (rvs.keep (λ b o hb ho=>⟨hb,s2 _ _ ho⟩)) wk ro (by lia) (λ t H4 s3 nt ht=>?_)));have nta:∀ b,zT H4 b->b≠mf:=λ b ⟨xs,hx⟩ z=>by rw [z,s3 _ _ ha] at hx;cases hx
  refine ⟨_,iA3 (s3 _ _ ha) (zi (by lia)) (iE2 _ (us ++ [.ref t]) (iA5 rfl (λ b o hb=>by rw [mw (my hb hacc)];exact s3 _ _ (s2 b o hb)) mv (by simp [lu]) ?_))⟩;rw [aR,ec,a7];refine ((wJ ru s3).append (.one (ZR ht))).keep λ b o tb hb=>?_;have ne:=nta b tb;obtain ⟨xs,hx⟩:=tb;exact ⟨⟨xs,by rw [mw ne];exact hx⟩,by rw [mw ne];exact hb⟩
 intro σ H3 m8;refine oE2 m8 λ v0 us l9=>oA5 l9 λ m5 s2 ha lu ru=>?_;ext;rw [ah,lc,aV] at ru;refine iE2 mf _ ⟨rfl,.inl ⟨SqL.of ha,λ t1 ht1=>?_⟩⟩;have s3:=zf (o:=.tup us) ht1;have ru3:=wJ ru s3;have hT1:upd H3 t1 (.tup us) t1=some (.tup us):=mv;have s13:=s2.trans s3;generalize upd H3 t1 (.tup us)=H4 at s3 ru3 hT1 s13 ⊢;have r1:Rep H4 (zT H4) (.ref t1) (.tup ((st.cells.map (qi rs)).map λ r=>.tup (r.map oiD))):=by
  rw [dC];exact ru3.mkT ⟨_,hT1⟩ hT1
 clear ru ru3 ha hT1 s2 s3;have so6:=so1.same s13;have hC6:=s13 _ _ hC2;exists ra so6.hy T.ad T.fI rfl ?_;exists ra so6.hy T.ad T.fN rfl (iE2 n.ls _ ⟨rfl,.inl ⟨SqL.of so6.hs,λ t3 ht3=>?_⟩⟩);have s7:=zf (o:=.tup (iv st.sides)) ht3;have hT3:upd H4 t3 (.tup (iv st.sides)) t3=some (.tup ((st.sides.map some).map oiV)):=by rw [mv,dC];rfl
 have hC7:=s7 _ _ hC6;generalize upd H4 t3 (.tup (iv st.sides))=H7 at s7 hT3 hC7 ⊢;exists iE2 C _ ⟨rfl,.inl ⟨SqL.of hC7,λ t2 ht2=>?_⟩⟩;have s8:=zf (o:=.tup (((zB .source rs).map λ j=>some (qv rs st j)).map oiV)) ht2;have hT2:upd H7 t2 (.tup (((zB .source rs).map λ j=>some (qv rs st j)).map oiV)) t2=some (.tup (((zB .source rs).map λ j=>some (qv rs st j)).map oiV)):=mv;generalize upd H7 t2 (.tup (((zB .source rs).map λ j=>some (qv rs st j)).map oiV))=H8 at s8 hT2 ⊢;intro t4 ht4;have s9:=zf (o:=.tup [.int (st.turn % qB bs rs),.ref t1,.ref t3,.ref t2]) ht4;have hT4:upd H8 t4 (.tup [.int (st.turn % qB bs rs),.ref t1,.ref t3,.ref t2]) t4=some (.tup [.int (st.turn % qB bs rs),.ref t1,.ref t3,.ref t2]):=mv;generalize upd H8 t4 (.tup [.int (st.turn % qB bs rs),.ref t1,.ref t3,.ref t2])=H9 at s9 hT4 ⊢;refine k t4 H9 ((s1.trans s13).trans (s7.trans (s8.trans s9))) ?_;exact Reps.mkT (vs:=[.int (st.turn % qB bs rs),.ref t1,.ref t3,.ref t2]) (.cons .int (.cons (xv r1 (s7.trans (s8.trans s9))) (.cons (xv (ZR hT3) (s8.trans s9)) (.cons (xv (ZR hT2) s9) .nil)))) ⟨_,hT4⟩ hT4
def zem:Sp:=λ vs H Q _=>∃ i:Int,vs=[.int i]/\Q (.bl true) H
def XS (T:Txt K mg a):Cal P w K mg base "_law_whole" 1 ["_law_found"] [] zem:=T.k8.cal λ F=>by
 refine F.okx zas ?_ ?_
 ·walk_at "i"
 walk_at "k";obtain ⟨i,rfl,k⟩:=h;walk_at "T";refine ⟨_,(zc (zj (zaL (zy qr zr (za (pq 0) (za (zbq zgq) zb))) (Wk (Wl (zy qr zr (za (pq 0) (za (zbq ze8) zb)))))))),?_⟩;left;exact k
def zbl (a:Ad):Sp:=λ vs H Q _=>∃ (e:Addr),vs=[.ref e]/\H e=some (zba e (Value.ref a.h))/\Q (.bl false) H
def zaP (T:Txt K mg a) (F:Fun K "_law_other" "_law_other" wM f fd):FnOkH P w K mg base 1 f fd ["_law_e"] (zbl a):=by
 refine F.okH zav (λ vs H Q E h=>?_) (λ cdv A outer s H vs Q h=>?_)
 ·obtain ⟨_,rfl,_⟩:=h;rfl
 refine oE1 h λ e l9=>oA3 l9 λ m5 he k=>?_;clear l9 h;subst m5;have x:=T.kS;walk_at "T";refine ⟨_,(zh (zx (PW.pt (pw_or (zK (zy qr zr (za (pq 0) (za qC zb))) (λ _=>rfl)) (pw_or (zK (zy qr zr (za (pq 0) (za qC zb))) (λ _=>rfl)) (pw_or (zK (zy qr zr (za (pq 0) (za qC zb))) (λ _=>rfl)) (pw_or1 (zK (zy qr zr (za (pq 0) (za qC zb))) (λ _=>rfl)))))))  (zc (zj Jb))  zm)  (zh (zx (PW.pt (pw_or (zK (zy qr zr (za (pq 0) (za qC zb))) (λ _=>rfl)) (pw_or (zK (zy qr zr (za (pq 0) (za qC zb))) (λ _=>rfl)) (pw_or (zK (zy qr zr (za (pq 0) (za qC zb))) (λ _=>rfl)) (pw_or1 (zK (zy qr zr (za (pq 0) (za qC zb))) (λ _=>rfl)))))))  (zc (zj Jb))  zm)  (zc (zj (zgM (Wl (zy qr zr (za (pq 0) (za qC zb)))) (Wk (Wl (zy qr zr (za (pq 0) (za (zbq Xi) zb)))))))))),?_⟩;exists iE2 (.ref a.c) _ (iA3 T.ly rfl (jx he x rfl T.gH ?_));exists iE2 (.ref a.d) _ (iA3 T.i6 rfl (jx he x rfl T.gI ?_));exists iE2 (.ref a.e) _ (iA3 T.f9 rfl (jx he x rfl T.gJ ?_));exists iE2 (.ref a.f) _ (iA3 T.hZ rfl (jx he x rfl T.gL ?_));exists iE2 (.ref a.g) _ (iA3 T.lN rfl (jx he x rfl T.gQ ?_));exists iE2 (.ref a.i) _ (iA3 T.kR rfl (jx he x rfl T.gA ?_));exists iE2 (.ref a.j) _ (iA3 T.lz rfl (jx he x rfl T.gM ?_));exists iE2 (.ref a.k) _ (iA3 T.lO rfl (jx he x rfl T.gR ?_));exists iE2 (.ref a.h) _ (iA3 T.ia rfl (jx he x rfl T.gN ?_));exists jx he x rfl T.gm ?_;left;exact k
def hX (T:Txt K mg a):CalH P w K mg base "_law_other" 1 ["_law_e"] (zbl a):=T.hX.calH (zaP T)
inductive spRefused (a:Ad) (vs:Ao) (H:Hp) (Q:VK) (E:XK):Prop
 | i (vw:V) (lim:Nat) (bs:A1) (rs:As):vs=[vw,.int lim]->Rep H (Off []) vw (qf a bs rs)->qc bs rs->(∀ b∈bs,zF b.1 b.2)->(∀ r∈rs,r.ok)->lim<=1000->x8 bs rs lim->(∀ H',Same H H'->Q (.bl true) H')->spRefused a vs H Q E
def Qc (T:Txt K mg a):Cal P w K mg base "_law_refused" 10 ["_law_work_here","_law_limit_here"] [] (spRefused a):=T.kr.cal λ F=>by
 refine F.okx We ?_ ?_
 ·walk_at "i"
 walk_at "j";rcases h with ⟨vw,lim,bs,rs,rfl,hv,mi,bo,ro,l1000,nr,k⟩;walk_at "T";refine ⟨_,(zh (zo 2 We.nd Jb)  (zh (zcj (i:=3) ⟨rfl,rfl,rfl⟩ rfl We.nd rfl rfl (λ pn G=>(zc (zp ‹(pq 0) (za (pq 1) zb)›))) (λ pn a=>(zc (zo 2 We.nd (zfV hr (za (pq 3) zb))))))  (zc (zj (Wl (pq 2)))))),?_⟩;exists ⟨a.b,iA3 T.ku T.kC (λ pn=>?_)⟩;refine uc (vQ T).mono ⟨vw,lim,bs,rs,rfl,hv,mi,bo,ro,l1000,λ i j v H1 rd=>absurd nr rd.no,λ _ H1 s1=>⟨a.h,iA3 rfl T.gz (λ e he=>?_)⟩⟩;exact ⟨_,_,(hX T).mono,e,rfl,mv,k _ (s1.trans (zf he))⟩
def zbu {p q:A5} {G:Addr} {as:Ab} {xss:List (List D)} (h:NL H p G as xss) (hq:∀ b,b=G\/b∈as\/p b->q b):Rep H q (.ref G) (.lst (xss.map D.lst)):=by
 refine .lst (hq _ (.inl rfl)) h.out (by rw [ah,ah,h.len]) λ i v d e1 e2=>?_;rw [au,aC] at e1 e2;obtain ⟨b,e1,rfl⟩:=e1;obtain ⟨xs,e2,rfl⟩:=e2;obtain ⟨vs,h1,h2⟩:=h.g i b xs e1 e2;exact Reps.mk' (h2.keep λ c o pc hc=>⟨hq c (.inr (.inr pc)),hc⟩) (hq _ (.inr (.inl (ai e1)))) h1
def StO.repQ {y:Addr} {n:SN} {st:PSt} {q:A5} (h:StO a H y n st) (hq:∀ b,b∈y :: n.all\/zT H b->q b):Rep H q (.ref y) (xY a st):=by
 have m:∀ b,b∈n.all->q b:=λ b hb=>hq b (.inl (aB _ hb));refine xu (hq _ (.inl (by simp))) h.hy rfl (.cons .int (.cons (zbu h.hc λ b hb=>?_) (.cons (zY (m _ (by simp [SN.all])) h.hs) (.cons (zbu h.hg λ b hb=>?_) .nil))))
 ·rcases hb with rfl|hb|hb
  ·exact m _ (by simp [SN.all])
  ·exact m _ (by simp [SN.all,hb])
  ·exact hq _ (.inr hb)
 ·rcases hb with rfl|hb|hb
  ·exact m _ (by simp [SN.all])
  ·exact m _ (by simp [SN.all,hb])
  ·exact hq _ (.inr hb)
def StNew.repN {H H':Hp} {st:PSt} (h:StNew a H H' v st) (s:Same H H') {ms:Ab} (hm:∀ b∈ms,∃ vs,H b=some (.lst vs)):Rep H' (Off ms) v (xY a st):=by
 refine oE2 h λ y n l9=>oA5 l9 λ m5 so ny _ nn=>?_;clear l9 h;subst m5;refine so.repQ λ b hb z=>?_;obtain ⟨vs,hv⟩:=hm b z;rcases hb with hb|⟨xs,hx⟩
 ·rcases az.mp hb with rfl|hb
  ·rw [ny] at hv;cases hv
  ·rw [nn b hb] at hv;cases hv
 ·rw [s _ _ hv] at hx;cases hx
inductive Dp:Nat->D->Prop where
 | non {n:Nat}:Dp n .non
 | int {n:Nat} {i:Int}:Dp n (.int i)
 | lst {n:Nat} {ds:List D}:(∀ d∈ds,Dp n d)->Dp (n + 1) (.lst ds)
 | tup {n:Nat} {ds:List D}:(∀ d∈ds,Dp n d)->Dp (n + 1) (.tup ds)
section
variable {H:Hp} {p q:A5} {Q:VK}
def zgm {n:Nat} {d:D} (h:Dp n d):∀ {v v':V},Rep H p v d->Rep H q v' d->DE K H n v v' true:=by
 have all:∀ m,(List.range m).all (λ _=>true)=true:=λ m=>dc.mpr λ _ _=>rfl
 induction h with
 | non=>intro v v' r1 r2;cases r1;cases r2;exact .flat rfl rfl
 | @int n i =>
  intro v v' r1 r2;cases r1;cases r2;exact (show eqV (.int i) (.int i)=true by simp [eqV]) ▸ DE.flat rfl rfl
 | lst _ ih =>
  intro v v' r1 r2;refine oE2 r1.lst' λ l us l9=>oA4 l9 λ m5 _ h1 s1=>?_;clear l9;subst m5;refine oE2 r2.lst' λ l' us' l9=>oA4 l9 λ m5 _ h2 s2=>?_;clear l9;subst m5;by_cases e:l=l'
  ·rw [e];exact .same
  ·have:=DE.lists (e:=λ _=>true) e (SqL.of h1) (SqL.of h2) (by rw [s1.len,s2.len]) λ j x y hx hy=>by
    obtain ⟨d,hd,r⟩:=s1.at hx;exact ih d (ai hd) r (s2.g j y d hy hd)
   rw [all] at this;exact this
 | tup _ ih =>
  intro v v' r1 r2;refine oE2 r1.tup' λ l us l9=>oA4 l9 λ m5 _ h1 s1=>?_;clear l9;subst m5;refine oE2 r2.tup' λ l' us' l9=>oA4 l9 λ m5 _ h2 s2=>?_;clear l9;subst m5;by_cases e:l=l'
  ·rw [e];exact .same
  ·have:=DE.tuples (e:=λ _=>true) e (SqT.of h1) (SqT.of h2) λ j x y hx hy=>by
    obtain ⟨d,hd,r⟩:=s1.at hx;exact ih d (ai hd) r (s2.g j y d hy hd)
   rw [all,s1.len,s2.len,c8,cg] at this;exact this
def Wy {α:Type} {f:α->D} {n:Nat} (h:∀ x,Dp n (f x)) (xs:List α):∀ d∈xs.map f,Dp n d:=λ d hd=>by
 obtain ⟨x,_,rfl⟩:=aP.mp hd;exact h x
end
def zbK {n:Nat} (x:A9):Dp n (oiD x):=by
 cases x
 ·exact .non
 ·exact .int
def zfK {p q:A5} {t t':Addr} {s:ShK} (r1:Rep H p (.ref t) (shD s)) (r2:Rep H q (.ref t') (shD s)) (k:Q (.bl false) H):Vp K (.ref t) (.ref t') H Q:=by
 refine oE2 r1.tup' λ _ us l9=>oA4 l9 λ e _ h1 s1=>?_;clear l9;cases e;refine oE2 r2.tup' λ _ us' l9=>oA4 l9 λ e _ h2 s2=>?_;clear l9;cases e;have dp:∀ d∈[oiD s.1,.tup (s.2.1.map λ r=>.tup (r.map oiD)),.tup (s.2.2.1.map oiD),.tup (s.2.2.2.map oiD)],Dp 2 d:=λ d hd=>by
  simp only [az,cE,da] at hd;rcases hd with rfl|rfl|rfl|rfl
  ·exact zbK _
  ·exact .tup (Wy (λ r=>.tup (Wy zbK r)) _)
  ·exact .tup (Wy zbK _)
  ·exact .tup (Wy zbK _)
 exact .inr (.inr ⟨t,t',us,us',2,λ _=>true,rfl,rfl,by decide,λ j x y hx hy=>by
  obtain ⟨d,h,r⟩:=s1.at hx;exact zgm (dp d (ai h)) r (s2.g j y d hy h),.inr ⟨SqT.of h1,SqT.of h2,by rw [dc.mpr (λ _ _=>rfl),s1.len,s2.len,cg];exact k⟩⟩)
def WU (K:A0):Sp:=λ vs H Q _=>∃ (l:Addr) (ns:A6),vs=[.ref l]/\SqL K H l (ns.map V.int)/\ns.length<=63/\∀ H',Q (.bl true) H'
abbrev zel (l:Addr) (vw:V) (lim:Nat) (bt:Int) (v4:V) (SL:Addr) (v6 v7 v8 v9 v10:Ap):St:=[some (.ref l),some vw,some (.int lim),some (.int bt),some v4,some (.ref SL),v6,v7,v8,v9,v10]
structure ShL (H:Hp) (SL:Addr) (bs:A1) (rs:As) (xs:List (ShK × Addr)):Prop where
 out:H SL=some (.lst (xs.map λ x=>.ref x.2))
 ks:xs.map (·.1)=(List.range xs.length).map (z9 bs rs)
 g:∀ x∈xs,Rep H (Off [SL]) (.ref x.2) (shD x.1)
section
variable {H H':Hp} {SL:Addr} {bs:A1} {rs:As} {xs:List (ShK × Addr)}
def ShL.same (h:ShL H SL bs rs xs) (s:Same H H'):ShL H' SL bs rs xs:=⟨s _ _ h.out,h.ks,λ x hx=>(h.g x hx).same s⟩
def ShL.add (h:ShL H SL bs rs xs) {t:Addr} (r:Rep H (zT H) (.ref t) (shD (z9 bs rs xs.length))):ShL (upd H SL (.lst ((xs.map λ x=>.ref x.2) ++ [.ref t]))) SL bs rs (xs ++ [(z9 bs rs xs.length,t)]):=by
 have f:Fr [SL] H (upd H SL (.lst ((xs.map λ x=>.ref x.2) ++ [.ref t]))):=qx (by simp);refine ⟨by rw [mv,a7];rfl,by rw [a7,h.ks,aM,cu,d7,a7];rfl,λ x hx=>?_⟩;rcases aF.mp hx with hx|hx
 ·exact (h.g x hx).fr f
 ·rw [ay.mp hx];refine Rep.fr (r.keep λ b o ⟨us,hu⟩ hb=>⟨λ z=>?_,hb⟩) f;rw [ay.mp z,h.out] at hu;cases hu
def VB {α:Type} {f:Nat->α} {n:Nat} (h:∀ x y,x < y->y < n->f x≠f y):((List.range n).map f).Nodup:=by
 refine List.pairwise_map.mpr ((eR (n:=n)).imp_of_mem λ {x y} hx hy l=>h x y l (bu.mp hy))
end
def zfZ (T:Txt K mg a) (F:Fun K "law" "law" QY f fd):FnOk P w K mg base (CXr P w) 11 f fd ["_law_script"] (WU K):=by
 refine F.okx zfH ?_ ?_
 ·walk_at "i"
 walk_at "j";refine oE2 h λ l ns l9=>oA4 l9 λ m5 hl hn k=>?_;clear l9 h;subst m5;walk_at "T";refine ⟨_,(zg (zo 1 zfH.nd ‹(pq 0) zb›)  (zg (zo 2 zfH.nd ‹(pq 0) (za (pq 1) zb)›)  (zg (zo 3 zfH.nd ‹(pq 1) zb›)  (zg (zo 4 zfH.nd ‹(pq 1) zb›)  (zg (zo 5 zfH.nd (zC zb))  (zQ (qq qS rfl (wu (za (zw zP (pq 2) zd) zb)) (qd 6 zfH.nd)  (zg (zp (qk am ax aw zE (pq 5) (za ‹(pq 1) (za (pq 4) (za (pq 3) zb))› zb)))  (zc (zo 4 zfH.nd ‹(pq 1) (za (pq 4) zb)›))))  (zg (zo 7 zfH.nd ‹(pq 1) (za (pq 2) zb)›)  (zg (zx (zl qZ (pq 7) zz (zn _))  (zc (zj (zaL (wQ (Vy hr.units1) (zy zbW zJ (za (jz (zbV zfp (by decide) rfl hr.units1 (by decide)) zea (za (pq 5) zb)) zb)) (zw zP (pq 2) zd) (zn _)) (Wk ‹(pq 1) (za (pq 2) zb)›))))  zm)  (zg (zx (PW.pt (pw_or (qY (zK (zy qr zr (za (pq 7) (za (zbq jm) zb))) (λ _=>rfl))) (pw_or (zl (Zf hr.units1) (zy zN zJ (za (pq 7) zb)) zd (zn _)) (pw_or (qY (zK ‹(zt (pq 7) zd) zb› (λ _=>rfl))) (pw_or1 (qY (zK ‹(zt (pq 7) zd) zb› (λ _=>rfl))))))))  (zc (zj Jb))  zm)  (zg (zo 8 zfH.nd (zt (pq 7) zd))  (zg (zo 9 zfH.nd (zw zP (pq 8) (zt (pq 7) zd)))  (zg (zx (PW.pt (pw_or (zl Zg (pq 8) zd (zn _)) (pw_or (zl Zg (zt (pq 7) zd) zd (zn _)) (pw_or1 (zl Xs (pq 9) (pq 2) (zn _))))))  (zc (zj Jb))  zm)  (zg (zx (PW.pt (pw_or (zl (Zf hr.units1) (zt (pq 5) (pq 8)) (zt (pq 5) (pq 9)) (zn _)) (pw_or1 (zl (Zf hr.units1) (zy zbW zJ (za (jz (zbV zfp (by decide) rfl hr.units1 (by decide)) zea (za (xa vA (pq 5) wO (xm (pq 9))) zb)) zb)) (pq 9) (zn _)))))  (zc (zj Jb))  zm)  (zg (zo 10 zfH.nd zz)  (zQ (zx (zl jJ (pq 9) zd (zn _))  (zc (zo 10 zfH.nd (pq 7)))  zm)  (zQ (zx (PW.pt (pw_and (zl Xs (pq 9) zd (zn _)) (pw_and1 (qY (zK ‹(pq 1) (za (zw Wm (pq 9) zd) zb)› (λ _=>rfl))))))  (zc (zj Jb))  zm)  (zc (zj (zaL (wQ (Vy hr.units1) ‹(pq 1) (za zd zb)› (pq 10) (zn _)) (Wk (wQ (Vy hr.units1) ‹(pq 1) (za (pq 9) zb)› (pq 7) (zn _)))))))))))))))))))))),?_⟩;exists uc (zd6 T).mono (spWorkOf.i l ns rfl hl (λ vw H1 bs rs s1 hw mi bo ro=>?_));have hl1:=WR s1 hl;have b24:=mi.1.1.2;have r24:=mi.1.2.2;clear s1 hl hn;exists uc (zcG T).mono (spLimit.i l ns vw bs rs _ rfl hl1 hw (λ lim l1000=>?_));exists uc (zd7 T).mono (spBeatL.i vw bs rs _ rfl hw b24 r24 bo ro (λ H2 s2=>?_));have hw2:=hw.same s2;clear hw s2 hl1;exists uc (vv T).mono (spEmpty.i vw bs rs _ rfl hw2 b24 r24 bo ro (λ v3 H3 s3 sn=>?_));have hv3:Rep H3 (Off []) v3 (xY a (jn bs rs 0)):=sn.repN s3 λ _ h=>nomatch h;refine oE2 sn λ y n l9=>oA3 l9 λ m5 so _=>?_;clear l9 sn;subst m5;have hw3:=hw2.same s3;have so:StO a H3 y n (jn bs rs 0):=so;clear hw2 s3;left;intro SL hSL;have s4:=zf (o:=.lst []) hSL;have nb:∀ b∈[SL],b∈([]:Ab)\/H3 b=none:=λ b hb=>by rw [ay.mp hb];exact .inr hSL
 have sh4:ShL (upd H3 SL (.lst [])) SL bs rs []:=⟨mv,rfl,λ x hx=>nomatch hx⟩;have hw4:=(hw3.more nb).same s4;have hv4:=(hv3.more nb).same s4;have so4:=so.same s4;generalize upd H3 SL (.lst [])=H4 at s4 sh4 hw4 hv4 so4 ⊢;clear hw3 hv3 so s4 hSL nb;left;let mj:St->Hp->Prop:=λ σ' H'=>∃ (v4:V) (v6:Ap) (xs:List (ShK × Addr)),σ'=zel l vw lim (qB bs rs) v4 SL v6 none none none none/\Rep H' (Off [SL]) vw (qf a bs rs)/\ShL H' SL bs rs xs/\xs.length=lim + 1;refine cut mj ?_ ?_
 ·walk_at "e";exists ⟨by lia,by lia,?_⟩;let ml:Nat->St->Hp->Prop:=λ i σ H'=>∃ (y:Addr) (n:SN) (v6:Ap) (xs:List (ShK × Addr)),σ=zel l vw lim (qB bs rs) (.ref y) SL v6 none none none none/\Rep H' (Off [SL]) vw (qf a bs rs)/\Rep H' (Off [SL]) (.ref y) (xY a (jn bs rs i))/\StO a H' y n (jn bs rs i)/\ShL H' SL bs rs xs/\xs.length=i;refine Z9 (n:=((lim:Int) + 1).toNat) ml (iE4 y n _ ([]) (iA6 rfl hw4 hv4 so4 sh4 rfl)) ?_ ?_
  ·clear hw4 hv4 so4 sh4;intro i σ H5 hi m8;refine oE4 m8 λ y n v6 xs l9=>oA6 l9 λ m5 hw5 hv5 so5 sh5 lx=>?_;ext;have wf:=Ze mi bo ro i;exists ⟨.inl ⟨rfl,_,SqL.of sh5.out⟩,iE3 _ _ _ ⟨(zcF T).mono,⟨vw,y,n,bs,rs,_,_,rfl,hw5,so5,wf,b24,r24,bo,ro,λ t H6 s6 r6=>?_⟩⟩⟩;rw [<- lx] at r6;have sh6:=sh5.same s6;refine iE3 SL _ _ (iA5 rfl rfl sh6.out (zi (by rw [ah];lia)) ?_);have sh7:=sh6.add r6;have f7:Fr [SL] H5 (upd H6 SL (.lst ((xs.map λ x=>.ref x.2) ++ [.ref t]))):=s6.fr.trans (qx (by simp));have hw7:=hw5.fr f7;have hv7:=hv5.fr f7;generalize upd H6 SL _=H7 at sh7 hw7 hv7 ⊢;exists uc (JF T).mono (spOneTurn.i vw (.ref y) _ bs rs _ rfl (hw7.more (ns:=[]) (λ b hb=>nomatch hb)) hv7 wf mi bo ro (λ v8 H8 s8 sn=>?_));have hv8:=sn.repN s8 (ms:=[SL]) λ b hb=>by rw [ay.mp hb];exact ⟨_,sh7.out⟩
   refine oE2 sn λ y8 n8 l9=>oA3 l9 λ m5 so8 _=>?_;clear l9 sn;subst m5;exact iE4 y8 n8 _ _ (iA6 rfl (hw7.same s8) hv8 so8 (sh7.same s8) (by simp [lx]))
  ·intro σ H5 m8;refine oE4 m8 λ y n v6 xs l9=>oA6 l9 λ m5 hw5 _ _ sh5 lx=>?_;ext;exact iE3 _ _ xs (iA4 rfl hw5 sh5 (by lia))
 clear hw4 hv4 so4 sh4;intro σ' H5 m8;refine oE3 m8 λ v4 v6 xs l9=>oA4 l9 λ m5 hw5 sh5 lx=>?_;ext;exists uc (XT T).mono (iE4 vw lim bs rs (iA7 rfl (hw5.more (ns:=[]) (λ b hb=>nomatch hb)) mi bo ro l1000 (λ v H6 s6 r6=>?_)));have hw6:=(hw5.same s6).more (ns:=[]) λ b hb=>nomatch hb;have sh6:=sh5.same s6;clear hw5 sh5 s6;rcases r6 with ⟨nr,rfl⟩|⟨i,j,tf,rd,rfl,htf⟩
 ·exists iE2 SL xs (iA6 rfl (SqL.of sh6.out) (by rw [sh6.ks,lx];exact VB λ x y l1 l2=>nr x y l1 (by lia)) (by lia) (λ h ok x hx=>jR ok (sh6.g x hx)) (λ l2 h2=>(iE2 l2 _ (iA3 rfl mv ?_))));refine zA (λ _=>?_) (λ z=>absurd (by lia) z);exact uc (Qc T).mono (spRefused.i vw lim bs rs rfl (hw6.same (zf h2)) mi bo ro l1000 nr (λ H' _=>k H'))
 have lt:=rd.lt;have le:=rd.le;have e1:atI [V.int i,.int ((j:Int) - i)] 1=some (.int ((j:Int) - i)):=rfl;exists ze0 htf ?_;exists ⟨2,.inr ⟨_,SqT.of htf,rfl⟩,?_⟩;exists uc (XS T).mono (mB htf at0 ⟨_,rfl,?_⟩);exists uc (XS T).mono (mB htf e1 ⟨_,rfl,?_⟩);exists mB htf at0 ?_;exists mB htf e1 ?_;left;rw [show (i:Int) + ((j:Int) - i)=j by lia];exists zA (λ z=>absurd z (by lia)) (λ _=>mB htf e1 ?_);refine zA (λ z=>absurd z (by lia)) (λ _=>zA (λ z=>absurd z (by lia)) (λ _=>?_));left;obtain ⟨xi,hxi⟩:∃ x,xs[i]?=some x:=⟨_,ae (by lia)⟩;obtain ⟨xj,hxj⟩:∃ x,xs[j]?=some x:=⟨_,ae (by lia)⟩;have sk:∀ {q:Nat} {x:ShK × Addr},xs[q]?=some x->x.1=z9 bs rs q/\Rep H6 (Off [SL]) (.ref x.2) (shD x.1)/\(xs.map λ x=>V.ref x.2)[q]?=some (.ref x.2):=λ {q x} h=>by
  have h1:(xs.map (·.1))[q]?=some x.1:=by rw [au,h];rfl
  rw [sh6.ks,au,List.getElem?_range (aa.mp h).1] at h1;exact ⟨(aU h1).symm,sh6.g x (ai h),by rw [au,h];rfl⟩
 obtain ⟨ki,ri,vi⟩:=sk hxi;obtain ⟨kj,rj,vj⟩:=sk hxj;refine zq (SqL.of sh6.out) (zL vi) (zq (SqL.of sh6.out) (zL vj) ?_);rw [ki] at ri;rw [kj,<- rd.eq] at rj;refine zfK ri rj ?_;refine ⟨fU,lD,vI (SqL.of sh6.out) λ q hq=>?_⟩;rw [Zr (xs.map λ x=>V.ref x.2) j,<- map_take];have s7:=zf (o:=.lst ((xs.take j).map λ x=>V.ref x.2)) hq;refine iE2 q (xs.take j) (iA6 rfl (SqL.of mv) ?_ (by rw [aW];lia) (λ h ok x hx=>jR ok ((sh6.g x (eM hx)).same s7)) (λ l2 h2=>(iE2 l2 _ (iA3 rfl mv ?_))))
 ·rw [map_take,sh6.ks,<- map_take,List.take_range,d9 (by lia)];exact VB rd.fst
 refine zA (λ z=>absurd (by rw [aW];lia) z) (λ _=>?_);have s8:=s7.trans (zf (o:=tsO l2 (xs.take j).length) h2);have hw8:=hw6.same s8;have ht8:=s8 _ _ htf;generalize upd (upd H6 q _) l2 _=H8 at hw8 ht8 ⊢;clear hw6 htf s7 s8 sh6 ri rj vi vj sk;left;let mr:St->Hp->Prop:=λ σ' H'=>∃ d:V,σ'=zel l vw lim (qB bs rs) v4 SL v6 (some (.ref tf)) (some (.int i)) (some (.int j)) (some d)/\H'=H8/\((j<=200/\d=.ref tf)\/(200 < j/\d=.non));refine cut mr ?_ ?_
 ·exists zA (λ z=>?_) (λ z=>⟨_,iA3 rfl rfl (.inr ⟨by lia,rfl⟩)⟩);left;exact ⟨_,iA3 rfl rfl (.inl ⟨by lia,rfl⟩)⟩
 intro σ' H9 m8;refine oE1 m8 λ d l9=>oA3 l9 λ m5 mh hd=>?_;clear l9 m8;subst m5 mh;have nj:x8 bs rs (j - 1):=λ x y l1 l2=>rd.fst x y l1 (by lia);left;let M4_:St->Hp->Prop:=λ σ' H'=>σ'=zel l vw lim (qB bs rs) v4 SL v6 (some (.ref tf)) (some (.int i)) (some (.int j)) (some d)/\Same H9 H';refine cut M4_ ?_ ?_
 ·exists zA (λ _=>?_) (λ _=>⟨rfl,Same.refl _⟩);rw [show (j:Int) - 1=((j - 1:Nat):Int) by lia];exact uc (Qc T).mono (spRefused.i vw (j - 1) bs rs rfl hw8 mi bo ro (by lia) nj (λ H' s'=>⟨rfl,s'⟩))
 rintro σ' HA ⟨rfl,sA⟩;have hwA:=hw8.same sA;have htA:=sA _ _ ht8;clear hw8 ht8 sA;have rj:RoundAt bs rs j i j:=⟨lt,ap _,rd.eq,rd.fst⟩;have eqT:∀ {H2:Hp} {Q2:VK} {t2:Addr},H2 t2=some (.tup [.int i,.int ((j:Int) - i)])->H2 tf=some (.tup [.int i,.int ((j:Int) - i)])->Q2 (.bl true) H2->Q5 K (.ref t2) (.ref tf) H2 Q2:=λ h1 h2 q=>zfL (SqT.of h1) (SqT.of h2) rfl (by simp [jU,eqV]) q;exists uc (XT T).mono (iE4 vw 200 bs rs (iA7 rfl hwA mi bo ro (by decide) (λ v HB sB rB=>?_)));have fin:∃ ps dvs sp,Cal P w K mg base "round_of" 10 ps dvs sp/\sp (vw :: .int j :: dvs) HB (λ x H1=>Q5 K x (.ref tf) H1 Q) (λ cls _ H'=>EX cls none H'):=by
  refine uc (vQ T).mono (iE4 vw j bs rs (iA8 rfl (hwA.same sB) mi bo ro (by lia) (λ i2 j2 v2 HC rd2 sC rC=>?_) (λ nr=>absurd nr rj.no)));obtain ⟨t2,rfl,g2⟩:=rC;obtain ⟨rfl,rfl⟩:=rd2.one rd;exact eqT g2 (sC _ _ (sB _ _ htA)) (k _)
 rcases rB with ⟨nr,rfl⟩|⟨i2,j2,t2,rd2,rfl,g2⟩
 ·rcases hd with ⟨h200,rfl⟩|⟨_,rfl⟩
  ·exact absurd rd.eq (nr i j lt h200)
  ·exact .inl ⟨rfl,fin⟩
 ·obtain ⟨rfl,rfl⟩:=rd2.one rd;rcases hd with ⟨_,rfl⟩|⟨h200,rfl⟩
  ·exact eqT g2 (sB _ _ htA) fin
  ·have:=rd2.le
   lia
theorem top_ok (T:Txt K mg a) (F:Fun K "law" "law" QY f fd):FnOk P w K mg base (CXr P w) 11 f fd ["_law_script"] (WU K):=zfZ T F
end
local macro_rules | `(tactic| walk_at "b")=>`(tactic| first|((repeat intro _);rfl))
def zee:Nat->(List Value->Prop)->Prop
 | 0,P=>P []
 | n + 1,P=>∀ x,zee n λ l=>P (x :: l)
def wX {n:Nat}:∀ {P:List Value->Prop},zee n P->∀ us:List Value,us.length=n->P us:=by
 induction n with
 | zero =>
  intro P h us e;cases us with
  | nil=>exact h
  | cons=>cases e
 | succ n ih =>
  intro P h us e;cases us with
  | nil=>cases e
  | cons x r=>exact ih (h x) r (Nat.succ.inj e)
abbrev NNy (K:A0) (x:Str):Prop:=nsIn K mainGlobals x=some none
abbrev NRy (K:A0) (x:Str) (f:Addr):Prop:=nsIn K mainGlobals x=some (some (.ref f))
abbrev FHy (K:A0) (x:Str) (st:Stmt):Prop:=∃ (f:Addr) (oc:Al) (od an:Aa) (osl:Ae) (kV doc pm cdv ct:Al),nsIn K mainGlobals x=some (some (.ref f))/\K.lookup f=some ⟨oc,od,.func (fnOf x x (zS st) (zI st) (ze st) .none kV doc pm an cdv ct),osl⟩/\codeIn K cdv x=true/\keepIn K (.ref f)=true
def fhy {x:Str} {st:Stmt} {f:Addr} {oc:Al} {od an:Aa} {osl:Ae} {kV doc pm cdv ct:Al} (a:nsIn K mainGlobals x=some (some (.ref f))) (l:K.lookup f=some ⟨oc,od,.func (fnOf x x (zS st) (zI st) (ze st) .none kV doc pm an cdv ct),osl⟩) (c:codeIn K cdv x=true) (k:keepIn K (.ref f)=true):FHy K x st:=⟨_,_,_,_,_,_,_,_,_,_,a,l,c,k⟩
def qj {mg:A4} {h:Heap} {x:Str} {st:Stmt} (X:K.In h) (G:h.Ns mainGlobals mg) (y:FHy K x st) (hb:∀ (kV doc pm:Al) (an:Aa) (cdv ct:Al),zee ps.length λ us=>bindArgs (fnOf x x (zS st) (zI st) (ze st) .none kV doc pm an cdv ct) ⟨us,[]⟩=pure (ps.zip us):=by walk_at "b"):FA K mg x st ps:=by
 obtain ⟨_,_,_,_,_,_,_,_,_,_,a,l,c,k⟩:=y;exact zg1 X G a l c k λ _ _ _ _ _ _=>wX (hb _ _ _ _ _ _)
abbrev CHy (K:A0) (C:Addr):Prop:=plainGet K C Str.empty=true/\hasDictIn K C=true/\plainOver K C=true/\findIn K (.ref C) "__setattr__"=some (some (.builtin "object.__setattr__"))/\makesIn K C=true/\keepIn K (.ref C)=true/\findIn K (.ref C) "__class__"=some (some (.builtin "object.__class__"))/\mroIn K C (.type "object")=some true
def CHy.c (h:CHy K C):Cls K C:=⟨h.1,h.2.1,h.2.2.1,h.2.2.2.1⟩
def CHy.w (h:CHy K C) (g:specialIn K (.builtin "object.__class__") "__get__"=some (some (.builtin "getset_descriptor.__get__"))) (t:takesIn K (.builtin "object.__class__")=some true):WI K C:=⟨h.2.2.2.2.2.2.1,h.2.2.2.2.2.2.2,g,t⟩
abbrev MHy (K:A0) (C:Addr) (m q:Str) (st:Stmt):Prop:=∃ (f:Addr) (oc:Al) (od an:Aa) (osl:Ae) (kV doc pm cdv ct:Al),findIn K (.ref C) m=some (some (.ref f))/\isFn K (.ref f)=true/\K.lookup f=some ⟨oc,od,.func (fnOf m q (zS st) (zI st) (ze st) .none kV doc pm an cdv ct),osl⟩/\codeIn K cdv q=true/\keepIn K (.ref f)=true
def mhy {m q:Str} {st:Stmt} {f:Addr} {oc:Al} {od an:Aa} {osl:Ae} {kV doc pm cdv ct:Al} (a:findIn K (.ref C) m=some (some (.ref f))) (i:isFn K (.ref f)=true) (l:K.lookup f=some ⟨oc,od,.func (fnOf m q (zS st) (zI st) (ze st) .none kV doc pm an cdv ct),osl⟩) (c:codeIn K cdv q=true) (k:keepIn K (.ref f)=true):MHy K C m q st:=⟨_,_,_,_,_,_,_,_,_,_,a,i,l,c,k⟩
def va {m q:Str} {st:Stmt} (y:MHy K C m q st) (hb:∀ (kV doc pm:Al) (an:Aa) (cdv ct:Al),zee ps.length λ us=>bindArgs (fnOf m q (zS st) (zI st) (ze st) .none kV doc pm an cdv ct) ⟨us,[]⟩=pure (ps.zip us):=by walk_at "b"):FM K C m q st ps:=by
 obtain ⟨_,_,_,_,_,_,_,_,_,_,a,i,l,c,k⟩:=y;exact zgW a i l c k λ _ _ _ _ _ _=>wX (hb _ _ _ _ _ _)
def Wx {q:Str} {st:Stmt} (z:CHy K C) (y:MHy K C "__init__" q st) (hb:∀ (kV doc pm:Al) (an:Aa) (cdv ct:Al),zee ps.length λ us=>bindArgs (fnOf "__init__" q (zS st) (zI st) (ze st) .none kV doc pm an cdv ct) ⟨us,[]⟩=pure (ps.zip us):=by walk_at "b"):FK K C q st ps:=by
 obtain ⟨_,_,_,_,_,_,_,_,_,_,a,i,l,c,k⟩:=y;exact zgX z.2.2.2.2.1 z.2.2.2.2.2.1 a i l c k λ _ _ _ _ _ _=>wX (hb _ _ _ _ _ _)
theorem all_mk {l:PySem.W.OpenLaw} {w:World} {h:Heap} {mg:A4} {fa fL f23 ya yb yc yd ye yf yg yh yi yj yk ym yn yo yp yq yr yt yu yv yx yy:Addr} (X:K.In h) (G:h.Ns mainGlobals mg) (hfa:mg "law"=some (.ref fa))
  {yz yA odL anL yB yC:Aa} {yD slL yE:Ae} {yF yG yH yI yJ yK ocL kVL dcL pmL cdL ctL yL yM yN yO yP yQ:Al}
  {yR:Al} {yS:Aa} {yT:Nat} {yU:Ae} {yV:Tok}
  {yW yX yY yZ y9 yaa yba:Tok}
  (h1:FHy K "kind_of" ZI)
  (h2:FHy K "no_counts" wm)
  (h3:FHy K "empty_state" qR)
  (h4:FHy K "copied_state" jX)
  (h5:FHy K "kinds_in" xO)
  (h6:FHy K "kind_place" xP)
  (h7:FHy K "shape_of" jV)
  (h8:FHy K "check_pace" xS)
  (h9:FHy K "check_kind" xT)
  (h10:FHy K "check_ways" xQ)
  (h11:FHy K "first_place" xt)
  (h12:FHy K "place_for_ware" jp)
  (h13:FHy K "heads_of" jW)
  (h14:FHy K "taken_ware" xM)
  (h15:FHy K "belt_at" ZJ)
  (h16:FHy K "counted_place" jC)
  (h17:FHy K "act" Vk)
  (h18:FHy K "act_all" ZK)
  (h19:FHy K "move_belt" wn)
  (h20:FHy K "pass_turn" xh)
  (h21:FHy K "one_turn" vE)
  (h22:FHy K "round_ends" xN)
  (a23:nsIn K mainGlobals "round_of"=some (some (.ref f23))) (l23:K.lookup f23=some ⟨yF,yz,.func (fnOf "round_of" "round_of" (zS qX) (zI qX) (ze qX) (.ref ya) yG yH yI yA yJ yK),yD⟩) (c23:codeIn K yJ "round_of"=true) (k23:keepIn K (.ref f23)=true)
  (yca:K.lookup ya=some ⟨yR,yS,.seq #[.int 200 yV] yT,yU⟩)
  (h24:FHy K "common" vY)
  (h25:FHy K "lasting" ZH)
  (h26:FHy K "check_size" xR)
  (h27:FHy K "check_each_once" je)
  (h28:FHy K "_law_at" zaA)
  (h29:FHy K "_law_spread" vF)
  (h30:FHy K "_law_whole" ZL)
  (h31:FHy K "_law_belt" Q1)
  (h32:FHy K "_law_source" xU)
  (h33:FHy K "_law_drain" ZP)
  (h34:FHy K "_law_kind" QZ)
  (h35:FHy K "_law_joined" vH)
  (h36:FHy K "_law_parted" vG)
  (h37:FHy K "_law_grow" Q0)
  (h38:FHy K "_law_close" ZQ)
  (h39:FHy K "_law_work" vZ)
  (h40:FHy K "_law_limit" ZN)
  (h41:FHy K "_law_round" ZM)
  (h42:FHy K "_law_beat" wp)
  (h43:FHy K "_law_kinds" ZO)
  (h44:FHy K "_law_shape" wL)
  (h45:FHy K "_law_other" wM)
  (h46:FHy K "_law_refused" wo)
  (aL:nsIn K mainGlobals "law"=some (some (.ref fL))) (lL:K.lookup fL=some ⟨ocL,odL,.func (fnOf "law" "law" (zS QY) (zI QY) (ze QY) .none kVL dcL pmL anL cdL ctL),slL⟩) (cL:codeIn K cdL "law"=true) (kL:keepIn K (.ref fL)=true)
  (yda:NNy K "list")
  (yea:NNy K "len")
  (yfa:NNy K "max")
  (yga:NNy K "tuple")
  (yha:NNy K "range")
  (yia:NNy K "isinstance")
  (yja:NNy K "enumerate")
  (yka:NNy K "sorted")
  (yla:NNy K "int")
  (yma:NNy K "bool")
  (yna:NNy K "reversed")
  (yoa:NNy K "all")
  (ypa:NNy K "ValueError")
  (yqa:NNy K "set")
  (yra:NRy K "WorkError" yb)
  (ysa:NRy K "NoRatio" yc)
  (yta:NRy K "BadBelt" yd)
  (yua:NRy K "BadKnot" ye)
  (yva:NRy K "BadWork" yf)
  (ywa:NRy K "BadRow" yg)
  (yxa:NRy K "TooLong" yh)
  (yya:NRy K "BadPaces" yi)
  (yza:NRy K "TooMany" yj)
  (yAa:NRy K "Moving" yk)
  (yBa:NRy K "State" ym)
  (yCa:NRy K "Belt" yn)
  (yDa:NRy K "Knot" yo)
  (yEa:NRy K "Source" yp)
  (yFa:NRy K "Drain" yq)
  (yGa:NRy K "Parter" yr)
  (yHa:NRy K "FirstParter" yt)
  (yIa:NRy K "Sieve" yu)
  (yJa:NRy K "Joiner" yv)
  (yKa:NRy K "Work" yx)
  (yLa:CHy K ym)
  (yMa:NoAttr K ym "turn")
  (yNa:NoAttr K ym "cells")
  (yOa:NoAttr K ym "sides")
  (yPa:NoAttr K ym "gone")
  (yQa:MHy K ym "__init__" "State.__init__" qP)
  (yRa:CHy K yn)
  (ySa:NoAttr K yn "room")
  (yTa:NoAttr K yn "pace")
  (yUa:MHy K yn "__init__" "Belt.__init__" xl)
  (yVa:findIn K (.ref yo) "__init__"=some (some (.ref yy))) (yWa:isFn K (.ref yy)=true) (yXa:K.lookup yy=some ⟨yL,yB,.func (fnOf "__init__" "Knot.__init__" (zS qF) (zI qF) (ze qF) .none yM yN yO yC yP yQ),yE⟩) (yYa:codeIn K yP "Knot.__init__"=true) (yZa:keepIn K (.ref yy)=true)
  (y0a:specialIn K (.ref yo) "__getattribute__"=some (some (.builtin "type.__getattribute__")))
  (y1a:readsIn K yo (.type "type")=true)
  (y2a:findCls K (.ref yo) (.type "type") "__init__"=some (.val (.ref yy)))
  (y3a:CHy K yp)
  (y4a:NoAttr K yp "pace")
  (y5a:NoAttr K yp "kinds")
  (y6a:NoAttr K yp "ins")
  (y7a:NoAttr K yp "outs")
  (y8a:MHy K yp "__init__" "Source.__init__" jt)
  (y9a:MHy K yp "choice" "Source.choice" jE)
  (yab:MHy K yp "copied" "Source.copied" jD)
  (ybb:CHy K yq)
  (ycb:NoAttr K yq "pace")
  (ydb:NoAttr K yq "ins")
  (yeb:NoAttr K yq "outs")
  (yfb:MHy K yq "__init__" "Drain.__init__" jM)
  (ygb:MHy K yq "choice" "Drain.choice" j6)
  (yhb:MHy K yq "copied" "Drain.copied" j5)
  (yib:CHy K yr)
  (yjb:NoAttr K yr "ins")
  (ykb:NoAttr K yr "outs")
  (ylb:MHy K yr "__init__" "Parter.__init__" ju)
  (ymb:MHy K yr "choice" "Parter.choice" jG)
  (ynb:MHy K yr "copied" "Parter.copied" jF)
  (yob:CHy K yt)
  (ypb:NoAttr K yt "ins")
  (yqb:NoAttr K yt "outs")
  (yrb:MHy K yt "__init__" "FirstParter.__init__" qu)
  (ysb:MHy K yt "choice" "FirstParter.choice" qH)
  (ytb:MHy K yt "copied" "FirstParter.copied" qG)
  (yub:CHy K yu)
  (yvb:NoAttr K yu "kind")
  (ywb:NoAttr K yu "ins")
  (yxb:NoAttr K yu "outs")
  (yyb:MHy K yu "__init__" "Sieve.__init__" jL)
  (yzb:MHy K yu "choice" "Sieve.choice" jZ)
  (yAb:MHy K yu "place_for" "Sieve.place_for" jg)
  (yBb:MHy K yu "copied" "Sieve.copied" jY)
  (yCb:CHy K yv)
  (yDb:NoAttr K yv "ins")
  (yEb:NoAttr K yv "outs")
  (yFb:MHy K yv "__init__" "Joiner.__init__" jv)
  (yGb:MHy K yv "choice" "Joiner.choice" qU)
  (yHb:MHy K yv "copied" "Joiner.copied" jH)
  (yIb:CHy K yx)
  (yJb:NoAttr K yx "belts")
  (yKb:NoAttr K yx "knots")
  (yLb:MHy K yx "__init__" "Work.__init__" jc)
  (yMb:MHy K yx "drains" "Work.drains" js)
  (yNb:MHy K yx "sources" "Work.sources" jf)
  (yOb:MHy K yx "beat" "Work.beat" xk)
  (wgn:specialIn K (.builtin "object.__class__") "__get__"=some (some (.builtin "getset_descriptor.__get__"))) (wtk:takesIn K (.builtin "object.__class__")=some true)
  (yPb:nsIn K mainGlobals "MOST_ROOM"=some (some (.int 6 yW)))
  (yQb:nsIn K mainGlobals "MOST_PACE"=some (some (.int 4 yX)))
  (yRb:nsIn K mainGlobals "MOST_KINDS"=some (some (.int 6 yY)))
  (ySb:nsIn K mainGlobals "FEWEST_WAYS"=some (some (.int 2 yZ)))
  (yTb:nsIn K mainGlobals "MOST_WAYS"=some (some (.int 4 y9)))
  (yUb:nsIn K mainGlobals "MOST_BELTS"=some (some (.int 24 yaa)))
  (yVb:nsIn K mainGlobals "MOST_KNOTS"=some (some (.int 24 yba)))
  (yWb:excIn K yd bmV "ValueError.__new__"=true)
  (yXb:excIn K ye bmV "ValueError.__new__"=true)
  (yYb:excIn K yh bmV "ValueError.__new__"=true)
  (yZb:findIn K (.ref yh) "__getattribute__"=some (some (.builtin "BaseException.__getattribute__")))
  (y0b:findIn K (.ref yh) "__getattr__"=some none)
  (y1b:findIn K (.ref yh) "__class__"=some (some (.builtin "object.__class__")))
  (y2b:hasDictIn K yh=true)
  (y3b:mroIn K yh (.type "object")=some true)
  (y4b:subIn K (.ref yh) (.type "BaseException")=some true)
  (y5b:excIn K yf bmV "ValueError.__new__"=true)
  (xgn:specialIn K (.builtin "object.__class__") "__get__"=some (some (.builtin "getset_descriptor.__get__")))
  (xtk:takesIn K (.builtin "object.__class__")=some true)
  (y6b:subIn K (.ref yh) (.type "BaseException")=some true)
  (y7b:hasDictIn K yh=true)
  (y8b:typeIn K (.ref yh)=some (.type "type"))
  (y9b:subIn K (.ref yh) (.ref yh)=some true)
  (yac:subIn K (.ref yb) (.type "BaseException")=some true)
  (ybc:hasDictIn K yb=true)
  (ycc:typeIn K (.ref yb)=some (.type "type"))
  (ydc:subIn K (.ref yh) (.ref yb)=some true)
  (yec:KOy K yp yv false)
  (yfc:KOy K yq yv false)
  (ygc:KOy K yr yv false)
  (yhc:KOy K yt yv false)
  (yic:KOy K yu yv false)
  (yjc:KOy K yv yv true)
  (ykc:KOy K yp yq false)
  (ylc:KOy K yq yq true)
  (ymc:KOy K yr yq false)
  (ync:KOy K yt yq false)
  (yoc:KOy K yu yq false)
  (ypc:KOy K yv yq false)
  (yqc:KOy K yp yp true)
  (yrc:KOy K yq yp false)
  (ysc:KOy K yr yp false)
  (ytc:KOy K yt yp false)
  (yuc:KOy K yu yp false)
  (yvc:KOy K yv yp false)
  (ywc:KOy K yh yc false)
  (yxc:KOy K yh yd false)
  (yyc:KOy K yh ye false)
  (yzc:KOy K yh yf false)
  (yAc:KOy K yh yg false)
  (yBc:KOy K yh yi false)
  (yCc:KOy K yh yj false)
  (yDc:KOy K yh yk false)
  (yEc:KOy K yh yh true)
  (yFc:kitOne K (.ref yh) (.type "ValueError")=some true)
  : ∃ fd:FuncData,(∀ (s:Am) (v:Al),BindsTo s fd ⟨[v],[]⟩ [("_law_script",v)])/\∀ base:Heap,K.In base->base.Ns mainGlobals mg->FnOk l.prog w K mg base (CXr l.prog w) 11 fa fd ["_law_script"] (WU K):=by
 have e:=hfa.symm.trans (b0 X G aL);cases e;have T:Txt K mg ⟨yb,yc,yd,ye,yf,yg,yh,yi,yj,yk,ym,yn,yo,yp,yq,yr,yt,yu,yv,yx⟩:={
  kW:=qj X G h1
  km:=qj X G h2
  iL:=qj X G h3
  iB:=qj X G h4
  kG:=qj X G h5
  iU:=qj X G h6
  kH:=qj X G h7
  iV:=qj X G h8
  iW:=qj X G h9
  iX:=qj X G h10
  iM:=qj X G h11
  gS:=qj X G h12
  kI:=qj X G h13
  iY:=qj X G h14
  kX:=qj X G h15
  hW:=qj X G h16
  l7:=qj X G h17
  kY:=qj X G h18
  ko:=qj X G h19
  kq:=qj X G h20
  kJ:=qj X G h21
  iZ:=qj X G h22
  iJ:=zgY (st:=qX) (ps:=["work","limit"]) X G a23 l23 c23 k23 yca (.cons ⟨_,rfl⟩ (.nil)) (λ s us hK hl=>by refine wX (n:=2) (P:=λ z=>BindsTo s _ ⟨z,[]⟩ (List.zip ["work","limit"] z)) ?_ us hl;intro _ _;exact PySem.W.binds_K hK rfl yca rfl rfl rfl) (λ s us hK hl=>by refine wX (n:=1) (P:=λ z=>BindsTo s _ ⟨z,[]⟩ (List.zip ["work","limit"] (z ++ _))) ?_ us (by simp at hl;lia);intro _;exact PySem.W.binds_K hK rfl yca rfl rfl rfl)
  lE:=qj X G h24
  kZ:=qj X G h25
  i5:=qj X G h26
  gO:=qj X G h27
  l0:=qj X G h28
  kK:=qj X G h29
  k8:=qj X G h30
  lF:=qj X G h31
  kM:=qj X G h32
  k9:=qj X G h33
  lG:=qj X G h34
  kN:=qj X G h35
  kO:=qj X G h36
  lH:=qj X G h37
  ld:=qj X G h38
  lI:=qj X G h39
  lh:=qj X G h40
  lj:=qj X G h41
  lJ:=qj X G h42
  ll:=qj X G h43
  lw:=qj X G h44
  hX:=qj X G h45
  kr:=qj X G h46
  lK:=bN X G yda
  fU:=bN X G yea
  kP:=bN X G yfa
  kT:=bN X G yga
  kU:=bN X G yha
  gU:=bN X G yia
  iz:=bN X G yja
  kD:=bN X G yka
  lY:=bN X G yla
  lM:=bN X G yma
  iK:=bN X G yna
  lZ:=bN X G yoa
  gW:=bN X G ypa
  lD:=bN X G yqa
  ku:=b0 X G yra
  ly:=b0 X G ysa
  i6:=b0 X G yta
  f9:=b0 X G yua
  hZ:=b0 X G yva
  lN:=b0 X G ywa
  ia:=b0 X G yxa
  kR:=b0 X G yya
  lz:=b0 X G yza
  lO:=b0 X G yAa
  lU:=b0 X G yBa
  l5:=b0 X G yCa
  gC:=b0 X G yEa
  kh:=b0 X G yFa
  lP:=b0 X G yGa
  iN:=b0 X G yHa
  lV:=b0 X G yIa
  kF:=b0 X G yJa
  l6:=b0 X G yKa
  ad:=yLa.c
  fI:=yMa
  fH:=yNa
  fN:=yOa
  fQ:=yPa
  i7:=Wx yLa yQa
  gq:=yRa.c
  gD:=ySa
  fY:=yTa
  kx:=Wx yRa yUa
  fM:=zgZ (st:=qF) (ps:=["self","ins","outs"]) (b0 X G yDa) y0a y1a y2a yXa yYa yZa (λ _ _ _ _ _ _=>wX (by walk_at "b"))
  fO:=y3a.c
  fS:=y4a
  fK:=y5a
  gX:=y6a
  gf:=y7a
  lQ:=y3a.w wgn wtk
  iO:=Wx y3a y8a
  ib:=va y9a
  ic:=va yab
  fZ:=ybb.c
  fR:=ycb
  gE:=ydb
  gY:=yeb
  lW:=ybb.w wgn wtk
  i8:=Wx ybb yfb
  iC:=va ygb
  iD:=va yhb
  gb:=yib.c
  gr:=yjb
  fX:=ykb
  lS:=yib.w wgn wtk
  iP:=Wx yib ylb
  ie:=va ymb
  ig:=va ynb
  fP:=yob.c
  fV:=ypb
  fT:=yqb
  iQ:=yob.w wgn wtk
  gG:=Wx yob yrb
  gu:=va ysb
  gv:=va ytb
  fW:=yub.c
  gw:=yvb
  gF:=ywb
  gx:=yxb
  lX:=yub.w wgn wtk
  i9:=Wx yub yyb
  iE:=va yzb
  gP:=va yAb
  iF:=va yBb
  gc:=yCb.c
  gd:=yDb
  gg:=yEb
  lT:=yCb.w wgn wtk
  iR:=Wx yCb yFb
  ij:=va yGb
  ik:=va yHb
  fG:=yIb.c
  fJ:=yJb
  fF:=yKb
  ky:=Wx yIb yLb
  iS:=va yMb
  iG:=va yNb
  kz:=va yOb
  kA:=⟨_,b0 X G yPb⟩
  iA:=⟨_,b0 X G yQb⟩
  ka:=⟨_,b0 X G yRb⟩
  iT:=⟨_,b0 X G ySb⟩
  kB:=⟨_,b0 X G yTb⟩
  kb:=⟨_,b0 X G yUb⟩
  ke:=⟨_,b0 X G yVb⟩
  lA:=⟨yWb⟩
  gi:=⟨yXb⟩
  lB:=⟨yYb⟩
  kS:=⟨yZb,y0b,y1b,y2b,xgn,xtk,y3b,y4b⟩
  kg:=⟨y5b⟩
  lC:=y6b
  ge:=XD y7b y8b y9b
  kC:=yac
  gz:=XD ybc ycc ydc
  gZ:=yec
  io:=yfc
  g6:=ygc
  gj:=yhc
  ip:=yic
  g7:=yjc
  ir:=ykc
  iH:=ylc
  iu:=ymc
  gy:=ync
  iI:=yoc
  iw:=ypc
  g8:=yqc
  ix:=yrc
  g9:=ysc
  gk:=ytc
  iy:=yuc
  hJ:=yvc
  gH:=ywc
  gI:=yxc
  gJ:=yyc
  gL:=yzc
  gQ:=yAc
  gA:=yBc
  gM:=yCc
  gR:=yDc
  gN:=yEc
  gm:=yFc
 }
 exact ⟨_,λ s v=>.of_eq rfl,λ base _ _=>top_ok T (xX (st:=QY) lL cL kL)⟩
def walk {l:PySem.W.OpenLaw} {q:Af} {loose:A8} {XP:(Str->Option Value)->Heap->Prop} {YP:World->Heap->Prop} {d:DefRec} {K:Params->PySem.W.Frag} (hn:l.most=some 63) (hdf:d.params.defaults=[])
  (hY:∀ (w:World) (h:Heap),YP w h->(K w.params).In h)
  (F:∀ (w:World) (mg:A4) (fa:Addr) (h:Heap),(K w.params).In h->h.Ns mainGlobals mg->mg d.name=some (.ref fa) ->
   ∃ fd:FuncData,(∀ (s:Am) (u:Al),BindsTo s fd ⟨[u],[]⟩ [("_law_script",u)])/\∀ base:Heap,(K w.params).In base->base.Ns mainGlobals mg->FnOk l.prog w (K w.params) mg base (CXr l.prog w) 11 fa fd ["_law_script"] (WU (K w.params))) :
  PySem.W.WalkO q loose XP YP l.row.toRowW d [] (λ f vs=>PySem.call f vs) :=
 L2.walk_of (n:=63) (k:=11) (x:="_law_script") (CX:=λ w=>CXr l.prog w) (sp:=λ w=>WU (K w.params)) hn (by decide) hdf ⟨rfl,by decide,by decide⟩ hY F (λ _ _ a ns hl _ hS=>⟨a,ns,rfl,hS,hl,λ _=>rfl⟩) λ _ _ _ _ _ z=>zcA z
end K27
set_option Elab.async false
structure PySem.W.Fast:Prop where(tw9871262989675303064 tw14541035766192622097 tw15540968393212548734 tw13802072009033974386 tw602695736637007512 tw3301536758796615201 tw8131002138557396322 tw1937141305178125345 tw15845614590795660501 tw12222245289662853745 tw3863551053827687863 tw12248641357160812972 tw11655351857569257495 tw4393238045499045232 tw14696730881844596551 tw973836457931985218 tw17745737181491638238 tw15561710928007410679 tw13582302640559821689 tw8507298504393754684 tw9304636567367827516 tw6433161165088305237 tw7621556330612806768 tw3893346612431649606 tw6588865090206369362 tw17262334672472364551 tw15164034545155985328 tw8955839325113300736 tw12018052086546722174 tw6933626057340618594 tw13220187905881125443 tw1708708124994375487 tw432647114327926139 tw3529178597351404787 tw4860511212724492312 tw514475564965439959 tw15932111855639079578 tw18115647011962986498 tw15671683937239977711 tw10105805803420328600 tw7714484092156001837 tw41322326514354486 tw6868071131358912998 tw2858817325450034319 tw334830970649208049 tw12415985882110728167 tw3365129897380344856 tw3359930284616067267 tw10436182387558727195 tw9383498654297921350 tw17575794090926500400 tw14293474032937496931 tw12378242871638847310 tw2945354939000106403 tw6565607802835901987 tw4218431360771519909 tw11657309566068338311 tw17390115967638291026 tw3972937935821742677 tw3300359084972123545 tw13667099324017495000 tw10423571936900474287 tw9237954761933190325 tw15674249199503661444 tw4547741169882538759 tw1692969206023825365 tw1321047529663948899 tw8215245147235589250 tw467563029886796949 tw3307184310550610045 tw18199939372720228466 tw17468217114707789072 tw10613472115154297499 tw164056304303286905 tw14541031073949275601 tw10118487148891513278 tw2564192473621101633 tw13934969868341895225 tw11733349589014830211 tw10464895374009847454 tw10762250040039872473 tw17320476452038784104 tw9807854232748395684 tw12106400744359668785 tw17228869780140981539 tw8710844619778152632 tw5350374942658381536 tw15915027719691986111 tw2703414527021858602 tw14991901163554590158 tw16026052714787199556 tw13089371261265526539 tw10088493587076240850 tw10714112731553865624 tw18318261546921994481 tw5291544428912186133 tw401951675700751397 tw18000913369996790743 tw15681995092965921435 tw6543461009259768579 tw2200974284091439753 tw11084479793039730662 tw13038024714247719065 tw13326675048517532191 tw1438071451501067642 tw13770796964940094835 tw9612294940273962688 tw6877953199655513865 tw18357606223248498502 tw7814745606807582165 tw6964798678817483586 tw7305237982569473971 tw8530140492243848032 tw15113187539686194597 tw878887173361990761 tw5936448527086993313 tw8296608116296805059 tw8651424517563234383 tw17010874978336930877 tw14303539719657764646 tw12155752164221782068 tw17502167641421964889 tw8846446748766254681 tw15130564692220208768 tw9274649985306285782 tw7482665247642247969 tw3649042575669689208 tw11953983426834038756 tw18142621031725523404 tw13234713360618531615 tw17944290987086320933 tw13309150279746862726 tw17642382536942171046 tw509373168098511927 tw13574603338623802419 tw13412369999032033719 tw1761833891834467034 tw9986530254989106045 tw15072930639268574087 tw13092475395756952536 tw14537329613401658631 tw4108638372390896204 tw5657496910375528017 tw3362701167218161982 tw13715933553376239696 tw18004270602460555674 tw10739641675347321687 tw13384156362480988516 tw6972857303696132481 tw14701170645142863303 tw11538501950955719840 tw4100247902764376288 tw1448597312940464548 tw6904713088813730244 tw3845964036439860630 tw9327839923083190866 tw7558740029505914141 tw817644899028031394 tw152572321064615876 tw2429799081860695427 tw9255695219156653284 tw12782111402987064707 tw10114485262732824071 tw17375968211519903700 tw17828692761546616098 tw5780805930753762657 tw14751831543264042832 tw10744590613811498387 tw9255882694616555457 tw7235922490423697658 tw14111290620012008239 tw7517704021862203675 tw11056137443577779188 tw6652504799786448516 tw11729035006683612866 tw8128398462156265664 tw7626855439713369643 tw15042360244308813722 tw14335285416861156145 tw16699892946338894096 tw14979025307543431654 tw9832777244856987323 tw2724233882811905616 tw17990004082951967560 tw10641577360413869489 tw2497252084891629005 tw1310583157535217943 tw2782055158107989929 tw10349361335030383578 tw13341747392174525098 tw6006834414612828372 tw9545486432182678770 tw2699571766967270562 tw14550121855923250334 tw13624129354046061911 tw9769612631591010851 tw6603126737097638535 tw10543629306566554030 tw4610443682089299900 tw4845145185808517100 tw4943285105552187998 tw5675311152349971104 tw15245727650014341676 tw5807814754567101267 tw13834953602065631360 tw17441319782253697686 tw15101409774558213700 tw3867809066254614165 tw14363975078294661973 tw5766128007745780948 tw4946933307830192908 tw3870893332750478178 tw9097819875745475037 tw15307485221794326032 tw10882994566588983795 tw17448710975644891808 tw11524734026722445446 tw6958904871633241330 tw3477561217627711900 tw16017119116872133199 tw5767644162638714209 tw18303644029630896260 tw3592326172266461367 tw6299151627051745600 tw3150088640145063406 tw16958498236710098382 tw14366821729960994707 tw6673881517772543097 tw2785693080580403178 tw7334015405312862783 tw7417393333245683963 tw7384115085787820626 tw4026220784820578333 tw3463591417875907525 tw12192415837570415665 tw10007940587247371431 tw386542064463908838 tw18351111521763668626 tw12409938110549566719 tw5554602316404128515 tw3565653601768707359 tw2416948206175888857 tw1327028344977677926 tw9625972036017269752 tw3860004243196853720 tw15280281348909123673 tw7960824634657335116 tw8208036280727034693 tw2070505989409590982 tw14449732498115343783 tw13113522054315889801 tw16506767349143214658 tw3573799533829637181 tw13949582963514532699 tw14487170685721249684 tw10315984956956494949 tw8811667525991853567 tw14958995051832254016 tw9106658586659143437 tw2872394213906520844 tw8773433272266460944 tw10447856832146348591 tw10574389129023696039 tw4943554005529590495 tw13072706263011652689 tw14183493033437486558 tw3913180129928683896 tw6515281094911886643 tw8124191904427914962 tw16617600041897701186 tw343076557410135934 tw5708441328774285273 tw15816724266984170258 tw13005872788238022513 tw14274744284746856556 tw2528893310402241383 tw15070895565032973242 tw15909542173223472253 tw16551715222813200043 tw11389710116768602820 tw6963554895729833303 tw12356435866940176717 tw17330639202712281351 tw6078084622831768029 tw12580004887225602052 tw9659505141718986561 tw8764529118818530467 tw6551583409293058508 tw16125932483717750200 tw1000214669757534032 tw14765202243088084252 tw2025972713542511133 tw6383349130243138421 tw15596870943328233110 tw16568995303419520224 tw5079872858948954634 tw17100054541206697166 tw15488935128902470374 tw9952981668966989895 tw12021836404294279907 tw736423152226738699 tw15217160662230826079 tw18379137833632379892 tw13595039018718649467 tw11646043315878558579 tw1786247683318978543 tw3920091144597662025 tw11810148353717846929 tw5395770145761116347 tw3097589229538007401 tw9519115197344523679 tw10125910029165448626 tw5708364037214596299 tw10617920716962801579 tw15112368445065202262 tw18112523247426061096 tw8131710875247615093 tw17743817455788694444 tw12996305067401454025 tw9462336351363406398 tw10336805572653498316 tw13034001007541418258 tw6102194075303477359 tw3261231891940770856 tw10287859780721406045 tw5402737059235873703 tw11374593891578160265 tw6277435485321230079 tw6745004031862508209 tw10144488939745946791 tw17251073263820904685 tw14637307567858929836 tw10458580387894423583 tw2578580735053937708 tw2216818594412960732 tw14841128857729170694 tw4077593813176251812 tw10455843195084041764 tw2636622474050195789 tw10608580475870666496 tw1482904205420612541 tw6147688355005902727 tw8747980921229123800 tw15561897633270504026 tw3151069178019954021 tw4513865205947078841 tw17448318602140426415 tw10184208132818091205 tw4809596270689148366 tw1958965587110446850 tw16842457275504522609 tw15071184811159515671 tw8495139387880285761 tw9789942546253634223 tw1194087037482206446 tw13026346200897981565 tw13876229327581460830 tw6204704399631372953 tw13661374061757293776 tw17949091708994345447 tw9365726940834094890 tw16429951027805181888 tw12575120529993109804 tw4063591251101772445 tw12644671482604420980 tw16125337336135804096 tw16692858434900432261 tw14848931849284756724 tw12063407755536686986 tw13593101126294115011 tw9023238026152685191 tw12176631438645544905 tw16126584497389285988 tw16351621987307442460 tw6679289531313028094 tw1190971704621252325 tw9161391753712362098 tw2098703957247114437 tw14435080387523356758 tw7189974886438022068 tw9261650551747552175 tw2395802352860751548 tw4720458887052001662 tw3734108761184942437 tw6563759259551231174 tw15333042811026491701 tw815705975999792992 tw15843734190422417569 tw8243992698713600679 tw2801859033519008431 tw10856166537536554908 tw11710811145606828681 tw18374956876950233005 tw2680073850101905966 tw5966808987670568770 tw16991536684184104098 tw7025841031654258698 tw2199721243995082639 tw4016995465692212633 tw15631928492350445701 tw15266192319175179486 tw592434326258214488 tw2151104738008820841 tw8384408214037959332 tw371335502794808594 tw9900276578317032603 tw15386880998002785799 tw12490318281675237870 tw17930734045582534707 tw9891955594104044099 tw3440095074031438662 tw7695559641523778575 tw3416728288161490180 tw3710101011695009461 tw18368207184888184251 tw1160772461277866557 tw18152622704270643579 tw14891506221856735256 tw4842963146370391301 tw1488114266992454562 tw574446014107645881 tw11824741663467489979 tw4167186155898204327 tw14270391909971254687 tw10008792432392606316 tw11775706271473056078 tw12495129717251315008 tw3708554599748759659 tw6088241216378757512 tw14119451285464210486 tw13550450187980808295 tw12918654388407806354 tw12260414917445626566 tw10389304962445250488 tw10789030547558544149 tw6965876536489709584 tw748240730609534233 tw14097051944218271826 tw12817093405350744001 tw15103703285452830964 tw9755262253229971435 tw7717584540644841127 tw9038542905044830461 tw6628618857386226629 tw14469630073180247425 tw2971393077477363013 tw6513329274755640136 tw1357485040351207384 tw9664706738187768376 tw16657973931768389839 tw18233233225491937856 tw8121161593374475633 tw13814815010684166541 tw1894957188989968207 tw18157560707696385725 tw12766360092990539417 tw10245862551945105512 tw15355519476161798686 tw16238845794977643836:True)
open PySem PySem.W PyProof.Rows
set_option maxRecDepth 100000 in
set_option maxHeartbeats 0 in
theorem PySem.Challenge.cw_beltshares_k27_the_round_holds : PySem.Challenge.rw_beltshares_k27_the_round.Holds := by
 w_on;o_law;k_head;(case hw=>w_witness2)
 k_fill
 refine K27.walk (l:=PySem.Challenge.rw_beltshares_k27_the_round) rfl rfl (λ w h Y=>PySem.W.kIn_of Y) ?F
 case F =>
  intro w mg fa h KX G hmg;refine' K27.all_mk KX G hmg ..
  all_goals try first|(refine' K27.fhy ?a ?l ?c ?k;(case a=>k_is);(case l=>k_is);(case c=>k_is);(case k=>k_is))|(refine' K27.mhy ?a ?i ?l ?c ?k;(case a=>k_is);(case i=>k_is);(case l=>k_is);(case c=>k_is);(case k=>k_is))|(refine ⟨?_,?_,?_,?_,?_,?_,?_,?_⟩ <;> k_is)|k_is|(show nsIn _ _ _=_;k_is)|(show findIn _ _ _=_;k_is)|(show kitOne _ _ _=_;kit_is)|kit_is|k_exc
