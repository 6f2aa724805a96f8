import PyProof.Rows.All
import Wide.All
import OpenK.AllK
import Wide.FinOn
import Lean
import PyProof.EqAt
import PyProof.EqKinds
import PyProof.TupleCall
import PyProof.NeKinds
import PyProof.SumWalkG
import PyProof.Rows.CallKwBuiltin
import PyProof.Rows.FStr
import PyProof.ListRange
import PyProof.ZipIter
import PyProof.CompFree
import KE.KIntText
import PyProof.StrWalks
import PyProof.Rows.StrMul
import PyProof.ConsumeWalk
import Wide.Txt
import PySem.Challenge.RW_beltshares_k41_waiting_way
open PySem.W (methodObj plainGet_of plainOver any_some emptyDict looks_findIn mroIn callWith_K methodCall_KW excIn mg_of readsIn findCls binds_K mg_none_of)
set_option Elab.async false
set_option linter.all false
set_option maxRecDepth 100000
set_option compiler.extract_closed false
set_option bootstrap.genMatcherCode false
set_option hygiene false
local macro_rules | `(tactic| walk_at "p")=>`(tactic| first|exact Or.inl rfl|exact Or.inr rfl|assumption)
local macro_rules | `(tactic| walk_at "q")=>`(tactic| first|exact L2.nobehind _ (by decide) (by decide)|rfl)
set_option hygiene true
open List (nodup_append cons_append getLast_mem of_mem_zip length_nil all_cons map_nil)
def aa:=@List.getElem?_eq_some_iff
def ac:=@List.getElem?_eq_getElem
def ad:=@PySem.wpAny_bind
def ae:=@List.getD_eq_getElem?_getD
def af:=@List.mem_of_getElem?
def ah:=@PySem.Heap.get?_push_of_some
def ai:=@List.length_map
def aj:=@List.getElem?_map
def am:=@if_neg
def ao:=@List.size_toArray
def ap:=@PySem.F.plainAttrs_list
def aq:=@if_pos
def ar:=@Nat.le_refl
def au:=@PySem.Heap.lt_size
def av:=@Option.map_eq_some_iff
def aw:=@PySem.wpAny_pure
def ax:=@List.mem_cons
def ay:=@List.mem_singleton
def az:=@Bool.false_ne_true
def aA:=@PySem.Heap.get?_push_size
def aB:=@PySem.F.type_list_append
def aC:=@PySem.F.slot_list_append
def aD:=@List.mem_append
def aE:=@Nat.lt_of_lt_of_le
def aF:=@Nat.ne_of_lt
def aG:=@List.mem_cons_of_mem
def aH:=@decide_eq_false
def aI:=@Option.some.inj
def aJ:=@decide_eq_true
def aK:=@Int.toNat_natCast
def aM:=@List.getElem?_append_right
def aN:=@List.getElem?_set_self
def aO:=@PySem.wpAny_mono
def aP:=@List.length_append
def aQ:=@List.getElem?_append_left
def aR:=@List.take_add_one
def aS:=@List.take_length
def aT:=@List.length_take
def aU:=@List.Perm.refl
def aV:=@List.mem_append_right
def aW:=@List.mem_map
def aX:=@List.getLastD_eq_getLast?
def aY:=@List.mem_range
def aZ:=@Ne.symm
def a7:=@List.map_append
def a8:=@List.not_mem_nil
def a9:=@beq_eq_false_iff_ne
def ba:=@PyProof.Rows.callWith_type1
def bb:=@List.length_replicate
def bc:=@Classical.byContradiction
def bd:=@PySem.Heap.get?_update_other
def be:=@PySem.wpAny_field
def bg:=@List.getElem?_set_ne
def bh:=@List.getElem?_of_mem
def bj:=@PySem.Obj.data_mapFields
def bn:=@Nat.not_lt_zero
def bp:=@List.getLast?_eq_getElem?
def br:=@List.getElem_mem
def bt:=@Option.getD_some
def bu:=@Int.emod_lt_of_pos
def bw:=@Nat.le_trans
def bz:=@or_false
def bA:=@PySem.wpAny_Call_Name_kw
def bB:=@beq_iff_eq
def bD:=@PySem.mem_of_lookup
def bE:=@PySem.Heap.size_push
def bF:=@PySem.wpAny_truthy_bool
def bH:=@List.mem_append_left
def bI:=@Int.natAbs_natCast
def bJ:=@Array.getElem?_eq_some_iff
def bK:=@List.mem_cons_self
def bL:=@List.map_cons
def bM:=@Int.emod_nonneg
def bN:=@PySem.wpAny_seqItems
def bO:=@of_decide_eq_true
def bP:=@congrArg
def bQ:=@Nat.zero_le
def bR:=@Nat.lt_trichotomy
def bS:=@PySem.Heap.get?_update_self
def bT:=@List.length_cons
def bU:=@Int.le_refl
def bV:=@PySem.W.mg_none_of
def bW:=@List.mem_replicate
def bX:=@Int.natCast_nonneg
def bY:=@List.Perm.append_left
def bZ:=@decide_eq_true_eq
def b5:=@PySem.wpAny_setField_rec
def b7:=@PySem.wpAny_passesOwn
def b8:=@PySem.Obj.isFreed_of_fields
def b9:=@Nat.lt_succ_self
def cc:=@Nat.le_of_lt
def cf:=@List.all_eq_true
def cg:=@Bool.and_eq_true
def ci:=@List.ne_nil_of_length_pos
def cj:=@PySem.W.mg_of
def ck:=@List.length_set
def cm:=@List.find?_cons
def cn:=@List.append_nil
def cq:=@Nat.lt_irrefl
def cr:=@PySem.F.slot_tuple_iterator_next
def cu:=@List.take_zero
def cv:=@List.append_assoc
def cw:=@List.mem_filter
def cx:=@PySem.codeAny_mono
def cy:=@PySem.F.called_set
def cz:=@Bool.false_eq_true
def cA:=@PySem.Around.in1_units
def cB:=@Option.bind_eq_some_iff
def cC:=@Nat.le_succ
def cD:=@Option.map_eq_none_iff
def cE:=@Int.le_of_lt
def cF:=@Bool.and_false
def cG:=@PySem.wpAny_execs_nil
def cH:=@List.lookup_cons
def cI:=@PySem.SeqAt.EqAt.of_refs
def cJ:=@PySem.wpAny_callSpecial?_slot
def cK:=@Int.natAbs_dvd_natAbs
def cM:=@List.replicate_succ
def cN:=@PySem.SeqAt.RcAt.tuples
def cO:=@List.exists_cons_of_ne_nil
def cP:=@Bool.eq_iff_iff
def cQ:=@Array.length_toList
def cR:=@Nat.ne_of_gt
def cS:=@PySem.wpAny_holding
def cT:=@PySem.Paired.length
def cU:=@List.pairwise_cons
def cV:=@List.set_eq_of_length_le
def cW:=@List.getElem?_eq_none_iff
def cX:=@List.getElem_of_mem
def cY:=@PySem.wpAny_setField
def cZ:=@PySem.F.slot_list_index
def c7:=@Nat.mod_eq_of_lt
def c8:=@Nat.le_add_right
def c9:=@List.mem_flatMap
def da:=@List.take_of_length_le
def db:=@Nat.mod_lt
def dc:=@Int.zero_add
def de:=@PySem.wpAny_pyIter_list
def dg:=@PySem.wpAny_newObj_type
def dh:=@List.getLast?_eq_some_getLast
def di:=@List.nodup_cons
def dj:=@PySem.F.type_list_pop
def dk:=@PySem.F.slot_list_pop
def dl:=@Array.getElem?_toList
def dm:=@PySem.wpAny_call_entry
def dn:=@if_false
def dq:=@List.flatten_cons
def dr:=@Int.emod_eq_emod_iff_emod_sub_eq_zero
def du:=@PySem.call_meets
def dA:=@List.length_pos_iff
def dB:=@Int.toNat_of_nonneg
def dC:=@PySem.codeAny_builtin
def dD:=@PySem.SeqAt.EqAt.same
def dE:=@PySem.F.slot_zip_next
def dF:=@Bool.not_true
def dG:=@PySem.W.callWith_K
def dH:=@List.length_drop
def dI:=@PySem.wpAny_updateSeq_pair
def dJ:=@if_true
def dL:=@Option.isSome_map
def dM:=@Function.comp_def
def dN:=@PySem.Around.under_plainId
def dO:=@Option.getD_none
def dP:=@Nat.zero_lt_succ
def dQ:=@PySem.wpAny_onRaise
def dR:=@PySem.wpAny_call
def dS:=@Bool.or_eq_true
def dU:=@PySem.W.methodCall_KW
def dW:=@List.map_map
def dX:=@Option.map_map
def dY:=@Int.fdiv_eq_ediv_of_nonneg
def dZ:=@List.perm_append_comm
def d0:=@List.length_singleton
def d5:=@List.getElem?_eq_none
def d6:=@List.pairwise_iff_getElem
def d7:=@Array.getElem?_eq_getElem
def d8:=@PySem.wpAny_isInstance
def d9:=@PySem.wpAny_execs_cons
def ed:=@PySem.SeqAt.RcAt.lists
def ef:=@PySem.F.type_list_extend
def er:=@PySem.F.slot_list_extend
def eu:=@Bool.and_true
def eC:=@PySem.sizeLine_eq
def eD:=@PySem.seqIndex_of
def eE:=@PySem.F.type_list_index
def eF:=@List.length_eq_zero_iff
def eG:=@List.getElem?_replicate
def eH:=@List.map_set
def eI:=@PySem.W.cellsFrom_some
def eJ:=@PyProof.noPylong_small
def eK:=@List.pairwise_lt_range
def eM:=@List.append_eq_nil_iff
def eO:=@List.Perm.append_right
def eP:=@Int.le_trans
def eQ:=@PySem.F.args_tuple_iterator_next_1
def eR:=@List.range_succ
def eT:=@List.forIn_cons
def eU:=@List.flatMap_append
def eV:=@List.filterMap_cons
def eW:=@List.any_cons
def eX:=@List.take_append_drop
def eY:=@List.getElem?_zipWith
def eZ:=@PySem.F.entry_tuple_iterator_next
def fe:=@Decidable.of_not_not
def ff:=@PySem.Calls.Name_function_global
def fg:=@Bool.or_eq_false_iff
def fh:=@PySem.intBits_le_64
def fj:=@PySem.W.pyHash_slot
def fk:=@PySem.W.looks_subIn
def fm:=@PySem.W.callWith_K0
def fo:=@List.toList_toArray
def fq:=@List.length_zipWith
def ft:=@PySem.wpAny_standAt
def fv:=@PySem.wpAny_comprehension_free
def fz:=@PySem.wpAny_attempt
def fA:=@List.take_succ
def fB:=@PySem.W.any_some
def fC:=@PySem.SeqAt.RcAt.lists_lengths
def fD:=@Nat.lt_of_le_of_lt
def fE:=@List.mem_filterMap
def fF:=@Array.forIn_toList
def fG:=@Array.append_assoc
namespace L2
open PySem PySem.Spec PyProof.Rows
abbrev Key:=Sum Int Str
noncomputable def zgM:Key->Value->Bool
 | .inl k,v=>Value.isInt k v
 | .inr x,v=>Value.isStrOf x v
noncomputable def ziJ (w:World):Key->Int
 | .inl k=>hashInt k
 | .inr x=>hashStr w x
theorem qv:∀ {k:Key} {v:Value},zgM k v=true->(∃ i t,k=Sum.inl i/\v=Value.int i t)\/(∃ x t,k=Sum.inr x/\v=Value.str x t)
 | .inl i,v,h=>by
  obtain ⟨t,e⟩:=Value.isInt_shape (k:=i) (v:=v) h;exact .inl ⟨i,t,rfl,e⟩
 | .inr x,v,h=>by
  obtain ⟨t,e⟩:=Value.isStrOf_shape (x:=x) (v:=v) h;exact .inr ⟨x,t,rfl,e⟩
def zhA (a b:Int):decide ((Sum.inl a:Key)=Sum.inl b)=(a == b):=by
 by_cases e:a=b
 ·subst e;simp
 ·have h:¬ (Sum.inl a:Key)=Sum.inl b:=λ q=>e (Sum.inl.inj q);rw [aH h];exact (a9.mpr e).symm
def zhx (a b:Str):decide ((Sum.inr a:Key)=Sum.inr b)=decide (a=b):=by
 by_cases e:a=b
 ·subst e;simp
 ·have h:¬ (Sum.inr a:Key)=Sum.inr b:=λ q=>e (Sum.inr.inj q);rw [aH h,aH e]
def zhz (a:Int) (b:Str):decide ((Sum.inl a:Key)=Sum.inr b)=false:=aH (λ q=>nomatch q)
def zhy (a:Str) (b:Int):decide ((Sum.inr a:Key)=Sum.inl b)=false:=aH (λ q=>nomatch q)
noncomputable def Vu (prog:Program) (w:World):PySem.KeyKind prog w Key where
 is:=zgM
 hash:=ziJ w
 inj:=λ v a b ha hb=>by
  rcases qv ha with ⟨i,t,rfl,rfl⟩|⟨x,t,rfl,rfl⟩
  ·rcases qv hb with ⟨j,u,rfl,e⟩|⟨y,u,rfl,e⟩
   ·injection e with e1 _;rw [e1]
   ·exact nomatch e
  ·rcases qv hb with ⟨j,u,rfl,e⟩|⟨y,u,rfl,e⟩
   ·exact nomatch e
   ·injection e with e1 _;rw [e1]
 byValue:=λ k v h=>by
  rcases qv h with ⟨i,t,rfl,rfl⟩|⟨x,t,rfl,rfl⟩ <;> rfl
 pyHash:=λ hv h=>by
  rcases qv hv with ⟨i,t,rfl,rfl⟩|⟨x,t,rfl,rfl⟩
  ·exact wpAny_pyHash_int h
  ·exact wpAny_pyHash_str h
 eqBool:=λ hu hv h=>by
  rcases qv hu with ⟨i,t,rfl,rfl⟩|⟨x,t,rfl,rfl⟩
  ·rcases qv hv with ⟨j,u,rfl,rfl⟩|⟨y,u,rfl,rfl⟩
   ·rw [zhA] at h;exact wpAny_eqBool_int h
   ·rw [zhz] at h;exact SeqAt.EqAt.int_str i t y u _ _ _ _ h
  ·rcases qv hv with ⟨j,u,rfl,rfl⟩|⟨y,u,rfl,rfl⟩
   ·rw [zhy] at h;exact SeqAt.EqAt.str_int x t j u _ _ _ _ h
   ·rw [zhx] at h;exact wpAny_eqBool_str h
 «strs»:=λ k x t v h=>by
  rcases qv h with ⟨i,u,rfl,e⟩|⟨y,u,rfl,e⟩
  ·exact nomatch e
  ·injection e with e1 _
   subst e1;cases v <;> rfl
end L2
namespace L2
open PySem PySem.Spec PyProof.Rows
inductive V where
 | non|bl (b:Bool)|int (i:Int)|str (x:Str)|byt (b:Array UInt8)|flt (b:UInt64)|ref (a:Addr)|ty (n:String)
 deriving DecidableEq
def RelV:V->Value->Prop
 | .non,u=>u=Value.none
 | .bl b,u=>u=Value.bool b
 | .int i,u=>∃ t,u=Value.int i t
 | .str x,u=>∃ t,u=Value.str x t
 | .byt b,u=>∃ t,u=Value.bytes b t
 | .flt b,u=>∃ t,u=Value.float b t
 | .ref a,u=>u=Value.ref a
 | .ty n,u=>u=Value.type n
abbrev Vals:List V->List Value->Prop:=Paired RelV
def Vals.length {xs:List V} {us:List Value} (r:Vals xs us):xs.length=us.length:=cT r
theorem Vals.get:∀ {xs:List V} {us:List Value} {i:Nat} {x:V},Vals xs us->xs[i]?=some x->∃ u,us[i]?=some u/\RelV x u
 | _,_,_,_,.nil,e=>by simp at e
 | _,_,0,_,.cons r _,e=>by simp at e;subst e;exact ⟨_,rfl,r⟩
 | _,_,i + 1,x,.cons _ t,e=>by
  obtain ⟨u,h1,h2⟩:=Vals.get (i:=i) (x:=x) t (by simpa using e);exact ⟨u,by simpa using h1,h2⟩
theorem Vals.set {x:V} {u:Value} (r:RelV x u):∀ {xs:List V} {us:List Value} (i:Nat),Vals xs us->Vals (xs.set i x) (us.set i u)
 | _,_,_,.nil=>.nil
 | _,_,0,.cons _ t=>.cons r t
 | _,_,i + 1,.cons q t=>.cons q (Vals.set r i t)
theorem Vals.append:∀ {xs ys:List V} {us ws:List Value},Vals xs us->Vals ys ws->Vals (xs ++ ys) (us ++ ws)
 | _,_,_,_,.nil,s=>s
 | _,_,_,_,.cons r t,s=>.cons r (Vals.append t s)
theorem Vals.take:∀ {xs:List V} {us:List Value} (n:Nat),Vals xs us->Vals (xs.take n) (us.take n)
 | _,_,0,_=>.nil
 | _,_,_ + 1,.nil=>.nil
 | _,_,n + 1,.cons r t=>.cons r (Vals.take n t)
theorem Vals.drop:∀ {xs:List V} {us:List Value} (n:Nat),Vals xs us->Vals (xs.drop n) (us.drop n)
 | _,_,0,r=>r
 | _,_,_ + 1,.nil=>.nil
 | _,_,n + 1,.cons _ t=>Vals.drop n t
def Vals.none_of:∀ {xs:List V} {us:List Value} {i:Nat},Vals xs us->xs[i]?=none->us[i]?=none:=λ {xs us i} r e=>by
 have h1:=r.length;have h2:xs.length<=i:=cW.mp e;exact cW.mpr (by omega)
def RelO:Option V->Option Value->Prop
 | some v,some u=>RelV v u
 | none,none=>True
 | _,_=>False
def KV {κ:Type}:List (κ × V)->List (κ × Value)->Prop:=Paired λ (p:κ × V) (q:κ × Value)=>p.1=q.1/\RelV p.2 q.2
noncomputable def kV:Key->V
 | .inl i=>.int i
 | .inr x=>.str x
inductive HO where
 | lst (xs:List V)
 | tup (xs:List V)
 | dK (kvs:List (Key × V))|dT (kvs:List (List Key × V))
 | set (S:Int->Bool) (n:Nat)
 | ins (C dx:Addr) (fs:List (Str × V))
 | own (x:Addr)
 | xd (fs:List (Str × V))
 | met (f x:Addr)
 | rng (lo hi:Int)
 | frz (o:Obj) (u:HO)
 | tbl (ps:Array Value)
 | ext (φ:Heap->Prop)
abbrev Hp:=Addr->Option HO
noncomputable def upd (H:Hp) (a:Addr) (o:HO):Hp:=λ b=>if b=a then some o else H b
def upd_same {H:Hp} {a:Addr} {o:HO}:upd H a o a=some o:=by unfold upd;rw [aq rfl]
def upd_ne {H:Hp} {a b:Addr} {o:HO} (h:b≠a):upd H a o b=H b:=by unfold upd;rw [am h]
def ZH {H:Hp} {a:Addr} {o u:HO}:upd (upd H a o) a u=upd H a u:=by
 funext b;unfold upd;split <;> rfl
def QO {H:Hp} {a b:Addr} {o u:HO} (h:H a=some o) (h':H b=some u) (d:o≠u):a≠b:=by
 intro e;subst e;rw [h] at h';exact d (aI h')
def ne_of_none {H:Hp} {a b:Addr} {o:HO} (h:H a=some o) (h':H b=none):a≠b:=by
 intro e;subst e;rw [h] at h';cases h'
section
variable (P:Program) (w:World)
def ObjOk (H:Hp) (h:Heap) (a:Addr):HO->Prop
 | .lst xs=>xs.length<=sizeLine/\∃ (its:List Value) (n:Nat),Vals xs its/\h.get? a=some { cls:=.type "list",data:=.seq its.toArray n }
 | .tup xs=>xs.length<=sizeLine/\∃ its:List Value,Vals xs its/\IsTup h a its.toArray
 | .dK kvs=>kvs.length<=sizeLine/\(a == sysModules)=false/\∃ vs,KV kvs vs/\h.DictOf (Vu P w) a vs
 | .dT kvs=>kvs.length<=sizeLine/\(a == sysModules)=false/\∃ xs:List (List Key × Addr × Value),
   Paired (λ (p:List Key × V) (q:List Key × Addr × Value)=>p.1=q.1/\H q.2.1=some (.tup (p.1.map kV))/\RelV p.2 q.2.2) kvs xs /\
   ∃ o es ep,h.get? a=some o/\o.ExactDict/\o.data=.dict es ep/\es.toList=xs.map (entryOfKey (tupleKind (Vu P w)))/\(xs.map (·.1)).Nodup
 | .set S n=>h.SetOf (intKind P w) a S n
 | .ins C dx fs=>H dx=some (.own a)/\fs.length<=1000/\dx≠a/\h.get? a=some (PySem.W.instObj C dx) /\
   ∃ mA,h.Ns1 dx mA/\(∀ f,RelO (fs.lookup f) (mA f))/\PySem.Within mA (fs.map (·.1))
 | .own _=>∃ o,h.get? a=some o
 | .xd fs=>∃ mA,h.Ns1 a mA/\∀ f,RelO (fs.lookup f) (mA f)
 | .rng lo hi=>∃ t u v,h.get? a=some { cls:=.type "range",data:=.fields #[.int lo t,.int hi u,.int 1 v] }
 | .frz o u=>h.get? a=some o/\ObjOk H h a u
 | .tbl ps=>h.get? a=some { cls:=.none,data:=.fields ps }
 | .met f x=>h.get? a=some (methodObj (.ref f) (.ref x))
 | .ext φ=>φ h/\(∃ o,h.get? a=some o)/\∀ h1 h2:Heap,φ h1->(∀ o,h1.get? a=some o->h2.get? a=some o)->φ h2
def HOk (H:Hp) (h:Heap):Prop:=∀ a o,H a=some o->ObjOk P w H h a o
end
section
variable {P:Program} {w:World} {H H':Hp} {h h':Heap} {a:Addr} {o:HO}
theorem ObjOk.lt (x:ObjOk P w H h a o):a < h.objs.size:=by
 cases o with
 | lst xs=>obtain ⟨_,_,_,_,e⟩:=x;exact au e
 | tup xs=>obtain ⟨_,_,_,p⟩:=x;exact p.lt
 | dK kvs=>obtain ⟨_,_,_,_,o,_,_,e,_⟩:=x;exact au e
 | dT kvs=>obtain ⟨_,_,_,_,o,_,_,e,_⟩:=x;exact au e
 | set S n=>obtain ⟨o,_,_,_,e,_⟩:=x;exact au e
 | ins C dx fs=>obtain ⟨_,_,_,e,_⟩:=x;exact au e
 | own y=>obtain ⟨_,e⟩:=x;exact au e
 | xd fs=>obtain ⟨_,⟨_,_,_,e,_⟩,_⟩:=x;exact au e
 | rng lo hi=>obtain ⟨_,_,_,e⟩:=x;exact au e
 | frz ob u=>obtain ⟨e,_⟩:=x;exact au e
 | tbl ps=>exact au (show h.get? a=some _ from x)
 | met f y=>exact au (show h.get? a=some _ from x)
 | ext φ=>obtain ⟨_,⟨_,e⟩,_⟩:=x;exact au e
theorem Paired.mapP {α β:Type} {F G:α->β->Prop}:∀ {l₁:List α} {l₂:List β},Paired F l₁ l₂->(∀ a b,F a b->G a b)->Paired G l₁ l₂
 | _,_,.nil,_=>.nil
 | _,_,.cons r t,f=>.cons (f _ _ r) (Paired.mapP t f)
theorem ObjOk.stay (x:ObjOk P w H h a o) (k:∀ b u,(b=a\/H b=some (.own a))->h.get? b=some u->h'.get? b=some u)
  (ho:∀ b,H b=some (.own a)->H' b=some (.own a)) (ht:∀ b xs,H b=some (.tup xs)->H' b=some (.tup xs)):ObjOk P w H' h' a o:=by
 induction o with
 | lst xs=>obtain ⟨z,its,n,r,e⟩:=x;exact ⟨z,its,n,r,k _ _ (.inl rfl) e⟩
 | tup xs=>obtain ⟨z,its,r,ob,e,c⟩:=x;exact ⟨z,its,r,ob,k _ _ (.inl rfl) e,c⟩
 | dK kvs=>obtain ⟨z,y,vs,r,ob,es,ep,e,c⟩:=x;exact ⟨z,y,vs,r,ob,es,ep,k _ _ (.inl rfl) e,c⟩
 | dT kvs =>
  obtain ⟨z,y,xs,r,ob,es,ep,e,c⟩:=x;exact ⟨z,y,xs,Paired.mapP r λ p q z=>⟨z.1,ht _ _ z.2.1,z.2.2⟩,ob,es,ep,k _ _ (.inl rfl) e,c⟩
 | set S n=>obtain ⟨ob,es,ep,t,e,c⟩:=x;exact ⟨ob,es,ep,t,k _ _ (.inl rfl) e,c⟩
 | ins C dx fs =>
  obtain ⟨d,z,ne,e,mA,⟨od,es,ep,e2,c⟩,r⟩:=x;exact ⟨ho _ d,z,ne,k _ _ (.inl rfl) e,mA,⟨od,es,ep,k _ _ (.inr d) e2,c⟩,r⟩
 | own y=>obtain ⟨ob,e⟩:=x;exact ⟨ob,k _ _ (.inl rfl) e⟩
 | xd fs=>obtain ⟨mA,⟨od,es,ep,e,c⟩,r⟩:=x;exact ⟨mA,⟨od,es,ep,k _ _ (.inl rfl) e,c⟩,r⟩
 | rng lo hi=>obtain ⟨t,u,v,e⟩:=x;exact ⟨t,u,v,k _ _ (.inl rfl) e⟩
 | frz ob u ih=>obtain ⟨e,q⟩:=x;exact ⟨k _ _ (.inl rfl) e,ih q⟩
 | tbl ps =>
  have e:h.get? a=some { cls:=.none,data:=.fields ps }:=x;show h'.get? a=some { cls:=.none,data:=.fields ps }
  exact k a _ (.inl rfl) e
 | met f y =>
  have e:h.get? a=some (methodObj (.ref f) (.ref y)):=x;show h'.get? a=some (methodObj (.ref f) (.ref y))
  exact k a _ (.inl rfl) e
 | ext φ=>obtain ⟨p,⟨o,e⟩,st⟩:=x;exact ⟨st _ _ p λ o q=>k _ _ (.inl rfl) q,⟨o,k _ _ (.inl rfl) e⟩,st⟩
def HOk.lt (x:HOk P w H h) (e:H a=some o):a < h.objs.size:=(x a o e).lt
theorem HOk.fresh (x:HOk P w H h) (e:h.objs.size<=a):H a=none:=by
 cases q:H a with
 | none=>rfl
 | some u=>exact absurd (aE (x.lt q) e) (cq _)
def HOk.kept (x:HOk P w H h) (k:∀ b u,h.get? b=some u->h'.get? b=some u):HOk P w H h':=λ a o e =>
 (x a o e).stay (λ b u _ q=>k b u q) (λ _ q=>q) λ _ _ q=>q
def HOk.laid (x:HOk P w H h) (k:∀ b u,h.get? b=some u->h'.get? b=some u) (hp:h.objs.size<=a) (new:ObjOk P w (upd H a o) h' a o):HOk P w (upd H a o) h':=λ b u e=>by
 have hn:=x.fresh hp;by_cases hb:b=a
 ·subst hb;rw [upd_same] at e;cases e;exact new
 ·rw [upd_ne hb] at e;exact (x b u e).stay (λ c v _ q=>k c v q) (λ c q=>by rw [upd_ne (ne_of_none q hn)];exact q) λ c xs q=>by rw [upd_ne (ne_of_none q hn)];exact q
end
def Rd (H:Hp) (a:Addr) (u:HO):Prop:=H a=some u\/∃ o,H a=some (.frz o u)
def Rd.of {H:Hp} {a:Addr} {u:HO} (h:H a=some u):Rd H a u:=.inl h
def Rd.ok {P:Program} {w:World} {H:Hp} {h:Heap} {a:Addr} {u:HO} (r:Rd H a u) (x:HOk P w H h):ObjOk P w H h a u:=by
 rcases r with r|⟨o,r⟩
 ·exact x a u r
 ·obtain ⟨_,q⟩:=x a _ r;exact q
def Mut:Option HO->Prop
 | some (.lst _)=>True
 | some (.dK _)=>True
 | some (.dT _)=>True
 | some (.set _ _)=>True
 | some (.ins _ _ _)=>True
 | some (.ext _)=>True
 | _=>False
section
variable {P:Program} {w:World} {H:Hp} {h h':Heap} {x e:Addr} {o':HO}
def HOk.write (ok:HOk P w H h) (mu:Mut (H x)) (he:e=x\/H e=some (.own x)) (k:∀ b u,b≠e->h.get? b=some u->h'.get? b=some u) (heo:∃ u,h'.get? e=some u)
  (new:ObjOk P w (upd H x o') h' x o'):HOk P w (upd H x o') h':=λ b u q=>by
 have nown:∀ c y,H c=some (.own y)->c≠x:=λ c y r z=>by subst z;rw [r] at mu;exact mu
 have ntup:∀ c xs,H c=some (.tup xs)->c≠x:=λ c xs r z=>by subst z;rw [r] at mu;exact mu
 by_cases hb:b=x
 ·subst hb;rw [upd_same] at q;cases q;exact new
 ·rw [upd_ne hb] at q;by_cases hbe:b=e
  ·have q':H b=some (.own x):=by
    rcases he with z|z
    ·exact absurd (hbe.trans z) hb
    ·rw [hbe];exact z
   rw [q] at q';cases q';obtain ⟨v,hv⟩:=heo;exact ⟨v,by rw [hbe];exact hv⟩
  ·refine (ok b u q).stay (λ c v hc r=>k c v ?_ r) (λ c r=>by rw [upd_ne (nown c b r)];exact r) λ c xs r=>by rw [upd_ne (ntup c xs r)];exact r
   rcases hc with rfl|hc
   ·exact hbe
   ·rintro rfl;rcases he with z|z
    ·exact nown c b hc z
    ·rw [hc] at z;cases z;exact hb rfl
end
structure Un (fs ex:List Addr) (H H':Hp) (h h':Heap):Prop where
 keep:∀ b o,h.get? b=some o->H b=none->b ∉ fs->b ∉ ex->h'.get? b=some o
 slot:∀ b o,h.get? b=some o->H b=none->b∈fs->b ∉ ex->∃ sl,h'.get? b=some { o with slots:=sl }
 free:∀ b o,h.get? b=some o->H b=none->b ∉ ex->H' b=none
 there:∀ b o,h.get? b=some o->b ∉ ex->∃ o',h'.get? b=some o'
 tups:∀ b xs,H b=some (.tup xs)->H' b=some (.tup xs)
 frzs:∀ b o u,H b=some (.frz o u)->H' b=some (.frz o u)
 tbls:∀ b ps,H b=some (.tbl ps)->∃ more,H' b=some (.tbl (ps ++ more))
section
variable {fs fs' ex ex':List Addr} {H H1 H2:Hp} {h h1 h2 h':Heap} {a x e:Addr} {o:HO}
def Un.any (u:Un fs ex H H1 h h1) {b:Addr} {ob:Obj} (q:h.get? b=some ob) (n:H b=none) (hx:b ∉ ex):∃ sl,h1.get? b=some { ob with slots:=sl }:=by
 by_cases hb:b∈fs
 ·exact u.slot b ob q n hb hx
 ·exact ⟨ob.slots,u.keep b ob q n hb hx⟩
def Un.trans (a:Un fs ex H H1 h h1) (b:Un fs ex H1 H2 h1 h2):Un fs ex H H2 h h2 where
 keep:=λ c ob q n hc hx=>b.keep c ob (a.keep c ob q n hc hx) (a.free c ob q n hx) hc hx
 slot:=λ c ob q n hc hx=>by
  obtain ⟨sl,e1⟩:=a.slot c ob q n hc hx;obtain ⟨sl',e2⟩:=b.slot c _ e1 (a.free c ob q n hx) hc hx;exact ⟨sl',e2⟩
 free:=λ c ob q n hx=>by
  obtain ⟨o',e1⟩:=a.there c ob q hx;exact b.free c o' e1 (a.free c ob q n hx) hx
 there:=λ c ob q hx=>by
  obtain ⟨o',e1⟩:=a.there c ob q hx;exact b.there c o' e1 hx
 tups:=λ c xs q=>b.tups c xs (a.tups c xs q)
 frzs:=λ c ob xs q=>b.frzs c ob xs (a.frzs c ob xs q)
 tbls:=λ c ps q=>by
  obtain ⟨m1,e1⟩:=a.tbls c ps q;obtain ⟨m2,e2⟩:=b.tbls c _ e1;exact ⟨m1 ++ m2,by rw [e2,fG]⟩
def Un.kept (k:∀ b u,h.get? b=some u->h'.get? b=some u):Un fs ex H H h h' :=
 ⟨λ b ob q _ _ _=>k b ob q,λ b ob q _ _ _=>⟨ob.slots,k b ob q⟩,λ _ _ _ n _=>n,λ b ob q _=>⟨ob,k b ob q⟩,λ _ _ q=>q,λ _ _ _ q=>q,λ _ ps q=>⟨#[],by rw [q];simp⟩⟩
def Un.refl:Un fs ex H H h h:=Un.kept λ _ _ q=>q
def Un.laid (k:∀ b u,h.get? b=some u->h'.get? b=some u) (hp:h.objs.size<=a) (hn:H a=none):Un fs ex H (upd H a o) h h' where
 keep:=λ b u q _ _ _=>k b u q
 slot:=λ b u q _ _ _=>⟨u.slots,k b u q⟩
 free:=λ b u q n _=>by rw [upd_ne (aF (aE (au q) hp))];exact n
 there:=λ b u q _=>⟨u,k b u q⟩
 tups:=λ b xs q=>by rw [upd_ne (ne_of_none q hn)];exact q
 frzs:=λ b u xs q=>by rw [upd_ne (ne_of_none q hn)];exact q
 tbls:=λ b ps q=>⟨#[],by rw [upd_ne (ne_of_none q hn),q];simp⟩
def Un.write (mu:Mut (H x)) (he:e=x\/H e=some (.own x)) (k:∀ b u,b≠e->h.get? b=some u->h'.get? b=some u) (heo:∃ u,h'.get? e=some u):Un fs ex H (upd H x o) h h':=by
 have hx:∀ b,H b=none->b≠x:=λ b n z=>by subst z;rw [n] at mu;exact mu
 have hb:∀ b,H b=none->b≠e:=λ b n z=>by
  subst z;rcases he with r|r
  ·exact hx b n r
  ·rw [n] at r;cases r
 have hm:∀ b u,H b=some u->¬ Mut (some u)->b≠x:=λ b u q nm z=>by subst z;rw [q] at mu;exact nm mu
 refine ⟨λ b u q n _ _=>k b u (hb b n) q,λ b u q n _ _=>⟨u.slots,k b u (hb b n) q⟩,λ b u q n _=>by rw [upd_ne (hx b n)];exact n,λ b u q _=>?_,
  λ b xs q=>by rw [upd_ne (hm b _ q λ z=>z)];exact q,λ b u xs q=>by rw [upd_ne (hm b _ q λ z=>z)];exact q,λ b ps q=>⟨#[],by rw [upd_ne (hm b _ q λ z=>z),q];simp⟩⟩
 by_cases hbe:b=e
 ·subst hbe;exact heo
 ·exact ⟨u,k b u hbe q⟩
def Un.mono (u:Un fs ex H H1 h h1) (hs:∀ b∈fs,b∈fs') (hx:∀ b∈ex,b∈ex'):Un fs' ex' H H1 h h1 :=
 ⟨λ b ob q n hb he=>u.keep b ob q n (λ z=>hb (hs b z)) λ z=>he (hx b z),λ _ _ q n _ he=>u.any q n λ z=>he (hx _ z),λ b ob q n he=>u.free b ob q n λ z=>he (hx b z),λ b ob q he=>u.there b ob q λ z=>he (hx b z),u.tups,u.frzs,u.tbls⟩
end
noncomputable def trk (h:Heap) (H:Hp):List Addr:=(List.range h.objs.size).filter λ a=>(H a).isSome
noncomputable def Vz (h:Heap) (H:Hp):Heap:=PySem.W.hideAll h (trk h H)
def zdt (h:Heap) (H:Hp):(Vz h H).objs.size=h.objs.size:=PySem.W.hideAll_size _ _
def zeZ {h:Heap} {H:Hp} {b:Addr} {o:Obj} (e:h.get? b=some o) (n:H b=none):(Vz h H).get? b=some o :=
 PySem.W.hideAll_get _ e λ hm=>by
  have q:(H b).isSome=true:=(cw.mp hm).2;rw [n] at q;simp at q
theorem zf4 {h:Heap} {H:Hp} {b:Addr} {o:Obj} (e:(Vz h H).get? b=some o):h.get? b=some o/\H b=none:=by
 have e':h.get? b=some o:=PySem.W.of_hideAll (trk h H) e;refine ⟨e',?_⟩;cases q:H b with
 | none=>rfl
 | some x =>
  have hm:b∈trk h H:=cw.mpr ⟨aY.mpr (au e'),by simp [q]⟩;have z:(Vz h H).get? b=none:=PySem.W.hideAll_none (trk h H) hm;rw [z] at e;cases e
noncomputable def zgy (g h:Heap) (L:Addr):List (Addr × Obj):=(List.range h.objs.size).filterMap λ a=>if a=L\/(g.get? a).isSome=true then none else (h.get? a).map λ o=>(a,o)
noncomputable def rest (g h:Heap) (L d:Addr):List (Addr × Obj):=(zgy g h L).filter λ p=>decide (p.1≠d)
end L2
namespace L2
open PySem PySem.Spec PyProof.Rows
structure Mod (K:PySem.W.Frag) (mg:Str->Option Value) (base:Heap):Prop where
 kin:K.In base
 glob:base.Ns mainGlobals mg
 blt:∃ mb,base.Ns builtinsNs mb/\∀ x:Str,x≠"__name__"->mb x=bootBuiltins x
 nolimit:base.NoLimit
structure Cx where
 prog:Program
 w:World
 K:PySem.W.Frag
 mg:Str->Option Value
 base:Heap
 A:Around
 N:List Str
 s₀:Shared
 H₀:Hp
 env:Env
 outer:List Env
 stack:List Env
 ex:List Addr
 fn:Str->Bool
 calm:Bool
 pn:List (Addr × Obj)
 xe:Value->Shared->Prop
noncomputable def frs (l:List Env):List Addr:=l.filterMap (·.frame)
noncomputable abbrev Cx.fs (X:Cx):List Addr:=frs X.outer
def Vis (sc:Scope) (x:Str):Prop:=sc.names.lookup x=some .local\/sc.names.lookup x=some .cell\/sc.names.lookup x=some .free
def Loc (sc:Scope) (x:Str):Prop:=sc.names.lookup x=some .local\/sc.names.lookup x=some .cell
def ziM (env:Env) (h:Heap) (m:Str->Option Value) (x:Str) (u:Value):Prop :=
 (env.kindOf x=some .local/\m x=some u)\/((env.kindOf x=some .cell\/env.kindOf x=some .free)/\∃ c,env.cells.lookup x=some c/\h.IsCell c (some u))
structure Cx.Ok (X:Cx):Prop where
 mod:Mod X.K X.mg X.base
 kind:X.env.scope.kind=.function
 glob:X.env.globals=mainGlobals
 blt:X.env.builtins=builtinsNs
 above:X.s₀.heap.objs.size<=X.env.locals
 inj:∀ x y c,X.env.cells.lookup x=some c->X.env.cells.lookup y=some c->x=y
 has:∀ x,(X.env.kindOf x=some .cell\/X.env.kindOf x=some .free)->∃ c,X.env.cells.lookup x=some c
 cab:∀ x c,X.fn x=true->X.env.cells.lookup x=some c->X.s₀.heap.objs.size<=c
 hd:X.calm=true->X.A.handled=none
 frames:X.A.frames=some X.stack
 stk:X.stack=X.outer\/(X.stack=X.env :: X.outer/\X.env.frame=some X.env.locals)
 exf:∀ b∈X.ex,b≠X.env.locals/\∀ x c,X.env.cells.lookup x=some c->c≠b
 bs:∀ b o,X.base.get? b=some o->X.s₀.heap.get? b=some o/\X.H₀ b=none
 bsz:X.base.objs.size<=X.s₀.heap.objs.size
 noex:∀ b o,X.base.get? b=some o->b ∉ X.ex
 exfs:∀ b∈X.ex,b ∉ X.fs
 funs:X.s₀.heap.FunFrames X.base X.outer
 frf:∀ b∈X.fs,X.H₀ b=none
structure Inv (X:Cx) (pins:List (Addr × Obj)) (σ:List (Option V)) (H:Hp) (s:Shared):Prop where
 ok:X.Ok
 os:s.os=X.s₀.os
 bare:AllBare s.gens
 base:Un X.fs X.ex X.H₀ H X.s₀.heap s.heap
 loc:∃ m,s.heap.Ns X.env.locals m/\∀ (i:Nat) (x:Str) (v:V),X.N[i]?=some x->σ[i]?=some (some v)->Vis X.env.scope x->∃ u,RelV v u/\ziM X.env s.heap m x u
 cell:∀ x c,X.env.cells.lookup x=some c->∃ v,s.heap.IsCell c v
 free:H X.env.locals=none
 freeC:∀ x c,X.env.cells.lookup x=some c->H c=none
 pin:∀ p∈X.pn ++ pins,s.heap.get? p.1=some p.2/\H p.1=none/\p.1≠X.env.locals/\p.1 ∉ X.fs/\∀ v,p.2.data≠.cell v
 hok:HOk X.prog X.w H s.heap
 len:σ.length=X.N.length
section
variable {X:Cx} {pins:List (Addr × Obj)} {σ:List (Option V)} {H H':Hp} {s:Shared} {h':Heap}
def Cx.Ok.nofr (ok:X.Ok) {b:Addr} {o:Obj} (e:X.base.get? b=some o):b ∉ X.fs:=λ hb=>by
 have:=(ok.funs.mem hb).1;rw [e] at this;cases this
def Inv.bs (I:Inv X pins σ H s):∀ b o,X.base.get? b=some o->s.heap.get? b=some o/\H b=none:=λ b o e =>
 ⟨I.base.keep b o (I.ok.bs b o e).1 (I.ok.bs b o e).2 (I.ok.nofr e) (I.ok.noex b o e),I.base.free b o (I.ok.bs b o e).1 (I.ok.bs b o e).2 (I.ok.noex b o e)⟩
def Inv.bk (I:Inv X pins σ H s):∀ b o,X.base.get? b=some o->s.heap.get? b=some o:=λ b o e=>(I.bs b o e).1
def Inv.mod (I:Inv X pins σ H s):Mod X.K X.mg X.base:=I.ok.mod
def Inv.kIn (I:Inv X pins σ H s):X.K.In s.heap:=I.ok.mod.kin.keeps I.bk
def Inv.nolimit (I:Inv X pins σ H s):s.heap.NoLimit:=I.ok.mod.nolimit.keeps I.bk
def Inv.fr (I:Inv X pins σ H s):∃ m,Fr X.base X.env.locals s.heap m :=
 let ⟨m,hn,_⟩:=I.loc
 ⟨m,hn,I.bk,bw I.ok.bsz I.ok.above⟩
def Inv.lt (I:Inv X pins σ H s):X.env.locals < s.heap.objs.size:=by
 obtain ⟨_,hn,_⟩:=I.loc;exact hn.lt
def Inv.sz (I:Inv X pins σ H s):X.s₀.heap.objs.size<=s.heap.objs.size:=bw I.ok.above (cc I.lt)
def Inv.nofs (I:Inv X pins σ H s) {a:Addr} (h:s.heap.objs.size<=a):a ∉ X.fs:=λ hb=>by
 obtain ⟨_,o,ho,_⟩:=I.ok.funs.mem hb;exact absurd (aE (au ho) (bw I.sz h)) (cq _)
def Inv.cne (I:Inv X pins σ H s):∀ x c,X.env.cells.lookup x=some c->c≠X.env.locals:=λ x c e z=>by
 obtain ⟨v,o,ho,hd⟩:=I.cell x c e;obtain ⟨m,⟨o',es,ep,ho',hd',_⟩,_⟩:=I.loc;rw [z,ho'] at ho;cases ho;rw [hd'] at hd;cases hd
theorem Inv.funs (I:Inv X pins σ H s):s.heap.FunFrames X.base X.outer:=by
 have all:∀ (l:List Env),(∀ b∈frs l,b∈X.fs)->X.s₀.heap.FunFrames X.base l->s.heap.FunFrames X.base l:=by
  intro l
  induction l with
  | nil=>intro _ _;trivial
  | cons env r ih =>
   intro hs hl;obtain ⟨hk,⟨L,o,hf,hn,ho,hd⟩,hr⟩:=hl;have hL:L∈X.fs:=hs L (by unfold frs;rw [eV,hf];exact bK);obtain ⟨sl,e⟩:=I.base.slot L o ho (I.ok.frf L hL) hL λ z=>I.ok.exfs L z hL;exact ⟨hk,⟨L,_,hf,hn,e,hd⟩,ih (λ b hb=>hs b (by unfold frs;rw [eV,hf];exact aG _ hb)) hr⟩
 exact all X.outer (λ _ hb=>hb) I.ok.funs
def Inv.stack (I:Inv X pins σ H s):s.heap.FunFrames X.base X.stack:=by
 rcases I.ok.stk with e|⟨e,hf⟩
 ·rw [e];exact I.funs
 ·rw [e];obtain ⟨m,hn,_⟩:=I.loc;refine .cons (by rw [I.ok.kind];decide) hf hn ?_ I.funs;exact Heap.get?_none_of_le (bw I.ok.bsz I.ok.above)
def Inv.stkSub (I:Inv X pins σ H s):∀ b∈frs X.stack,b∈X.env.locals :: X.fs:=λ b hb=>by
 rcases I.ok.stk with e|⟨e,hf⟩
 ·rw [e] at hb;exact aG _ hb
 ·rw [e] at hb;unfold frs at hb;rw [eV,hf] at hb;exact hb
def Inv.stkFree (I:Inv X pins σ H s):∀ b∈frs X.stack,H b=none:=λ b hb=>by
 rcases ax.mp (I.stkSub b hb) with e|hb
 ·rw [e];exact I.free
 ·obtain ⟨_,o,ho,_⟩:=I.ok.funs.mem hb;exact I.base.free b o ho (I.ok.frf b hb) λ z=>I.ok.exfs b z hb
def Inv.step {g':Array GenState} {t':Nat} {d':Drawn} {ch:List Addr} (I:Inv X pins σ H s)
  (hch:∀ b∈ch,(b∈X.ex\/X.s₀.heap.objs.size<=b)/\b≠X.env.locals/\(∀ x c,X.env.cells.lookup x=some c->c≠b)/\∀ p∈X.pn ++ pins,p.1≠b)
  (keep:∀ b o,b≠X.env.locals->b ∉ X.fs->b ∉ ch->s.heap.get? b=some o->H b=none->h'.get? b=some o)
  (slot:∀ b o,b≠X.env.locals->b∈X.fs->b ∉ ch->s.heap.get? b=some o->H b=none->∃ sl,h'.get? b=some { o with slots:=sl }) (free:∀ b o,b ∉ ch->s.heap.get? b=some o->H b=none->H' b=none)
  (there:∀ b o,b ∉ ch->s.heap.get? b=some o->∃ o',h'.get? b=some o')
  (tups:∀ b xs,H b=some (.tup xs)->H' b=some (.tup xs)) (frzs:∀ b o u,H b=some (.frz o u)->H' b=some (.frz o u)) (tbls:∀ b ps,H b=some (.tbl ps)->∃ more,H' b=some (.tbl (ps ++ more)))
  (ns:∀ m,s.heap.Ns X.env.locals m->h'.Ns X.env.locals m) (hok:HOk X.prog X.w H' h') (hg:AllBare g') :
  Inv X pins σ H' { s with heap:=h',gens:=g',drawn:=d',toks:=t' }:=by
 have neL:∀ b o,X.s₀.heap.get? b=some o->b≠X.env.locals:=λ b o e=>aF (aE (au e) I.ok.above);have neC:∀ b o,X.s₀.heap.get? b=some o->b ∉ X.ex->b ∉ ch:=λ b o e hx hb=>by
  rcases (hch b hb).1 with z|z
  ·exact hx z
  ·exact absurd (aE (au e) z) (cq _)
 have cellK:∀ x c,X.env.cells.lookup x=some c->∀ v,s.heap.IsCell c v->h'.IsCell c v:=λ x c e v ⟨o,ho,hd⟩=>by
  have nch:c ∉ ch:=λ z=>(hch c z).2.2.1 x c e rfl;by_cases hc:c∈X.fs
  ·obtain ⟨sl,q⟩:=slot c o (I.cne x c e) hc nch ho (I.freeC x c e);exact ⟨_,q,hd⟩
  ·exact ⟨o,keep c o (I.cne x c e) hc nch ho (I.freeC x c e),hd⟩
 refine ⟨I.ok,I.os,hg,⟨λ b o e n hb hx=>?_,λ b o e n hb hx=>?_,λ b o e n hx=>?_,λ b o e hx=>?_,λ b xs e=>tups b xs (I.base.tups b xs e),λ b o xs e=>frzs b o xs (I.base.frzs b o xs e),λ b ps e=>?_⟩,?_,λ x c e=>?_,?_,λ x c e=>?_,λ p hp=>?_,hok,I.len⟩
 ·exact keep b o (neL b o e) hb (neC b o e hx) (I.base.keep b o e n hb hx) (I.base.free b o e n hx)
 ·obtain ⟨sl,e1⟩:=I.base.slot b o e n hb hx;obtain ⟨sl',e2⟩:=slot b _ (neL b o e) hb (neC b o e hx) e1 (I.base.free b o e n hx);exact ⟨sl',e2⟩
 ·obtain ⟨o',e1⟩:=I.base.there b o e hx;exact free b o' (neC b o e hx) e1 (I.base.free b o e n hx)
 ·obtain ⟨o',e1⟩:=I.base.there b o e hx;exact there b o' (neC b o e hx) e1
 ·obtain ⟨m1,e1⟩:=I.base.tbls b ps e;obtain ⟨m2,e2⟩:=tbls b _ e1;exact ⟨m1 ++ m2,by rw [e2,fG]⟩
 ·obtain ⟨m,hn,hl⟩:=I.loc;refine ⟨m,ns m hn,λ i x v e1 e2 e3=>?_⟩;obtain ⟨u,r,l⟩:=hl i x v e1 e2 e3;refine ⟨u,r,?_⟩;rcases l with l|⟨k,c,e,z⟩
  ·exact .inl l
  ·exact .inr ⟨k,c,e,cellK x c e _ z⟩
 ·obtain ⟨v,z⟩:=I.cell x c e;exact ⟨v,cellK x c e v z⟩
 ·obtain ⟨m,⟨o,_,_,ho,_⟩,_⟩:=I.loc;exact free _ o (λ z=>(hch _ z).2.1 rfl) ho I.free
 ·obtain ⟨v,o,ho,hd⟩:=I.cell x c e;exact free c o (λ z=>(hch c z).2.2.1 x c e rfl) ho (I.freeC x c e)
 ·obtain ⟨e,n,ne,nf,d⟩:=I.pin p hp;have nch:p.1 ∉ ch:=λ z=>(hch p.1 z).2.2.2 p hp rfl;exact ⟨keep p.1 p.2 ne nf nch e n,free p.1 p.2 nch e n,ne,nf,d⟩
def Inv.un {t':Nat} (I:Inv X pins σ H s) (u:Un X.fs [] H H' s.heap h') (hok:HOk X.prog X.w H' h'):Inv X pins σ H' { s with heap:=h',toks:=t' }:=by
 obtain ⟨m,⟨o,es,ep,ho,r⟩,_⟩:=id I.loc;obtain ⟨sl,hL⟩:=u.any ho I.free (by simp);exact I.step (g':=s.gens) (d':=s.drawn) (ch:=[]) (λ _ z=>nomatch z) (λ b o _ hb _ e n=>u.keep b o e n hb (by simp)) (λ b o _ hb _ e n=>u.slot b o e n hb (by simp)) (λ b o _ e n=>u.free b o e n (by simp)) (λ b o _ e=>u.there b o e (by simp)) u.tups u.frzs u.tbls (λ m' hm=>by
  obtain ⟨o',es',ep',ho',r'⟩:=hm;rw [ho] at ho';cases ho';exact ⟨_,es',ep',hL,r'⟩) hok I.bare
def Inv.call {g':Array GenState} {t':Nat} {d':Drawn} {ch:List Addr} (I:Inv X pins σ H s) (u:Un (frs X.stack) ch H H' s.heap h') (hok:HOk X.prog X.w H' h') (hg:AllBare g')
  (hch:∀ b∈ch,(b∈X.ex\/X.s₀.heap.objs.size<=b)/\b≠X.env.locals/\(∀ x c,X.env.cells.lookup x=some c->c≠b)/\∀ p∈X.pn ++ pins,p.1≠b) :
  Inv X pins σ H' { s with heap:=h',gens:=g',drawn:=d',toks:=t' }:=by
 obtain ⟨m,⟨o,es,ep,ho,r⟩,_⟩:=id I.loc;obtain ⟨sl,hL⟩:=u.any ho I.free λ z=>(hch _ z).2.1 rfl;exact I.step (ch:=ch) hch (λ b o hL hb hc e n=>u.keep b o e n (λ z=>(ax.mp (I.stkSub b z)).elim hL hb) hc) (λ b o _ _ hc e n=>u.any e n hc) (λ b o hc e n=>u.free b o e n hc) (λ b o hc e=>u.there b o e hc) u.tups u.frzs u.tbls (λ m' hm=>by
  obtain ⟨o',es',ep',ho',r'⟩:=hm;rw [ho] at ho';cases ho';exact ⟨_,es',ep',hL,r'⟩) hok hg
def Inv.turned {t':Nat} {it:Addr} (I:Inv X pins σ H s) (k:∀ b o,b≠it->s.heap.get? b=some o->h'.get? b=some o) (hn:H it=none) (hL:it≠X.env.locals)
  (h1:it∈X.ex\/X.s₀.heap.objs.size<=it) (h2:∀ x c,X.env.cells.lookup x=some c->c≠it) (h3:∀ p∈X.pn ++ pins,p.1≠it):Inv X pins σ H { s with heap:=h',toks:=t' }:=by
 have nit:∀ b u,H b=some u->b≠it:=λ b u e z=>by rw [z,hn] at e;cases e
 refine I.step (g':=s.gens) (d':=s.drawn) (ch:=[it]) (λ b hb=>?_) (λ b o _ _ hc e _=>k b o (λ z=>hc (by simp [z])) e) (λ b o _ _ hc e _=>⟨o.slots,k b o (λ z=>hc (by simp [z])) e⟩) (λ _ _ _ _ n=>n)
  (λ b o hc e=>⟨o,k b o (λ z=>hc (by simp [z])) e⟩) (λ _ _ e=>e) (λ _ _ _ e=>e) (λ b ps e=>⟨#[],by rw [e];simp⟩) (λ m hm=>?_) (λ b u e=>?_) I.bare
 ·have e:b=it:=by simpa using hb
  subst e;exact ⟨h1,hL,h2,h3⟩
 ·obtain ⟨o,es,ep,ho,r⟩:=hm;exact ⟨o,es,ep,k _ o (aZ hL) ho,r⟩
 ·refine (I.hok b u e).stay (λ c v hc q=>k c v ?_ q) (λ _ q=>q) λ _ _ q=>q;rcases hc with z|z
  ·rw [z];exact nit b u e
  ·exact nit c _ z
def Inv.tok (I:Inv X pins σ H s) (t:Nat):Inv X pins σ H { s with toks:=t }:=I.un (h':=s.heap) (t':=t) Un.refl I.hok
def Inv.kept {t':Nat} (I:Inv X pins σ H s) (k:∀ b u,s.heap.get? b=some u->h'.get? b=some u):Inv X pins σ H { s with heap:=h',toks:=t' }:=I.un (Un.kept k) (I.hok.kept k)
def Inv.laid {a:Addr} {o:HO} {t':Nat} (I:Inv X pins σ H s) (k:∀ b u,s.heap.get? b=some u->h'.get? b=some u) (hp:s.heap.objs.size<=a) (new:ObjOk X.prog X.w (upd H a o) h' a o) :
  Inv X pins σ (upd H a o) { s with heap:=h',toks:=t' }:=I.un (Un.laid k hp (I.hok.fresh hp)) (I.hok.laid k hp new)
def Inv.write {x e:Addr} {o:HO} {t':Nat} (I:Inv X pins σ H s) (mu:Mut (H x)) (he:e=x\/H e=some (.own x)) (k:∀ b u,b≠e->s.heap.get? b=some u->h'.get? b=some u) (heo:∃ u,h'.get? e=some u)
  (new:ObjOk X.prog X.w (upd H x o) h' x o):Inv X pins σ (upd H x o) { s with heap:=h',toks:=t' }:=I.un (Un.write mu he k heo) (I.hok.write mu he k heo new)
def Inv.pins_of {pins':List (Addr × Obj)} (I:Inv X pins σ H s) (h:∀ p∈pins',s.heap.get? p.1=some p.2/\H p.1=none/\p.1≠X.env.locals/\p.1 ∉ X.fs/\∀ v,p.2.data≠.cell v):Inv X pins' σ H s :=
 ⟨I.ok,I.os,I.bare,I.base,I.loc,I.cell,I.free,I.freeC,λ p hp=>(aD.mp hp).elim (λ z=>I.pin p (bH _ z)) (h p),I.hok,I.len⟩
def Xj {N:List Str} (hN:N.Nodup) {i j:Nat} {x:Str} (a:N[i]?=some x) (b:N[j]?=some x):i=j:=by
 obtain ⟨h1,e1⟩:=aa.mp a;obtain ⟨h2,e2⟩:=aa.mp b;exact (List.getElem_inj hN).mp (e1.trans e2.symm)
def Wg {M:Model} {A:Around} {E:Value->Shared->Prop} {i:Nat} {x:Str} {v:V} {u:Value} {Q:Unit->Shared->Prop} (I:Inv X pins σ H s) (hN:X.N.Nodup) (hi:X.N[i]?=some x) (hx:Loc X.env.scope x) (r:RelV v u)
  (h:∀ s',Inv X pins (σ.set i (some v)) H s'->(∃ a,Heap.SameBut a s.heap s'.heap/\(a=X.env.locals\/X.env.cells.lookup x=some a))->Q () s') (hf:X.fn x=true\/X.env.scope.names.lookup x=some .local:=by walk_at "p"):wpAny M A (storeName X.env x u) Q E s:=by
 obtain ⟨m,hn,hl⟩:=id I.loc;have hcls:(X.env.scope.kind == .class || (X.env.scope.kind == .module && X.env.locals != X.env.globals))=false:=by rw [I.ok.kind];rfl
 have hiσ:i < σ.length:=by rw [I.len];exact (aa.mp hi).1
 have cne:=I.cne;have tracked:∀ {a:Addr} {h':Heap},(∃ o,s.heap.get? a=some o/\H a=none)->Heap.SameBut a s.heap h'->HOk X.prog X.w H h':=λ {a h'} ha hs b ob e=>by
  obtain ⟨_,_,hfree⟩:=ha;refine (I.hok b ob e).stay (λ c w' hc q=>(hs.2 c ?_).trans q) (λ _ q=>q) λ _ _ q=>q;rintro rfl;rcases hc with rfl|hc
  ·rw [hfree] at e;cases e
  ·rw [hfree] at hc;cases hc
 rcases hx with hk|hk
 ·refine wpAny_storeName_local hk hn (λ h' hn' hs=>?_) hcls;obtain ⟨oL,_,_,hoL,_⟩:=id hn;refine h _ ⟨I.ok,I.os,I.bare,⟨λ b o e n hb hx=>?_,λ b o e n hb hx=>?_,I.base.free,λ b o e hx=>?_,I.base.tups,I.base.frzs,I.base.tbls⟩,⟨_,hn',λ j y v' e1 e2 e3=>?_⟩,λ y c e=>?_,I.free,I.freeC,λ p hp=>?_,tracked ⟨oL,hoL,I.free⟩ hs,by simpa using I.len⟩ ⟨_,hs,.inl rfl⟩
  ·exact (hs.2 b (aF (aE (au e) I.ok.above))).trans (I.base.keep b o e n hb hx)
  ·obtain ⟨sl,e1⟩:=I.base.slot b o e n hb hx;exact ⟨sl,(hs.2 b (aF (aE (au e) I.ok.above))).trans e1⟩
  ·obtain ⟨o',e1⟩:=I.base.there b o e hx;exact ⟨o',(hs.2 b (aF (aE (au e) I.ok.above))).trans e1⟩
  ·by_cases hj:j=i
   ·subst hj;rw [hi] at e1;cases e1;rw [aN hiσ] at e2;cases e2;exact ⟨u,r,.inl ⟨hk,by simp⟩⟩
   ·rw [bg (aZ hj)] at e2;obtain ⟨u',r',q⟩:=hl j y v' e1 e2 e3;refine ⟨u',r',?_⟩;rcases q with ⟨k,e⟩|⟨k,c,e,z⟩
    ·refine .inl ⟨k,?_⟩;have:y≠x:=λ e=>hj (Xj hN e1 (e ▸ hi));simp [this,e]
    ·exact .inr ⟨k,c,e,z.sameBut hs (cne y c e)⟩
  ·obtain ⟨w',z⟩:=I.cell y c e;exact ⟨w',z.sameBut hs (cne y c e)⟩
  ·obtain ⟨e,n,ne,nf,d⟩:=I.pin p hp;exact ⟨(hs.2 p.1 ne).trans e,n,ne,nf,d⟩
 ·have hfn:X.fn x=true:=by
   rcases hf with z|z
   ·exact z
   ·rw [z] at hk;cases hk
  obtain ⟨c,hc⟩:=I.ok.has x (.inl hk);obtain ⟨w',z⟩:=I.cell x c hc;refine wpAny_storeName_cell I.ok.kind hk hc z (λ h' hc' hs=>?_);obtain ⟨oc,hoc,hocd⟩:=id z;refine h { s with heap:=h' } ⟨I.ok,I.os,I.bare,⟨λ b o e n hb hx=>?_,λ b o e n hb hx=>?_,I.base.free,λ b o e hx=>?_,I.base.tups,I.base.frzs,I.base.tbls⟩,⟨m,hn.sameBut hs (aZ (cne x c hc)),λ j y v' e1 e2 e3=>?_⟩,λ y c' e=>?_,I.free,I.freeC,λ p hp=>?_,tracked ⟨oc,hoc,I.freeC x c hc⟩ hs,by simpa using I.len⟩ ⟨c,hs,.inr hc⟩
  ·exact (hs.2 b (aF (aE (au e) (I.ok.cab x c hfn hc)))).trans (I.base.keep b o e n hb hx)
  ·obtain ⟨sl,e1⟩:=I.base.slot b o e n hb hx;exact ⟨sl,(hs.2 b (aF (aE (au e) (I.ok.cab x c hfn hc)))).trans e1⟩
  ·obtain ⟨o',e1⟩:=I.base.there b o e hx;exact ⟨o',(hs.2 b (aF (aE (au e) (I.ok.cab x c hfn hc)))).trans e1⟩
  ·by_cases hj:j=i
   ·subst hj;rw [hi] at e1;cases e1;rw [aN hiσ] at e2;cases e2;exact ⟨u,r,.inr ⟨.inl hk,c,hc,hc'⟩⟩
   ·rw [bg (aZ hj)] at e2;obtain ⟨u',r',q⟩:=hl j y v' e1 e2 e3;refine ⟨u',r',?_⟩;rcases q with q|⟨k,c',e,z'⟩
    ·exact .inl q
    ·refine .inr ⟨k,c',e,z'.sameBut hs ?_⟩;rintro rfl;exact hj (Xj hN e1 (I.ok.inj _ _ _ e hc ▸ hi))
  ·by_cases hcc:c'=c
   ·subst hcc;exact ⟨_,hc'⟩
   ·obtain ⟨w2,z2⟩:=I.cell y c' e;exact ⟨w2,z2.sameBut hs hcc⟩
  ·obtain ⟨e,n,ne,nf,d⟩:=I.pin p hp;refine ⟨(hs.2 p.1 ?_).trans e,n,ne,nf,d⟩;intro q;rw [q,hoc] at e;have q':oc=p.2:=aI e;exact d w' (by rw [<- q'];exact hocd)
def JB {M:Model} {A:Around} {E:Value->Shared->Prop} {i:Nat} {x:Str} {v:V} {u:Value} {Q:Unit->Shared->Prop} (I:Inv X pins σ H s) (hN:X.N.Nodup) (hi:X.N[i]?=some x) (hx:Loc X.env.scope x) (r:RelV v u)
  (h:∀ s',Inv X pins (σ.set i (some v)) H s'->Q () s') (hf:X.fn x=true\/X.env.scope.names.lookup x=some .local:=by walk_at "p"):wpAny M A (storeName X.env x u) Q E s :=
 Wg I hN hi hx r (λ s' I' _=>h s' I') hf
def Inv.call' {s':Shared} {ch:List Addr} (I:Inv X pins σ H s) (ho:s'.os=s.os) (u:Un (frs X.stack) ch H H' s.heap s'.heap) (hok:HOk X.prog X.w H' s'.heap) (hg:AllBare s'.gens)
  (hch:∀ b∈ch,(b∈X.ex\/X.s₀.heap.objs.size<=b)/\b≠X.env.locals/\(∀ x c,X.env.cells.lookup x=some c->c≠b)/\∀ p∈X.pn ++ pins,p.1≠b):Inv X pins σ H' s':=by
 obtain ⟨h',g',d',t',o'⟩:=s';have e:o'=s.os:=ho;subst e;exact I.call (g':=g') (t':=t') (d':=d') u hok hg hch
end
abbrev XK:=Value->Option Addr->Hp->Prop
abbrev St:=List (Option V)
abbrev VK:=V->Hp->Prop
abbrev TE:=St->Hp->VK->Prop
abbrev TT:=St->Hp->(Bool->Hp->Prop)->Prop
abbrev TA:=St->Hp->(List V->Hp->Prop)->Prop
structure Ends where
 nx:St->Hp->Prop
 rt:VK
 bk:St->Hp->Prop:=λ _ _=>False
 ct:St->Hp->Prop:=λ _ _=>False
abbrev TS:=Ends->St->Hp->Prop
def EP (X:Cx) (pins:List (Addr × Obj)) (σ:St) (Q:VK) (u:Value) (s':Shared):Prop:=∃ v H',Inv X pins σ H' s'/\RelV v u/\Q v H'
def TP (X:Cx) (pins:List (Addr × Obj)) (σ:St) (Q:Bool->Hp->Prop) (b:Bool) (s':Shared):Prop:=∃ H',Inv X pins σ H' s'/\Q b H'
def AP (X:Cx) (pins:List (Addr × Obj)) (σ:St) (Q:List V->Hp->Prop) (us:List Value) (s':Shared):Prop:=∃ vs H',Inv X pins σ H' s'/\Vals vs us/\Q vs H'
def SP (X:Cx) (pins:List (Addr × Obj)) (D:Ends) (f:Flow) (s':Shared):Prop :=
 match f with
 | .next=>∃ σ' H',Inv X pins σ' H' s'/\D.nx σ' H'
 | .brk=>∃ σ' H',Inv X pins σ' H' s'/\D.bk σ' H'
 | .cont=>∃ σ' H',Inv X pins σ' H' s'/\D.ct σ' H'
 | .ret u=>∃ v σ' H',Inv X pins σ' H' s'/\RelV v u/\D.rt v H'
def PE (X:Cx) (e:Expr) (t:TE):Prop :=
 ∀ (pins:List (Addr × Obj)) (s:Shared) (σ:St) (H:Hp) (Q:VK),Inv X pins σ H s->t σ H Q->wpAny (model X.prog X.w) X.A (eval e X.env) (EP X pins σ Q) X.xe s
def PT (X:Cx) (e:Expr) (t:TT):Prop :=
 ∀ (pins:List (Addr × Obj)) (s:Shared) (σ:St) (H:Hp) (Q:Bool->Hp->Prop),Inv X pins σ H s->t σ H Q->wpAny (model X.prog X.w) X.A (isTrue e X.env (eval e X.env)) (TP X pins σ Q) X.xe s
def PW (X:Cx) (e:Expr) (t:TT):Prop :=
 ∀ (whole:Sem Value) (pins:List (Addr × Obj)) (s:Shared) (σ:St) (H:Hp) (Q:Bool->Hp->Prop),Inv X pins σ H s->t σ H Q->wpAny (model X.prog X.w) X.A (isTrue e X.env whole) (TP X pins σ Q) X.xe s
def PW.pt {X:Cx} {e:Expr} {t:TT} (h:PW X e t):PT X e t:=h _
def PA (X:Cx) (es:List Expr) (t:TA):Prop :=
 ∀ (pos:Pos) (pins:List (Addr × Obj)) (s:Shared) (σ:St) (H:Hp) (Q:List V->Hp->Prop),Inv X pins σ H s->t σ H Q->wpAny (model X.prog X.w) X.A (spliced (backTo pos (starEach es X.env))) (AP X pins σ Q) X.xe s
def PS (X:Cx) (st:Stmt) (t:TS):Prop :=
 ∀ (pins:List (Addr × Obj)) (s:Shared) (σ:St) (H:Hp) (D:Ends),Inv X pins σ H s->t D σ H->wpAny (model X.prog X.w) X.A (exec st X.env) (SP X pins D) X.xe s
def PSs (X:Cx) (st:List Stmt) (t:TS):Prop :=
 ∀ (pins:List (Addr × Obj)) (s:Shared) (σ:St) (H:Hp) (D:Ends),Inv X pins σ H s->t D σ H->wpAny (model X.prog X.w) X.A (execs st X.env) (SP X pins D) X.xe s
def thn {α:Type} {t:Sem α} {Q Q':α->Shared->Prop} {M:Model} {A:Around} {E:Value->Shared->Prop} {s:Shared} (h:wpAny M A t Q E s) (hQ:∀ a s,Q a s->Q' a s):wpAny M A t Q' E s:=aO h hQ λ _ _ x=>x
def qz {X:Cx} {pins:List (Addr × Obj)} {σ:St} {Q:VK} {t:Sem Value} {Q':Value->Shared->Prop} {M:Model} {A:Around} {E:Value->Shared->Prop} {s:Shared} (h:wpAny M A t (EP X pins σ Q) E s) (k:∀ u s1 x H1,Inv X pins σ H1 s1->RelV x u->Q x H1->Q' u s1):wpAny M A t Q' E s:=thn h λ u s1 e=>by
 obtain ⟨x,H1,I1,r,q⟩:=e;exact k u s1 x H1 I1 r q
def w9 {X:Cx} {pins:List (Addr × Obj)} {σ:St} {Q:List V->Hp->Prop} {t:Sem (List Value)} {Q':List Value->Shared->Prop} {M:Model} {A:Around} {E:Value->Shared->Prop} {s:Shared} (h:wpAny M A t (AP X pins σ Q) E s) (k:∀ us s1 vs H1,Inv X pins σ H1 s1->Vals vs us->Q vs H1->Q' us s1):wpAny M A t Q' E s:=thn h λ u s1 e=>by
 obtain ⟨x,H1,I1,r,q⟩:=e;exact k u s1 x H1 I1 r q
end L2
namespace L2
open PySem PySem.Spec PyProof.Rows
section
variable {X:Cx}
def bq:V->(Bool->Prop)->Prop
 | .bl k,P=>P k
 | _,_=>False
def QW {x:V} {P:Bool->Prop} (h:bq x P):∃ k,x=.bl k/\P k:=by
 cases x <;> first|exact ⟨_,rfl,h⟩|exact False.elim h
def iq:V->(Int->Prop)->Prop
 | .int i,P=>P i
 | _,_=>False
def ZZ {x:V} {P:Int->Prop} (h:iq x P):∃ i,x=.int i/\P i:=by
 cases x <;> first|exact ⟨_,rfl,h⟩|exact False.elim h
def Xw {x y:V} {P:Int->Int->Prop} (h:iq x λ i=>iq y λ j=>P i j):∃ i j,x=.int i/\y=.int j/\P i j:=by
 obtain ⟨i,e,h⟩:=ZZ h;obtain ⟨j,e2,h⟩:=ZZ h;exact ⟨i,j,e,e2,h⟩
def nq:V->Prop->Prop
 | .non,P=>P
 | _,_=>False
def zci {x:V} {P:Prop} (h:nq x P):x=.non/\P:=by
 cases x <;> first|exact ⟨rfl,h⟩|exact False.elim h
def lq:List V->(V->Prop)->Prop
 | [v],P=>P v
 | _,_=>False
theorem zeK:∀ {xs:List V} {P:V->Prop},lq xs P->∃ v,xs=[v]/\P v
 | [_],_,h=>⟨_,rfl,h⟩
 | [],_,h=>h.elim
 | _ :: _ :: _,_,h=>h.elim
def vq:Option (Option V)->(V->Prop)->Prop
 | some (some v),P=>P v
 | _,_=>False
theorem zhT:∀ {o:Option (Option V)} {P:V->Prop},vq o P->∃ v,o=some (some v)/\P v
 | some (some v),_,h=>⟨v,rfl,h⟩
 | some none,_,h=>h.elim
 | none,_,h=>h.elim
def szl (xs:List V) (P:Prop):Prop:=cond (Nat.ble xs.length 12) P False
theorem za5 {xs:List V} {P:Prop} (h:szl xs P):xs.length<=sizeLine/\P:=by
 unfold szl at h;cases e:Nat.ble xs.length 12 with
 | true=>rw [e] at h;exact ⟨bw (Nat.le_of_ble_eq_true e) (by decide),h⟩
 | false=>rw [e] at h;exact h.elim
def tVar (i:Nat):TE:=λ σ H Q=>vq σ[i]? λ v=>Q v H
def tC (v:V):TE:=λ _ H Q=>Q v H
def zhg {i:Nat} {x:Str} {pos:Pos} (hN:X.N[i]?=some x) (hv:Vis X.env.scope x) (hd:(x == ("__debug__":Str))=false:=by decide) (hcd:(x == ("__classdict__":Str))=false:=by decide):PE X (.Name x pos) (tVar i):=by
 intro pins s σ H Q I h;obtain ⟨v,e,h⟩:=zhT h;obtain ⟨m,hn,hl⟩:=I.loc;obtain ⟨u,r,l⟩:=hl i x v hN e hv;have fin:EP X pins σ Q u s:=⟨v,H,I,r,h⟩;rcases l with ⟨hk,hm⟩|⟨hk,c,hc,hcell⟩
 ·exact wpAny_Name (wpAny_loadName_local I.ok.kind hk hn hm fin) hd
 ·rcases hk with hk|hk
  ·exact wpAny_Name (wpAny_loadName_cell I.ok.kind hk hc hcell fin) hd
  ·exact wpAny_Name (wpAny_loadName_free I.ok.kind hk hc hcell fin hcd) hd
def zd {i j pos}:PE X (.Constant (.int i) j pos) (tC (.int i)):=λ _ _ _ H _ I h=>wpAny_Constant_int ⟨.int i,H,I.tok _,⟨_,rfl⟩,h⟩
def vv {b j pos}:PE X (.Constant (.bool b) j pos) (tC (.bl b)):=λ _ _ _ H _ I h=>Constant_bool ⟨.bl b,H,I,rfl,h⟩
def zv {j pos}:PE X (.Constant .none j pos) (tC .non):=λ _ _ _ H _ I h=>Constant_none ⟨.non,H,I,rfl,h⟩
def qT {x j pos}:PE X (.Constant (.str x) j pos) (tC (.str x)):=λ _ _ _ H _ I h=>Calls.Constant_str ⟨.str x,H,I.tok _,⟨_,rfl⟩,h⟩
def Gl (X:Cx) (x:Str):Prop:=X.env.kindOf x=some .globalImplicit
def xh {E:Value->Shared->Prop} {pins:List (Addr × Obj)} {s:Shared} {σ:St} {H:Hp} {x:Str} {u:Value} {pos:Pos} {Q:Value->Shared->Prop} (I:Inv X pins σ H s) (hg:Gl X x) (hm:X.mg x=some u) (h:Q u s)
  (hd:(x == ("__debug__":Str))=false:=by decide):wpAny (model X.prog X.w) X.A (eval (.Name x pos) X.env) Q E s :=
 ff I.ok.kind hg (Calls.loadGlobal_global (by rw [I.ok.glob];exact I.mod.glob.keeps I.bk) hm h) hd
def wR {E:Value->Shared->Prop} {pins:List (Addr × Obj)} {s:Shared} {σ:St} {H:Hp} {x:Str} {u:Value} {pos:Pos} {Q:Value->Shared->Prop} (I:Inv X pins σ H s) (hg:Gl X x) (hm:X.mg x=none) (hv:bootBuiltins x=some u) (h:Q u s)
  (hn:x≠"__name__":=by decide) (hd:(x == ("__debug__":Str))=false:=by decide):wpAny (model X.prog X.w) X.A (eval (.Name x pos) X.env) Q E s:=by
 obtain ⟨mb,h1,h2⟩:=I.mod.blt;exact ff I.ok.kind hg (Calls.loadGlobal_builtin (by rw [I.ok.glob];exact I.mod.glob.keeps I.bk) hm (by rw [I.ok.blt];exact h1.keeps I.bk) ((h2 x hn).trans hv) h) hd
variable {a b:Expr} {ta tb:TE} {pos:Pos}
def PC (X:Cx) (op:CmpOp) (a b:Expr) (t:TE):Prop :=
 ∀ (pins:List (Addr × Obj)) (s:Shared) (σ:St) (H:Hp) (Q:VK),Inv X pins σ H s->t σ H Q ->
  wpAny (model X.prog X.w) X.A (eval a X.env) (λ v s₁=>wpAny (model X.prog X.w) X.A (eval b X.env) (λ u s₂=>wpAny (model X.prog X.w) X.A (compareOp op v u) (EP X pins σ Q) X.xe s₂) X.xe s₁) X.xe s
def nobehind (b:Expr) {op:CmpOp} (h:op≠.In) (h2:op≠.NotIn):behindInMarks op b=false:=by
 have e1:(op == CmpOp.In)=false:=by cases op <;> first|rfl|exact absurd rfl h
 have e2:(op == CmpOp.NotIn)=false:=by cases op <;> first|rfl|exact absurd rfl h2
 cases b <;> simp [behindInMarks,e1,e2]
def tB (t:TE):TT:=λ σ H Q=>t σ H λ x H1=>bq x λ c=>Q c H1
def zhb {op:CmpOp} {t:TE} (h:PC X op a b t) (h1:behindInMarks op b=false:=by walk_at "q"):PT X (.Compare a [op] [b] pos) (tB t):=by
 intro pins s σ H Q I hw;refine wpAny_isTrue_Compare1 (thn (h pins s σ H _ I hw) λ v s1 h1=>thn h1 λ u s2 h2=>thn h2 λ c s3 ⟨x,H1,I1,r1,q1⟩=>?_) h1;obtain ⟨d,rfl,q⟩:=QW q1;cases r1;exact bF ⟨H1,I1,q⟩
variable {tA tB':TT} {rest:List Expr}
def tAnd (t u:TT):TT:=λ σ H Q=>t σ H λ c H1=>if c=true then u σ H1 Q else Q false H1
def tOr (t u:TT):TT:=λ σ H Q=>t σ H λ c H1=>if c=true then Q true H1 else u σ H1 Q
def tNot (t:TT):TT:=λ σ H Q=>t σ H λ c H1=>Q (!c) H1
theorem pw_and1 (ha:PT X a tA):PW X (.BoolOp .And [a] pos) tA:=by
 intro wh pins s σ H Q I h;refine isTrue_and (thn (ha pins s σ H Q I h) λ c s1 e=>?_);cases c with
 | true=>exact isTrue_and_nil e
 | false=>exact e
theorem pw_or1 (ha:PT X a tA):PW X (.BoolOp .Or [a] pos) tA:=by
 intro wh pins s σ H Q I h;refine isTrue_or (thn (ha pins s σ H Q I h) λ c s1 e=>?_);cases c with
 | false=>exact isTrue_or_nil e
 | true=>exact e
theorem pw_and (ha:PT X a tA) (hb:PW X (.BoolOp .And (b :: rest) pos) tB'):PW X (.BoolOp .And (a :: b :: rest) pos) (tAnd tA tB'):=by
 intro wh pins s σ H Q I h;refine isTrue_and (thn (ha pins s σ H _ I h) λ c s1 ⟨H1,I1,q1⟩=>?_);cases c with
 | true=>exact hb wh pins s1 σ H1 Q I1 q1
 | false=>exact ⟨H1,I1,q1⟩
theorem pw_or (ha:PT X a tA) (hb:PW X (.BoolOp .Or (b :: rest) pos) tB'):PW X (.BoolOp .Or (a :: b :: rest) pos) (tOr tA tB'):=by
 intro wh pins s σ H Q I h;refine isTrue_or (thn (ha pins s σ H _ I h) λ c s1 ⟨H1,I1,q1⟩=>?_);cases c with
 | true=>exact ⟨H1,I1,q1⟩
 | false=>exact hb wh pins s1 σ H1 Q I1 q1
def qR (ha:PT X a tA):PT X (.UnaryOp .Not a pos) (tNot tA):=by
 intro pins s σ H Q I h;exact isTrue_not (ha pins s σ H (λ c H1=>Q (!c) H1) I h)
def tAndV (ta tb:TE):TE:=λ σ H Q=>ta σ H λ x H1=>bq x λ c=>if c=true then tb σ H1 Q else Q (.bl false) H1
def tNotV (ta:TE):TE:=λ σ H Q=>ta σ H λ x H1=>bq x λ c=>Q (.bl (!c)) H1
def Zs {op} {t:TE} (h:PE X a t):PE X (.BoolOp op [a] pos) t:=λ pins s σ H Q I hw=>BoolOp_one (h pins s σ H Q I hw)
theorem vx (ha:PE X a ta) (hb:PE X (.BoolOp .And (b :: rest) pos) tb):PE X (.BoolOp .And (a :: b :: rest) pos) (tAndV ta tb):=by
 intro pins s σ H Q I h;refine BoolOp_and (qz (ha pins s σ H _ I h) λ v s1 x H1 I1 r1 q1=>?_);obtain ⟨c,rfl,q1⟩:=QW q1;cases r1;refine bF ?_;cases c with
 | true=>exact hb pins s1 σ H1 Q I1 q1
 | false=>exact ⟨.bl false,H1,I1,rfl,q1⟩
def zes (ha:PE X a ta):PE X (.UnaryOp .Not a pos) (tNotV ta):=by
 intro pins s σ H Q I h;refine UnaryOp_ (qz (ha pins s σ H _ I h) λ v s1 x H1 I1 r1 q1=>?_);obtain ⟨c,rfl,q1⟩:=QW q1;cases r1;exact not_of (bF ⟨.bl (!c),H1,I1,rfl,q1⟩)
def tIf (t:TT) (ta tb:TE):TE:=λ σ H Q=>t σ H λ c H1=>if c=true then ta σ H1 Q else tb σ H1 Q
theorem jQ {c:Expr} (hc:PT X c tA) (ha:PE X a ta) (hb:PE X b tb):PE X (.IfExp c a b pos) (tIf tA ta tb):=by
 intro pins s σ H Q I h;refine wpAny_IfExp (thn (hc pins s σ H _ I h) λ d s1 ⟨H1,I1,q1⟩=>?_);cases d with
 | true=>exact ha pins s1 σ H1 Q I1 q1
 | false=>exact hb pins s1 σ H1 Q I1 q1
end
end L2
namespace L2
open PySem PySem.Spec PyProof.Rows
def SqL (K:PySem.W.Frag) (H:Hp) (a:Addr) (xs:List V):Prop :=
 Rd H a (.lst xs) \/
  ∃ (o:Obj) (its:Array Value) (n:Nat),K.lookup a=some o/\o.cls=.type "list"/\o.dict=none/\o.data=.seq its n/\its.size<=sizeLine/\Vals xs its.toList
def SqT (K:PySem.W.Frag) (H:Hp) (a:Addr) (xs:List V):Prop :=
 Rd H a (.tup xs) \/
  ∃ (o:Obj) (its:Array Value) (n:Nat),K.lookup a=some o/\o.cls=.type "tuple"/\o.data=.seq its n/\its.size<=sizeLine/\Vals xs its.toList
noncomputable def ziK:Value->Option V
 | .none=>some .non
 | .bool b=>some (.bl b)
 | .int i _=>some (.int i)
 | .str x _=>some (.str x)
 | .bytes b _=>some (.byt b)
 | .float b _=>some (.flt b)
 | .ref a=>some (.ref a)
 | .type n=>some (.ty n)
 | _=>none
theorem RelV.abs {x:V} {u:Value} (r:RelV x u):ziK u=some x:=by
 cases x with
 | non=>cases r;rfl
 | bl _=>cases r;rfl
 | int _=>obtain ⟨t,rfl⟩:=r;rfl
 | str _=>obtain ⟨t,rfl⟩:=r;rfl
 | byt _=>obtain ⟨t,rfl⟩:=r;rfl
 | flt _=>obtain ⟨t,rfl⟩:=r;rfl
 | ref _=>cases r;rfl
 | ty _=>cases r;rfl
def RelV.inj {x y:V} {u:Value} (r:RelV x u) (q:RelV y u):x=y:=aI (r.abs.symm.trans q.abs)
theorem Vals.inj:∀ {xs ys:List V} {us:List Value},Vals xs us->Vals ys us->xs=ys
 | _,_,_,.nil,.nil=>rfl
 | _,_,_,.cons r t,.cons r' t'=>by rw [r.inj r',Vals.inj t t']
section
variable {X:Cx} {pins:List (Addr × Obj)} {σ:St} {H:Hp} {s:Shared} {a:Addr} {xs ys:List V}
def SqL.of {K:PySem.W.Frag} (h:H a=some (.lst xs)):SqL K H a xs:=.inl (.inl h)
def SqT.of {K:PySem.W.Frag} (h:H a=some (.tup xs)):SqT K H a xs:=.inl (.inl h)
def Inv.list (I:Inv X pins σ H s) (h:SqL X.K H a xs):∃ its:List Value,Vals xs its/\PlainL s.heap a its.toArray/\xs.length<=sizeLine:=by
 rcases h with h|⟨o,its,n,hk,hc,hd,hs,hz,r⟩
 ·obtain ⟨z,its,n,r,e⟩:=h.ok I.hok;exact ⟨its,r,⟨_,n,e,rfl,rfl,rfl⟩,z⟩
 ·refine ⟨its.toList,r,⟨o,n,I.kIn a o hk,hc,hd,by simpa using hs⟩,?_⟩;have e:=r.length;simp only [cQ] at e;omega
def Inv.tuple (I:Inv X pins σ H s) (h:SqT X.K H a xs):∃ its:List Value,Vals xs its/\IsTup s.heap a its.toArray/\xs.length<=sizeLine:=by
 rcases h with h|⟨o,its,n,hk,hc,hs,hz,r⟩
 ·obtain ⟨z,its,r,p⟩:=h.ok I.hok;exact ⟨its,r,p,z⟩
 ·refine ⟨its.toList,r,⟨o,I.kIn a o hk,hc,n,by simpa using hs⟩,?_⟩;have e:=r.length;simp only [cQ] at e;omega
def Inv.list_inj (I:Inv X pins σ H s) (h:SqL X.K H a xs) (h':SqL X.K H a ys):xs=ys:=by
 obtain ⟨its,r,⟨o,n,e,_,_,d⟩,_⟩:=I.list h;obtain ⟨its',r',⟨o',n',e',_,_,d'⟩,_⟩:=I.list h';rw [e] at e';cases e';rw [d] at d';injection d' with d1 _
 have:its=its':=by simpa using bP Array.toList d1
 subst this;exact r.inj r'
def Inv.tuple_inj (I:Inv X pins σ H s) (h:SqT X.K H a xs) (h':SqT X.K H a ys):xs=ys:=by
 obtain ⟨its,r,⟨o,e,_,n,d⟩,_⟩:=I.tuple h;obtain ⟨its',r',⟨o',e',_,n',d'⟩,_⟩:=I.tuple h';rw [e] at e';cases e';rw [d] at d';injection d' with d1 _
 have:its=its':=by simpa using bP Array.toList d1
 subst this;exact r.inj r'
end
noncomputable abbrev Cx.wish (X:Cx) (E:Value->Shared->Prop):Cx:={ X with xe:=E }
noncomputable abbrev Cx.nox (X:Cx):Cx:=X.wish λ _ _=>False
def Cx.Ok.wish {X:Cx} (ok:X.Ok) (E:Value->Shared->Prop):(X.wish E).Ok :=
 ⟨ok.mod,ok.kind,ok.glob,ok.blt,ok.above,ok.inj,ok.has,ok.cab,ok.hd,ok.frames,ok.stk,ok.exf,ok.bs,ok.bsz,ok.noex,ok.exfs,ok.funs,ok.frf⟩
def Cx.Ok.unwish {X:Cx} {E:Value->Shared->Prop} (ok:(X.wish E).Ok):X.Ok :=
 ⟨ok.mod,ok.kind,ok.glob,ok.blt,ok.above,ok.inj,ok.has,ok.cab,ok.hd,ok.frames,ok.stk,ok.exf,ok.bs,ok.bsz,ok.noex,ok.exfs,ok.funs,ok.frf⟩
section
variable {X:Cx} {pins:List (Addr × Obj)} {σ:St} {H:Hp} {s:Shared} {E:Value->Shared->Prop}
def Inv.wish (I:Inv X pins σ H s) (E:Value->Shared->Prop):Inv (X.wish E) pins σ H s:=⟨I.ok.wish E,I.os,I.bare,I.base,I.loc,I.cell,I.free,I.freeC,I.pin,I.hok,I.len⟩
def Inv.unwish (I:Inv (X.wish E) pins σ H s):Inv X pins σ H s:=⟨I.ok.unwish,I.os,I.bare,I.base,I.loc,I.cell,I.free,I.freeC,I.pin,I.hok,I.len⟩
theorem SP.unwish {D:Ends} {f:Flow} {s':Shared} (h:SP (X.wish E) pins D f s'):SP X pins D f s':=by
 cases f with
 | next=>obtain ⟨σ',H',I,q⟩:=h;exact ⟨σ',H',I.unwish,q⟩
 | brk=>obtain ⟨σ',H',I,q⟩:=h;exact ⟨σ',H',I.unwish,q⟩
 | cont=>obtain ⟨σ',H',I,q⟩:=h;exact ⟨σ',H',I.unwish,q⟩
 | ret u=>obtain ⟨v,σ',H',I,r,q⟩:=h;exact ⟨v,σ',H',I.unwish,r,q⟩
def PE.nox {e:Expr} {t:TE} (h:PE X.nox e t):PE X e t:=λ pins s σ H Q I hw =>
 aO (h pins s σ H Q (I.wish _) hw) (λ _ _ ⟨v,H',I',r,q⟩=>⟨v,H',I'.unwish,r,q⟩) λ _ _ z=>False.elim z
def PT.nox {e:Expr} {t:TT} (h:PT X.nox e t):PT X e t:=λ pins s σ H Q I hw =>
 aO (h pins s σ H Q (I.wish _) hw) (λ _ _ ⟨H',I',q⟩=>⟨H',I'.unwish,q⟩) λ _ _ z=>False.elim z
def PSs.nox {st:List Stmt} {t:TS} (h:PSs X.nox st t):PSs X st t:=λ pins s σ H D I hw =>
 aO (h pins s σ H D (I.wish _) hw) (λ _ _ q=>q.unwish) λ _ _ z=>False.elim z
end
section
variable {X:Cx} {st:Stmt} {rest:List Stmt} {t u:TS} {e:Expr} {te:TE} {pos:Pos}
def tNext:TS:=λ D σ H=>D.nx σ H
def tSeq (t u:TS):TS:=λ D σ H=>t { D with nx:=u D } σ H
def zp:PSs X [] tNext:=λ _ _ σ H _ I h=>cG ⟨σ,H,I,h⟩
theorem zi (h1:PS X st t) (h2:PSs X rest u):PSs X (st :: rest) (tSeq t u):=by
 intro pins s σ H D I h;refine d9 (thn (h1 pins s σ H { D with nx:=u D } I h) λ f s1 q=>?_);cases f with
 | next =>
  obtain ⟨σ',H',I',q⟩:=q;exact h2 pins s1 σ' H' D I' q
 | ret v=>exact q
 | brk=>exact q
 | cont=>exact q
theorem ze (h1:PS X st t):PSs X [st] t:=by
 intro pins s σ H D I h;refine d9 (thn (h1 pins s σ H D I h) λ f s1 q=>?_);cases f with
 | next=>exact cG q
 | ret v=>exact q
 | brk=>exact q
 | cont=>exact q
def tBreak:TS:=λ D σ H=>D.bk σ H
def zeo:PS X (.Break pos) tBreak:=λ _ _ σ H _ I h=>wpAny_Break ⟨σ,H,I,h⟩
def Inv.quiet {pins:List (Addr × Obj)} {σ:St} {H:Hp} {s:Shared} (I:Inv X pins σ H s):interactive X.env=false:=by simp [interactive,I.ok.kind]
def tDrop (te:TE):TS:=λ D σ H=>te σ H λ _ H1=>D.nx σ H1
def zA (he:PE X e te) (hs:swapsWith e none pos.line X.env=pure false:=by rfl):PS X (.Expr e pos) (tDrop te):=by
 intro pins s σ H D I h;exact wpAny_Expr_any (qz (he pins s σ H _ I h) λ v s1 x H1 I1 r1 q1=>⟨σ,H1,I1,q1⟩) I.quiet hs
def tRet (te:TE):TS:=λ D σ H=>te σ H D.rt
def zj (he:PE X e te):PS X (.Return (some e) pos) (tRet te):=by
 intro pins s σ H D I h;exact wpAny_Return_some (qz (he pins s σ H _ I h) λ v s1 x H1 I1 r1 q1=>⟨x,σ,H1,I1,r1,q1⟩)
def tIfS (c:TT) (t u:TS):TS:=λ D σ H=>c σ H λ b H1=>if b=true then t D σ H1 else u D σ H1
theorem zD {c:Expr} {a b:List Stmt} {tc:TT} (hc:PT X c tc) (ha:PSs X a t) (hb:PSs X b u):PS X (.If c a b pos) (tIfS tc t u):=by
 intro pins s σ H D I h;refine wpAny_If (thn (hc pins s σ H _ I h) λ d s1 ⟨H1,I1,q1⟩=>?_);cases d with
 | true=>exact ha pins s1 σ H1 D I1 q1
 | false=>exact hb pins s1 σ H1 D I1 q1
end
abbrev TG:=V->St->Hp->(St->Hp->Prop)->Prop
abbrev TGs:=List V->St->Hp->(St->Hp->Prop)->Prop
def PG (X:Cx) (target:Expr) (t:TG):Prop :=
 ∀ (pins:List (Addr × Obj)) (s:Shared) (σ:St) (H:Hp) (v:V) (u:Value) (Q:St->Hp->Prop),Inv X pins σ H s->RelV v u->t v σ H Q ->
  wpAny (model X.prog X.w) X.A (assign target X.env u) (λ _ s'=>∃ σ' H',Inv X pins σ' H' s'/\Q σ' H') X.xe s
def PGs (X:Cx) (ts:List Expr) (t:TGs):Prop :=
 ∀ (pins:List (Addr × Obj)) (s:Shared) (σ:St) (H:Hp) (vs:List V) (us:List Value) (Q:St->Hp->Prop),Inv X pins σ H s->Vals vs us->t vs σ H Q ->
  wpAny (model X.prog X.w) X.A (assignInOrder ((assignEach ts X.env).map (·.2)) us) (λ _ s'=>∃ σ' H',Inv X pins σ' H' s'/\Q σ' H') X.xe s
abbrev zft:=V->V->V->Hp->(Hp->Prop)->Prop
def zhP (X:Cx) (t:zft):Prop :=
 ∀ (pins:List (Addr × Obj)) (s:Shared) (σ:St) (H:Hp) (o i v:V) (ov iv u:Value) (Q:Hp->Prop),Inv X pins σ H s->RelV o ov->RelV i iv->RelV v u->t o i v H Q ->
  wpAny (model X.prog X.w) X.A (setItem ov iv u) (λ _ s'=>∃ H',Inv X pins σ H' s'/\Q H') X.xe s
abbrev TIp:=V->V->Hp->VK->Prop
def PIp (X:Cx) (op:Operator) (t:TIp):Prop :=
 ∀ (pins:List (Addr × Obj)) (s:Shared) (σ:St) (H:Hp) (x y:V) (v u:Value) (Q:VK),Inv X pins σ H s->RelV x v->RelV y u->t x y H Q ->
  wpAny (model X.prog X.w) X.A (inplaceOp op v u) (EP X pins σ Q) X.xe s
section
variable {X:Cx} {pos:Pos}
def gName (i:Nat):TG:=λ v σ H Q=>Q (σ.set i (some v)) H
def Vk {i:Nat} {x:Str} (hN:X.N.Nodup) (hi:X.N[i]?=some x) (hx:Loc X.env.scope x) (hf:X.fn x=true\/X.env.scope.names.lookup x=some .local:=by walk_at "p"):PG X (.Name x pos) (gName i):=by
 intro pins s σ H v u Q I r h;exact wpAny_assign_Name (JB I hN hi hx r (λ s' I'=>⟨_,H,I',h⟩) hf)
def gNil:TGs:=λ vs σ H Q=>vs=[]/\Q σ H
def gCons (t:TG) (u:TGs):TGs:=λ vs σ H Q=>∃ v r,vs=v :: r/\t v σ H λ σ' H'=>u r σ' H' Q
def wO:PGs X [] gNil:=by
 intro pins s σ H vs us Q I r h;obtain ⟨e,h⟩:=h;subst e;cases r;exact assignInOrder_nil ⟨σ,H,I,h⟩
theorem qu {e:Expr} {es:List Expr} {t:TG} {u:TGs} (h1:PG X e t) (h2:PGs X es u)
  (hs:(assignEach (e :: es) X.env).map (·.2)=assign e X.env :: (assignEach es X.env).map (·.2):=by rfl):PGs X (e :: es) (gCons t u):=by
 intro pins s σ H vs us Q I r h;obtain ⟨v,vr,e1,h⟩:=h;subst e1;cases r with
 | cons r rr =>
  rw [hs];refine assignInOrder_cons (thn (h1 pins s σ H _ _ _ I r h) λ _ s1 ⟨σ1,H1,I1,q1⟩=>?_);exact h2 pins s1 σ1 H1 _ _ Q I1 rr q1
def gTup (K:PySem.W.Frag) (n:Nat) (t:TGs):TG:=λ v σ H Q=>∃ a xs,v=.ref a/\SqT K H a xs/\xs.length=n/\t xs σ H Q
def Zr {es:List Expr} {k:Nat} {t:TGs} {n:Nat} (hc:X.calm=true) (h:PGs X es t)
  (hn:(assignEach es X.env).length=n:=by rfl) (hst:(assignEach es X.env).findIdx? (·.1)=none:=by rfl):PG X (.Tuple es k pos) (gTup X.K n t):=by
 intro pins s σ H v u Q I r hw;obtain ⟨a,xs,e1,hq,hl,hw⟩:=hw;subst e1;cases r;obtain ⟨its,rv,ht,hz⟩:=I.tuple hq;refine assign_Tuple_tuple (I.ok.hd hc) ht (by simp [hn,<- hl,rv.length]) hst λ h' hx=>?_;have I1:Inv X pins σ H { s with heap:=h' }:=I.kept (t':=s.toks) λ b o e=>hx b o (aF (au e)) e;exact h pins _ σ H xs _ Q I1 (by simpa using rv) hw
def gSub (to ti:TE) (t:zft):TG:=λ v σ H Q=>to σ H λ o H1=>ti σ H1 λ i H2=>t o i v H2 λ H3=>Q σ H3
def Xc {o i:Expr} {to ti:TE} {t:zft} (ho:PE X o to) (hi:PE X i ti) (hs:zhP X t)
  (ha:∀ v,assign (.Subscript o i pos) X.env v=(do
   let ov <- holding [v] (eval o X.env)
   let iv <- holding [v,ov] (eval i X.env)
   standAt pos
   holding [v,ov,iv] (setItem ov iv v)
   release [v,ov,iv] []):=by intro _;rfl):PG X (.Subscript o i pos) (gSub to ti t):=by
 intro pins s σ H v u Q I r h;rw [ha];refine ad (cS (qz (ho pins s σ H _ I h) λ ov s1 x H1 I1 r1 q1=>?_));refine ad (cS (qz (hi pins s1 σ H1 _ I1 q1) λ iv s2 y H2 I2 r2 q2=>?_));refine ad (ft (ad (cS (thn (hs pins s2 σ H2 x y v ov iv u _ I2 r1 r2 r q2) λ _ s3 ⟨H3,I3,q3⟩=>?_))));exact wpAny_release ⟨σ,H3,I3,q3⟩
def tAsg (te:TE) (g:TG):TS:=λ D σ H=>te σ H λ x H1=>g x σ H1 D.nx
def Zq {tg e:Expr} {te:TE} {g:TG} (he:PE X e te) (hg:PG X tg g) (hs:swapsWithSole [tg] e pos.line X.env=pure false:=by rfl) (hw:swappedStores [tg] e X.env=pure none:=by rfl)
  (h1:(assignEach [tg] X.env).map (·.2)=[assign tg X.env]:=by rfl):PS X (.Assign [tg] e pos) (tAsg te g):=by
 intro pins s σ H D I h;refine wpAny_Assign_stores (qz (he pins s σ H _ I h) λ v s1 x H1 I1 r1 q1=>?_) hs hw;rw [h1];exact thn (hg pins s1 σ H1 x v _ I1 r1 q1) λ _ s2 q=>q
def zen {i:Nat} {x:Str} {e:Expr} {te:TE} {pos':Pos} (hN:X.N.Nodup) (hi:X.N[i]?=some x) (hx:Loc X.env.scope x) (he:PE X e te) (hs:swapsWith e (some (.Name x pos')) pos.line X.env=pure false:=by rfl) (hf:X.fn x=true\/X.env.scope.names.lookup x=some .local:=by walk_at "p") :
  PS X (.Assign [.Name x pos'] e pos) (tAsg te (gName i)):=by
 intro pins s σ H D I h;refine wpAny_Assign_Name (qz (he pins s σ H _ I h) λ v s1 y H1 I1 r1 q1=>?_) hs;exact JB I1 hN hi hx r1 (λ s2 I2=>⟨_,H1,I2,q1⟩) hf
def zgG (to ti te:TE) (tget:V->V->Hp->VK->Prop) (tip:TIp) (tset:zft):TS:=λ D σ H=>to σ H λ o H1=>ti σ H1 λ i H2=>tget o i H2 λ x H3=>te σ H3 λ y H4=>tip x y H4 λ z H5=>tset o i z H5 λ H6=>D.nx σ H6
def zit (X:Cx) (t:V->V->Hp->VK->Prop):Prop :=
 ∀ (pins:List (Addr × Obj)) (s:Shared) (σ:St) (H:Hp) (o i:V) (ov iv:Value) (Q:VK),Inv X pins σ H s->RelV o ov->RelV i iv->t o i H Q ->
  wpAny (model X.prog X.w) X.A (getItem ov iv) (EP X pins σ Q) X.xe s
def zfW {o i e:Expr} {to ti te:TE} {tget:V->V->Hp->VK->Prop} {tip:TIp} {tset:zft} {op:Operator} {tpos:Pos} (ho:PE X o to) (hi:PE X i ti) (hg:zit X tget) (he:PE X e te) (hp:PIp X op tip) (hs:zhP X tset)
  (ha:∀ ov iv new,augStore i ov iv new=(do holding [new,ov,iv] (setItem ov iv new);release [new,ov,iv] [];pure .next):=by intros;rfl):PS X (.AugAssign (.Subscript o i tpos) op e pos) (zgG to ti te tget tip tset):=by
 intro pins s σ H D I h;refine wpAny_AugAssign_SubscriptAny (qz (ho pins s σ H _ I h) λ ov s1 x1 H1 I1 r1 q1=>?_) ha;refine qz (hi pins s1 σ H1 _ I1 q1) λ iv s2 x2 H2 I2 r2 q2=>?_;refine qz (hg pins s2 σ H2 x1 x2 ov iv _ I2 r1 r2 q2) λ old s3 x3 H3 I3 r3 q3=>?_;refine qz (he pins s3 σ H3 _ I3 q3) λ v s4 x4 H4 I4 r4 q4=>?_;refine qz (hp pins s4 σ H4 x3 x4 old v _ I4 r3 r4 q4) λ new s5 x5 H5 I5 r5 q5=>?_;exact thn (hs pins s5 σ H5 x1 x2 x5 ov iv new _ I5 r1 r2 r5 q5) λ _ s6 ⟨H6,I6,q6⟩=>⟨σ,H6,I6,q6⟩
def ipI (f:Int->Int->Int):TIp:=λ x y H Q=>iq x λ i=>iq y λ j=>Q (.int (f i j)) H
def zhE:PIp X .Add (ipI λ i j=>i + j):=by
 intro pins s σ H x y v u Q I r1 r2 h;obtain ⟨i,j,e1,e2,q⟩:=Xw h;subst e1;subst e2;obtain ⟨t,rfl⟩:=r1;obtain ⟨t',rfl⟩:=r2;exact iadd_int ⟨.int _,H,I.tok _,⟨_,rfl⟩,q⟩
end
section
variable {X:Cx} {pos:Pos}
def zgX (c:TT) (tb:TS):TS:=λ D σ H=>∃ W:Nat->St->Hp->Prop,(∃ m,W m σ H)/\∀ m σ H,W m σ H ->
 c σ H λ b H1=>if b=true then ∃ N:St->Hp->Prop,(∀ σ' H',N σ' H'->∃ m',m' < m/\W m' σ' H')/\tb { D with nx:=N,ct:=N,bk:=D.nx } σ H1 else D.nx σ H1
theorem zao {c:Expr} {body:List Stmt} {tc:TT} {tb:TS} (hp:PassesOwn (model X.prog X.w) X.A X.env X.xe) (hc:PT X c tc) (hb:PSs X body tb):PS X (.While c body [] pos) (zgX tc tb):=by
 intro pins s σ H D I h;obtain ⟨W,⟨m0,w0⟩,turn⟩:=h;refine wpAny_While (codeAny_whileLoop (λ n s'=>∃ σ' H',Inv X pins σ' H' s'/\W n σ' H') ?_ m0 ⟨σ,H,I,w0⟩);rintro n s1 ⟨σ1,H1,I1,w1⟩;refine b7 hp (thn (hc pins s1 σ1 H1 _ I1 (turn n σ1 H1 w1)) λ b s2 ⟨H2,I2,q2⟩=>?_);cases b with
 | true =>
  obtain ⟨N,hN,q2⟩:=q2;rw [aq rfl];refine b7 hp (thn (hb pins s2 σ1 H2 _ I2 q2) λ f s3 q3=>?_);cases f with
  | next =>
   obtain ⟨σ3,H3,I3,n3⟩:=q3;obtain ⟨m',hm,w3⟩:=hN σ3 H3 n3;exact ⟨m',hm,σ3,H3,I3,w3⟩
  | cont =>
   obtain ⟨σ3,H3,I3,n3⟩:=q3;obtain ⟨m',hm,w3⟩:=hN σ3 H3 n3;exact ⟨m',hm,σ3,H3,I3,w3⟩
  | brk=>exact q3
  | ret v=>exact q3
 | false =>
  rw [am az];exact cG ⟨σ1,H2,I2,q2⟩
end
structure It where
 go:Nat->Hp->Prop
 yld:Nat->Hp->V->Hp->Prop
 stop:Nat->Hp->Prop
def QK (X:Cx) (pins:List (Addr × Obj)) (H:Hp) (b:Addr):Prop :=
 H b=none/\b≠X.env.locals/\b ∉ X.fs/\(b∈X.ex\/X.s₀.heap.objs.size<=b)/\(∀ x c,X.env.cells.lookup x=some c->c≠b)/\∀ p∈X.pn ++ pins,p.1≠b
def Inv.fpOk {X:Cx} {pins:List (Addr × Obj)} {σ:St} {H H':Hp} {s:Shared} {b:Addr} (I:Inv X pins σ H s) (hb:s.heap.objs.size<=b) (hn:H' b=none):QK X pins H' b:=by
 refine ⟨hn,cR (aE I.lt hb),I.nofs hb,.inr (bw I.sz hb),λ x c e z=>?_,λ p hp z=>?_⟩
 ·obtain ⟨v,q⟩:=I.cell x c e;exact absurd (aE q.lt (by rw [z];exact hb)) (cq _)
 ·exact absurd (aE (au (I.pin p hp).1) (by rw [z];exact hb)) (cq _)
structure Turn (P:Program) (w:World) (K:PySem.W.Frag) (tg:Expr) (J:It) (fp:List Addr) (it:Addr) (tn:Nat->Heap->Prop):Prop where
 mem:it∈fp
 obj:∀ i h,tn i h->∀ b∈fp,∃ o,h.get? b=some o/\∀ v,o.data≠.cell v
 keep:∀ i h h',tn i h->(∀ b∈fp,∀ o,h.get? b=some o->h'.get? b=some o)->tn i h'
 item:∀ (X:Cx),X.prog=P->X.w=w->X.K=K->X.calm=true->∀ (i:Nat) (pins:List (Addr × Obj)) (s:Shared) (σ:St) (H:Hp) (E:Value->Shared->Prop),Inv X pins σ H s->(∀ b∈fp,QK X pins H b)->tn i s.heap->J.go i H ->
  wpAny (model P w) X.A (pyNext (.ref it)) (λ r s1=>∃ u,r=some u /\
   wpAny (model P w) X.A (letOwnedTupleGo tg (.ref it) u) (λ _ s2=>∃ x H',Inv X pins σ H' s2/\RelV x u/\J.yld i H x H'/\tn (i + 1) s2.heap/\∀ b∈fp,H' b=none) E s1) E s
 done:∀ (X:Cx),X.prog=P->X.w=w->X.K=K->X.calm=true->∀ (i:Nat) (pins:List (Addr × Obj)) (s:Shared) (σ:St) (H:Hp) (E:Value->Shared->Prop),Inv X pins σ H s->(∀ b∈fp,QK X pins H b)->tn i s.heap->J.stop i H ->
  wpAny (model P w) X.A (pyNext (.ref it)) (λ r s1=>r=none/\Inv X pins σ H s1) E s
 self:∀ (A:Around) (i:Nat) (s:Shared) (Q:Value->Shared->Prop) (E:Value->Shared->Prop),tn i s.heap->Q (.ref it) s->wpAny (model P w) A (pyIter (.ref it)) Q E s
abbrev TI:=St->Hp->(It->Hp->Prop)->Prop
def PIE (X:Cx) (pins:List (Addr × Obj)) (σ:St) (tg:Expr) (R:It->Hp->Prop) (itv:Value) (s2:Shared):Prop :=
 ∃ (it:Addr) (fp:List Addr) (tn:Nat->Heap->Prop) (J:It) (H':Hp),itv=.ref it/\Inv X pins σ H' s2/\Turn X.prog X.w X.K tg J fp it tn/\tn 0 s2.heap/\(∀ b∈fp,QK X pins H' b)/\R J H'
def PI (X:Cx) (tg iter:Expr) (wi:TI):Prop :=
 ∀ (pins:List (Addr × Obj)) (s:Shared) (σ:St) (H:Hp) (R:It->Hp->Prop),Inv X pins σ H s->wi σ H R ->
  wpAny (model X.prog X.w) X.A (eval iter X.env) (λ v s1=>wpAny (model X.prog X.w) X.A (pyIter v) (PIE X pins σ tg R) X.xe s1) X.xe s
theorem zco {M:Model} {A:Around} {E:Value->Shared->Prop} {s:Shared} {tg:Expr} {it:Addr} {u:Value} {o:Obj} {n:String} {vs:Array Value} {Q:Unit->Shared->Prop} (ho:s.heap.get? it=some o) (hc:o.cls=.type n) (hd:o.data=.fields vs)
  (hn:["enumerate","zip","dict_itemiterator","dict_reverseitemiterator","odict_iterator","itertools.zip_longest","itertools.pairwise"].contains n=false) (hQ:Q () s):wpAny M A (letOwnedTupleGo tg (.ref it) u) Q E s:=by
 unfold letOwnedTupleGo;cases tg <;> first
  | exact aw hQ
  | (cases u <;> first
    | exact aw hQ
    | (refine ad (wpAny_load ho ?_)
       rw [hc,hd];show wpAny M A (if (["enumerate","zip","dict_itemiterator","dict_reverseitemiterator","odict_iterator","itertools.zip_longest","itertools.pairwise"].contains n && vs[0]? == some (rawInt _))=true then _ else _) Q E s
       rw [am (by intro h;rw [hn,Bool.false_and] at h;cases h)];exact aw hQ))
noncomputable def Itl (K:PySem.W.Frag) (a:Addr):It :=
 ⟨λ i H=>∃ xs x,SqL K H a xs/\xs[i]?=some x,λ i H x H'=>H'=H/\∀ xs,SqL K H a xs->xs[i]?=some x,λ i H=>∃ xs,SqL K H a xs/\xs.length<=i⟩
noncomputable def Itt (K:PySem.W.Frag) (a:Addr):It :=
 ⟨λ i H=>∃ xs x,SqT K H a xs/\xs[i]?=some x,λ i H x H'=>H'=H/\∀ xs,SqT K H a xs->xs[i]?=some x,λ i H=>∃ xs,SqT K H a xs/\xs.length<=i⟩
noncomputable def Itr (lo:Int) (n:Nat):It:=⟨λ i _=>i < n,λ i H x H'=>H'=H/\x=.int (lo + i),λ i _=>n<=i⟩
def zcL {P:Program} {w:World} {K:PySem.W.Frag} {tg:Expr} (a it:Addr):Turn P w K tg (Itl K a) [it] it (λ i h=>h.IsListIter it a i) where
 mem:=by simp
 obj:=λ i h st b hb=>by
  have e:b=it:=by simpa using hb
  subst e;obtain ⟨o,e,c,d⟩:=st;exact ⟨o,e,λ v z=>by rw [d] at z;cases z⟩
 keep:=λ i h h' st k=>st.at λ o e=>k it (by simp) o e
 item:=by
  intro X hP hw hK hc i pins s σ H E I hf st hg;subst hP hw hK;obtain ⟨xs,x,hq,hx⟩:=hg;obtain ⟨its,rv,p,hz⟩:=I.list hq;obtain ⟨u,hu,ru⟩:=rv.get hx;obtain ⟨f0,f1,f2,f3,f4,f5⟩:=hf it (by simp);refine wpAny_pyNext_list_item st p.isList (x:=u) (by simpa using hu) λ h' st' sb=>?_;have I1:Inv X pins σ H { s with heap:=h' }:=I.turned (t':=s.toks) (λ b o hb e=>(sb.2 b hb).trans e) f0 f1 f3 f4 f5;obtain ⟨o,e,c,d⟩:=id st';exact ⟨u,rfl,zco (s:={ s with heap:=h' }) e c d (by decide) ⟨x,H,I1,ru,⟨rfl,λ ys hy=>by rw [I.list_inj hy hq];exact hx⟩,st',λ b hb=>(hf b hb).1⟩⟩
 done:=by
  intro X hP hw hK hc i pins s σ H E I hf st hg;subst hP hw hK;obtain ⟨xs,hq,hx⟩:=hg;obtain ⟨its,rv,p,hz⟩:=I.list hq;obtain ⟨f0,f1,f2,f3,f4,f5⟩:=hf it (by simp);have hl:=rv.length;exact wpAny_pyNext_list_end (I.ok.hd hc) st p.isList (by simp;omega) λ h' eb=>⟨rfl,I.turned (t':=s.toks) (λ b o hb e=>eb b o hb e) f0 f1 f3 f4 f5⟩
 self:=λ _ _ _ _ _ st h=>wpAny_pyIter_listiter st h
def za3 {P:Program} {w:World} {K:PySem.W.Frag} {tg:Expr} (a it:Addr):Turn P w K tg (Itt K a) [it] it (λ i h=>h.IsTupleIter it a i) where
 mem:=by simp
 obj:=λ i h st b hb=>by
  have e:b=it:=by simpa using hb
  subst e;obtain ⟨o,e,c,d⟩:=st;exact ⟨o,e,λ v z=>by rw [d] at z;cases z⟩
 keep:=λ i h h' st k=>st.at λ o e=>k it (by simp) o e
 item:=by
  intro X hP hw hK hc i pins s σ H E I hf st hg;subst hP hw hK;obtain ⟨xs,x,hq,hx⟩:=hg;obtain ⟨its,rv,p,hz⟩:=I.tuple hq;obtain ⟨u,hu,ru⟩:=rv.get hx;obtain ⟨f0,f1,f2,f3,f4,f5⟩:=hf it (by simp);refine wpAny_pyNext_tuple_item st (show s.heap.IsTuple a its.toArray from p) (x:=u) (by simpa using hu) λ h' st' sb=>?_;have I1:Inv X pins σ H { s with heap:=h' }:=I.turned (t':=s.toks) (λ b o hb e=>(sb.2 b hb).trans e) f0 f1 f3 f4 f5;obtain ⟨o,e,c,d⟩:=id st';exact ⟨u,rfl,zco (s:={ s with heap:=h' }) e c d (by decide) ⟨x,H,I1,ru,⟨rfl,λ ys hy=>by rw [I.tuple_inj hy hq];exact hx⟩,st',λ b hb=>(hf b hb).1⟩⟩
 done:=by
  intro X hP hw hK hc i pins s σ H E I hf st hg;subst hP hw hK;obtain ⟨xs,hq,hx⟩:=hg;obtain ⟨its,rv,p,hz⟩:=I.tuple hq;obtain ⟨f0,f1,f2,f3,f4,f5⟩:=hf it (by simp);have hl:=rv.length;exact wpAny_pyNext_tuple_end (I.ok.hd hc) st (show s.heap.IsTuple a its.toArray from p) (by simp;omega) λ h' eb=>⟨rfl,I.turned (t':=s.toks) (λ b o hb e=>eb b o hb e) f0 f1 f3 f4 f5⟩
 self:=λ _ _ _ _ _ st h=>wpAny_pyIter_tupleiter st h
def za4 {P:Program} {w:World} {K:PySem.W.Frag} {tg:Expr} (it:Addr) (lo:Int) (n:Nat):Turn P w K tg (Itr lo n) [it] it (λ i h=>IsRangeIter h it (lo + (i:Nat) * 1) ((n:Int) - (i:Nat)) 1) where
 mem:=by simp
 obj:=λ i h st b hb=>by
  have e:b=it:=by simpa using hb
  subst e;exact ⟨_,st,λ v z=>by
   have z':Data.fields _=Data.cell v:=z;cases z'⟩
 keep:=λ i h h' st k=>k it (by simp) _ st
 item:=by
  intro X hP hw hK hc i pins s σ H E I hf st hg;subst hP hw hK;obtain ⟨f0,f1,f2,f3,f4,f5⟩:=hf it (by simp);have W:=Walks.range (prog:=X.prog) (w:=X.w) (I.ok.hd hc) it lo 1 n;refine W.item i s _ _ hg st λ v h' tk hv st' kk=>?_;obtain ⟨t,rfl⟩:=hv;have I1:Inv X pins σ H { s with heap:=h',toks:=tk }:=I.turned (λ b o hb e=>kk b o (by simpa using hb) e) f0 f1 f3 f4 f5;refine ⟨_,rfl,zco (s:={ s with heap:=h',toks:=tk }) (n:="range_iterator") st' rfl rfl (by decide) ⟨.int (lo + i),H,I1,⟨t,?_⟩,⟨rfl,rfl⟩,st',λ b hb=>(hf b hb).1⟩⟩;rw [Int.mul_one]
 done:=by
  intro X hP hw hK hc i pins s σ H E I hf st hg;subst hP hw hK;obtain ⟨f0,f1,f2,f3,f4,f5⟩:=hf it (by simp);exact wpAny_pyNext_range_end (I.ok.hd hc) st (by have:n<=i:=hg;omega) λ h' eb=>⟨rfl,I.turned (t':=s.toks) (λ b o hb e=>eb b o hb e) f0 f1 f3 f4 f5⟩
 self:=λ _ _ _ _ _ st h=>wpAny_pyIter_rangeiter st h
end L2
namespace L2
open PySem PySem.Spec PyProof.Rows
section
variable {X:Cx} {tg:Expr}
def zak {pins:List (Addr × Obj)} {σ:St} {H:Hp} {s:Shared} {R:It->Hp->Prop} {E:Value->Shared->Prop} {lo hi:Int} {t u v:Tok} {tk:Nat} (I:Inv X pins σ H s) (h1:-(2 ^ 62)<=lo) (h2:lo < 2 ^ 62) (h3:-(2 ^ 62)<=hi) (h4:hi < 2 ^ 62)
  (q:R (Itr lo (hi - lo).toNat) H):wpAny (model X.prog X.w) X.A (pyIter (.ref s.heap.objs.size)) (PIE X pins σ tg R) E { s with heap:=s.heap.push { cls:=.type "range",data:=.fields #[.int lo t,.int hi u,.int 1 v] },toks:=tk }:=by
 refine wpAny_pyIter_range (IsRange.new ..) (small_one h1 h2 h3 h4) ?_;have I1:Inv X pins σ H { s with heap:=s.heap.push { cls:=.type "range",data:=.fields #[.int lo t,.int hi u,.int 1 v] },toks:=tk }:=I.kept λ b o e=>ah _ e;refine ⟨(s.heap.push { cls:=.type "range",data:=.fields #[.int lo t,.int hi u,.int 1 v] }).objs.size,[(s.heap.push { cls:=.type "range",data:=.fields #[.int lo t,.int hi u,.int 1 v] }).objs.size],_,_,H,rfl,
  I1.kept (t':=tk) λ b o e=>ah _ e,za4 _ lo (hi - lo).toNat,?_,λ b hb=>?_,q⟩
 ·have e1:lo + ((0:Nat):Int) * 1=lo:=by simp
  have e2:(((hi - lo).toNat:Nat):Int) - ((0:Nat):Int)=Builtin.Range.rangeSize lo hi 1:=by rw [rangeSize_one];split <;> omega
  show IsRangeIter _ _ (lo + ((0:Nat):Int) * 1) ((((hi - lo).toNat:Nat):Int) - ((0:Nat):Int)) 1
  rw [e1,e2];exact aA _ rfl
 ·have e:b=(s.heap.push { cls:=.type "range",data:=.fields #[.int lo t,.int hi u,.int 1 v] }).objs.size:=by simpa using hb
  subst e;exact I1.fpOk (ar _) (I1.hok.fresh (ar _))
def iRng1 (ta:TA):TI:=λ σ H R=>ta σ H λ vs H1=>lq vs λ v=>iq v λ j=>-(2 ^ 62)<=j/\j < 2 ^ 62/\R (Itr 0 j.toNat) H1
def iRng2 (ta:TA):TI:=λ σ H R=>ta σ H λ vs H1=>∃ i j:Int,vs=[.int i,.int j]/\(-(2 ^ 62)<=i/\i < 2 ^ 62/\-(2 ^ 62)<=j/\j < 2 ^ 62)/\R (Itr i (j - i).toNat) H1
theorem zdc {a:Expr} {ta:TA} {p pos:Pos} (hg:Gl X "range") (hm:X.mg "range"=none) (ha:PA X [a] ta) (hs:starEach [a] X.env=[(false,eval a X.env)]:=by rfl):PI X tg (.Call (.Name "range" p) [a] [] pos) (iRng1 ta):=by
 intro pins s σ H R I h;refine Call_ (wR I hg hm boot_range (ba (w9 (ha pos pins s σ H _ I h) λ us s1 vs H1 I1 r1 q1=>?_) hs rfl));obtain ⟨v,e,q0⟩:=zeK q1;clear q1;obtain ⟨j,e2,q1,q2,q⟩:=ZZ q0;subst e2;subst e;cases r1 with
 | cons r rr =>
  cases rr;obtain ⟨t,rfl⟩:=r;exact call_range_1 (zak I1 (by omega) (by omega) q1 q2 (by simpa using q))
theorem zdb {a b:Expr} {ta:TA} {p pos:Pos} (hg:Gl X "range") (hm:X.mg "range"=none) (ha:PA X [a,b] ta) (hs:starEach [a,b] X.env=[(false,eval a X.env),(false,eval b X.env)]:=by rfl) (hs2:starEach [b] X.env=[(false,eval b X.env)]:=by rfl) :
  PI X tg (.Call (.Name "range" p) [a,b] [] pos) (iRng2 ta):=by
 intro pins s σ H R I h;refine Call_ (wR I hg hm boot_range (ba (w9 (ha pos pins s σ H _ I h) λ us s1 vs H1 I1 r1 q1=>?_) (by rw [hs,hs2]) (by rw [hs2];rfl)));obtain ⟨i,j,e,⟨q1,q2,q3,q4⟩,q⟩:=q1;subst e;cases r1 with
 | cons r rr =>
  cases rr with
  | cons r' rr =>
   cases rr;obtain ⟨t,rfl⟩:=r;obtain ⟨t',rfl⟩:=r';exact call_range_2 (zak I1 q1 q2 q3 q4 q)
def tFor (wi:TI) (g:TG) (tb:TS):TS:=λ D σ H=>wi σ H λ J H1=>∃ W:Nat->Nat->St->Hp->Prop,(∃ m,W 0 m σ H1)/\∀ i m σ H,W i m σ H ->
 (J.stop i H/\D.nx σ H)\/(J.go i H/\∃ N:St->Hp->Prop,(∀ σ' H',N σ' H'->∃ m',m' < m/\W (i + 1) m' σ' H')/\∀ x H',J.yld i H x H'->g x σ H' λ σ2 H2=>tb { D with nx:=N,ct:=N,bk:=D.nx } σ2 H2)
noncomputable def Xb (fp:List Addr) (h:Heap):List (Addr × Obj):=fp.filterMap λ b=>(h.get? b).map λ o=>(b,o)
def wQ {fp:List Addr} {h:Heap} {b:Addr} {o:Obj} (hb:b∈fp) (e:h.get? b=some o):(b,o)∈Xb fp h:=fE.mpr ⟨b,hb,by rw [e];rfl⟩
theorem zdj {fp:List Addr} {h:Heap} {p:Addr × Obj} (hp:p∈Xb fp h):p.1∈fp/\h.get? p.1=some p.2:=by
 obtain ⟨b,hb,e⟩:=fE.mp hp;cases q:h.get? b with
 | none=>rw [q] at e;cases e
 | some o =>
  rw [q] at e;have e':(b,o)=p:=aI e;subst e';exact ⟨hb,q⟩
def Inv.pinned {pins:List (Addr × Obj)} {σ:St} {H:Hp} {s:Shared} {fp:List Addr} (I:Inv X pins σ H s) (hf:∀ b∈fp,QK X pins H b) (ho:∀ b∈fp,∃ o,s.heap.get? b=some o/\∀ v,o.data≠.cell v):Inv X (pins ++ Xb fp s.heap) σ H s :=
 I.pins_of λ p hp=>(aD.mp hp).elim (λ z=>I.pin p (aV _ z)) λ z=>by
  obtain ⟨hb,e⟩:=zdj z;obtain ⟨f0,f1,f2,_⟩:=hf p.1 hb;obtain ⟨o,e',d⟩:=ho p.1 hb;rw [e] at e';cases e';exact ⟨e,f0,f1,f2,d⟩
def Inv.unpinned {pins pl:List (Addr × Obj)} {σ:St} {H:Hp} {s:Shared} (I:Inv X (pins ++ pl) σ H s):Inv X pins σ H s:=I.pins_of λ p hp=>I.pin p (aV _ (bH _ hp))
theorem qK {iter:Expr} {body:List Stmt} {wi:TI} {g:TG} {tb:TS} {pos:Pos} (hp:PassesOwn (model X.prog X.w) X.A X.env X.xe) (hc:X.calm=true) (hi:PI X tg iter wi) (hg:PG X tg g) (hb:PSs X body tb)
  (hs:∀ x,foldedSetIterable iter X.env x=pure x:=by intro _;rfl):PS X (.For tg iter body [] pos) (tFor wi g tb):=by
 intro pins s σ H D I h;refine wpAny_For (thn (hi pins s σ H _ I h) λ v s1 h1=>thn h1 λ itv s2 h2=>?_) hs;obtain ⟨it,fp,tn,J,H2,e,I2,T,st2,f2,W,⟨m0,w0⟩,turn⟩:=h2;subst e;have stat:∀ {H':Hp},(∀ b∈fp,H' b=none)->∀ b∈fp,QK X pins H' b:=λ hn b hb=>⟨hn b hb,(f2 b hb).2⟩;refine codeAny_forLoop_any (λ n s'=>∃ i σ' H',Inv X pins σ' H' s'/\tn i s'.heap/\(∀ b∈fp,H' b=none)/\W i n σ' H') ?_ m0 ⟨0,σ,H2,I2,st2,λ b hb=>(f2 b hb).1,w0⟩;rintro n s3 ⟨i,σ3,H3,I3,st3,fr3,w3⟩;rcases turn i n σ3 H3 w3 with ⟨stop,qn⟩|⟨go,N,hN,step⟩
 ·refine b7 hp (thn (T.done X rfl rfl rfl hc i pins s3 σ3 H3 X.xe I3 (stat fr3) st3 stop) λ r s4 ⟨hr,I4⟩=>?_);subst hr;exact cG ⟨σ3,H3,I4,qn⟩
 ·refine b7 hp (thn (T.item X rfl rfl rfl hc i pins s3 σ3 H3 X.xe I3 (stat fr3) st3 go) λ r s4 ⟨u,hr,h4⟩=>?_);subst hr;refine b7 hp (thn h4 λ _ s5 ⟨x,H5,I5,r5,y5,st5,fr5⟩=>?_);have I5':=I5.pinned (stat fr5) (T.obj _ _ st5);refine b7 hp (thn (hg _ s5 σ3 H5 x u _ I5' r5 (step x H5 y5)) λ _ s6 ⟨σ6,H6,I6,q6⟩=>?_);refine b7 hp (thn (hb _ s6 σ6 H6 _ I6 q6) λ f s7 q7=>?_);have again:∀ {σ7:St} {H7:Hp},Inv X (pins ++ Xb fp s5.heap) σ7 H7 s7->N σ7 H7->∃ m,m < n/\∃ i σ' H',Inv X pins σ' H' s7/\tn i s7.heap/\(∀ b∈fp,H' b=none)/\W i m σ' H':=λ {σ7 H7} I7 n7=>by
   obtain ⟨m',hm,w7⟩:=hN σ7 H7 n7;refine ⟨m',hm,i + 1,σ7,H7,I7.unpinned,T.keep _ _ _ st5 λ b hb o e=>(I7.pin (b,o) (aV _ (aV _ (wQ hb e)))).1,λ b hb=>?_,w7⟩;obtain ⟨o,e,d⟩:=T.obj _ _ st5 b hb;exact (I7.pin (b,o) (aV _ (aV _ (wQ hb e)))).2.1
  cases f with
  | next=>obtain ⟨σ7,H7,I7,n7⟩:=q7;exact again I7 n7
  | cont=>obtain ⟨σ7,H7,I7,n7⟩:=q7;exact again I7 n7
  | brk=>obtain ⟨σ7,H7,I7,q7⟩:=q7;exact ⟨σ7,H7,I7.unpinned,q7⟩
  | ret v=>obtain ⟨x7,σ7,H7,I7,r7,q7⟩:=q7;exact ⟨x7,σ7,H7,I7.unpinned,r7,q7⟩
end
end L2
namespace L2
open PySem PySem.Spec PyProof.Rows
abbrev R2:=V->V->Hp->VK->Prop
def OpR (X:Cx) (f:Value->Value->Sem Value) (r:R2):Prop :=
 ∀ (pins:List (Addr × Obj)) (s:Shared) (σ:St) (H:Hp) (x y:V) (v u:Value) (Q:VK),Inv X pins σ H s->RelV x v->RelV y u->r x y H Q ->
  wpAny (model X.prog X.w) X.A (f v u) (EP X pins σ Q) X.xe s
def UnR (X:Cx) (f:Value->Sem Value) (r:V->Hp->VK->Prop):Prop :=
 ∀ (pins:List (Addr × Obj)) (s:Shared) (σ:St) (H:Hp) (x:V) (v:Value) (Q:VK),Inv X pins σ H s->RelV x v->r x H Q ->
  wpAny (model X.prog X.w) X.A (f v) (EP X pins σ Q) X.xe s
def CallR (X:Cx) (f:Value) (r:List V->Hp->VK->Prop):Prop :=
 ∀ (pins:List (Addr × Obj)) (s:Shared) (σ:St) (H:Hp) (xs:List V) (us:List Value) (Q:VK),Inv X pins σ H s->Vals xs us->r xs H Q ->
  wpAny (model X.prog X.w) X.A (call f us) (EP X pins σ Q) X.xe s
def ziL (X:Cx) (r:V->Hp->(Bool->Hp->Prop)->Prop):Prop :=
 ∀ (pins:List (Addr × Obj)) (s:Shared) (σ:St) (H:Hp) (x:V) (v:Value) (Q:Bool->Hp->Prop),Inv X pins σ H s->RelV x v->r x H Q ->
  wpAny (model X.prog X.w) X.A (truthy v) (TP X pins σ Q) X.xe s
def tOp (r:R2) (ta tb:TE):TE:=λ σ H Q=>ta σ H λ x H1=>tb σ H1 λ y H2=>r x y H2 Q
def tUn (r:V->Hp->VK->Prop) (ta:TE):TE:=λ σ H Q=>ta σ H λ x H1=>r x H1 Q
def rI (C:Int->Int->Prop) (g:Int->Int->V):R2:=λ x y H Q=>iq x λ i=>iq y λ j=>C i j/\Q (g i j) H
def rI0 (g:Int->Int->V):R2:=λ x y H Q=>iq x λ i=>iq y λ j=>Q (g i j) H
def rU (g:Int->V):V->Hp->VK->Prop:=λ x H Q=>iq x λ i=>Q (g i) H
section
variable {X:Cx} {a b c:Expr} {ta tb tc:TE} {pos:Pos}
def zhN (ha:PE X a ta) (hb:PE X b tb) {pins:List (Addr × Obj)} {s:Shared} {σ:St} {H:Hp} {R:V->V->Hp->Prop} (I:Inv X pins σ H s)
  (h:ta σ H λ x H1=>tb σ H1 λ y H2=>R x y H2) {Q:Value->Shared->Prop} {f:Value->Value->Sem Value}
  (hf:∀ v u s2 x y H2,Inv X pins σ H2 s2->RelV x v->RelV y u->R x y H2->wpAny (model X.prog X.w) X.A (f v u) Q X.xe s2) :
  wpAny (model X.prog X.w) X.A (eval a X.env) (λ v s₁=>wpAny (model X.prog X.w) X.A (eval b X.env) (λ u s₂=>wpAny (model X.prog X.w) X.A (f v u) Q X.xe s₂) X.xe s₁) X.xe s:=by
 refine qz (ha pins s σ H _ I h) λ v s1 x H1 I1 r1 q1=>?_;refine qz (hb pins s1 σ H1 _ I1 q1) λ u s2 y H2 I2 r2 q2=>?_;exact hf v u s2 x y H2 I2 r1 r2 q2
def zR {op:Operator} {r:R2} (ho:OpR X (binaryOp op) r) (ha:PE X a ta) (hb:PE X b tb):PE X (.BinOp a op b pos) (tOp r ta tb):=by
 intro pins s σ H Q I h;exact wpAny_BinOp (zhN ha hb I h λ v u s2 x y H2 I2 rx ry q=>ho pins s2 σ H2 x y v u Q I2 rx ry q)
def vt {op:UnaryOp} {r:V->Hp->VK->Prop} (ho:UnR X (unaryOp op) r) (ha:PE X a ta):PE X (.UnaryOp op a pos) (tUn r ta):=by
 intro pins s σ H Q I h;exact UnaryOp_ (qz (ha pins s σ H _ I h) λ v s1 x H1 I1 r1 q1=>ho pins s1 σ H1 x v Q I1 r1 q1)
def opI {f:Value->Value->Sem Value} {C:Int->Int->Prop} {g:Int->Int->Int}
  (rule:∀ (i j:Int) (t u:Tok) (s:Shared) (Q:Value->Shared->Prop) (E:Value->Shared->Prop),C i j->Q (.int (g i j) s.toks) { s with toks:=s.toks + 1 }->wpAny (model X.prog X.w) X.A (f (.int i t) (.int j u)) Q E s) :
  OpR X f (rI C λ i j=>.int (g i j)):=by
 intro pins s σ H x y v u Q I rx ry h;obtain ⟨i,j,rfl,rfl,hc,q⟩:=Xw h;obtain ⟨t,rfl⟩:=rx;obtain ⟨t',rfl⟩:=ry;exact rule i j t t' s _ _ hc ⟨.int (g i j),H,I.tok _,⟨_,rfl⟩,q⟩
def zh9 {f:Value->Value->Sem Value} {g:Int->Int->Int}
  (rule:∀ (i j:Int) (t u:Tok) (s:Shared) (Q:Value->Shared->Prop) (E:Value->Shared->Prop),Q (.int (g i j) s.toks) { s with toks:=s.toks + 1 }->wpAny (model X.prog X.w) X.A (f (.int i t) (.int j u)) Q E s) :
  OpR X f (rI0 λ i j=>.int (g i j)):=by
 intro pins s σ H x y v u Q I rx ry h;obtain ⟨i,j,rfl,rfl,q⟩:=Xw h;obtain ⟨t,rfl⟩:=rx;obtain ⟨t',rfl⟩:=ry;exact rule i j t t' s _ _ ⟨.int (g i j),H,I.tok _,⟨_,rfl⟩,q⟩
def zhk {f:Value->Value->Sem Value} {g:Int->Int->Bool}
  (rule:∀ (i j:Int) (t u:Tok) (s:Shared) (Q:Value->Shared->Prop) (E:Value->Shared->Prop),Q (.bool (g i j)) s->wpAny (model X.prog X.w) X.A (f (.int i t) (.int j u)) Q E s) :
  OpR X f (rI0 λ i j=>.bl (g i j)):=by
 intro pins s σ H x y v u Q I rx ry h;obtain ⟨i,j,rfl,rfl,q⟩:=Xw h;obtain ⟨t,rfl⟩:=rx;obtain ⟨t',rfl⟩:=ry;exact rule i j t t' s _ _ ⟨.bl (g i j),H,I,rfl,q⟩
def ziN (i j:Int):Prop:=0 < j/\j < 1073741824
def zix (i j:Int):Prop:=0<=j/\j<=1000000/\i.natAbs < 2 ^ 64
def CMul (i j:Int):Prop:=(-(2 ^ 64) < i/\i < 2 ^ 64)\/(-(2 ^ 64) < j/\j < 2 ^ 64)
def CMul.ok {i j:Int} (h:CMul i j):IntMulOk i j:=by
 rcases h with ⟨h1,h2⟩|⟨h1,h2⟩
 ·exact .of_left (intBits_le_64 h1 h2)
 ·exact .of_right (intBits_le_64 h1 h2)
def op_add:OpR X (binaryOp .Add) (rI0 λ i j=>.int (i + j)):=zh9 λ _ _ _ _ _ _ _ q=>add_int q
def Vm:OpR X (binaryOp .Sub) (rI0 λ i j=>.int (i - j)):=zh9 λ _ _ _ _ _ _ _ q=>sub_int q
def zf0:OpR X (binaryOp .FloorDiv) (rI ziN λ i j=>.int (i / j)):=opI λ i j _ _ _ _ _ hc q=>by
 have h1:(0:Int) < j:=hc.1;have h2:j < 1073741824:=hc.2;exact floordiv_int (by omega) (by rw [dY i (by omega)];exact q) (.inl (eJ (by omega)))
def jA:OpR X (binaryOp .Mod) (rI (λ _ j=>0 < j) λ i j=>.int (i % j)):=opI λ i j _ _ _ _ _ hc q=>by
 have h1:(0:Int) < j:=hc;exact mod_int' (by omega) (by rw [Int.fmod_eq_emod_of_nonneg i (by omega)];exact q)
def zhj:OpR X (binaryOp .Pow) (rI zix λ i j=>.int (i ^ j.toNat)):=opI λ _ _ _ _ _ _ _ hc q=>pow_int_small hc.1 hc.2.1 hc.2.2 q
def unI {f:Value->Sem Value} {g:Int->Int}
  (rule:∀ (i:Int) (t:Tok) (s:Shared) (Q:Value->Shared->Prop) (E:Value->Shared->Prop),Q (.int (g i) s.toks) { s with toks:=s.toks + 1 }->wpAny (model X.prog X.w) X.A (f (.int i t)) Q E s) :
  UnR X f (rU λ i=>.int (g i)):=by
 intro pins s σ H x v Q I rx h;obtain ⟨i,rfl,q⟩:=ZZ h;obtain ⟨t,rfl⟩:=rx;exact rule i t s _ _ ⟨.int (g i),H,I.tok _,⟨_,rfl⟩,q⟩
def xl:UnR X (unaryOp .USub) (rU λ i=>.int (-i)):=unI λ _ _ _ _ _ q=>neg_int q
end
noncomputable def zhX:V->V->Bool
 | .non,.non=>true | .non,.int _=>true | .int _,.non=>true | .non,.bl _=>true | .bl _,.non=>true | .non,.str _=>true | .str _,.non=>true
 | .int _,.int _=>true | .bl _,.bl _=>true | .str _,.str _=>true | .byt _,.byt _=>true
 | .int _,.str _=>true | .str _,.int _=>true | .bl _,.str _=>true | .str _,.bl _=>true
 | _,_=>false
def rEq:R2:=λ x y H Q=>zhX x y=true/\Q (.bl (decide (x=y))) H
def rNe:R2:=λ x y H Q=>zhX x y=true/\Q (.bl (!decide (x=y))) H
def zcx {i j:Int}:decide (V.int i=V.int j)=(i == j):=by
 rw [cP];simp
def zfa {i j:Bool}:decide (V.bl i=V.bl j)=(i == j):=by
 rw [cP];simp
def zcw {i j:Str}:decide (V.str i=V.str j)=(i == j):=by
 rw [cP];simp
def zcy {i j:Array UInt8}:decide (V.byt i=V.byt j)=(i.toList == j.toList):=by
 rw [cP];cases i;cases j;simp
section
variable {X:Cx} {a b c:Expr} {ta tb tc:TE} {pos:Pos}
def zY {pins:List (Addr × Obj)} {σ:St} {H:Hp} {s:Shared} {Q:VK} {k k':Bool} (I:Inv X pins σ H s) (q:Q (.bl k) H) (e:k=k'):EP X pins σ Q (.bool k') s:=by
 subst e;exact ⟨.bl k,H,I,rfl,q⟩
theorem op_eq:OpR X (compareOp .Eq) rEq:=by
 intro pins s σ H x y v u Q I rx ry h;obtain ⟨hs,q⟩:=h;cases x with
 | non =>
  cases rx;cases y with
  | non=>cases ry;exact PySem.EqNone.eq_none_none (zY I q (by simp))
  | bl j=>cases ry;exact PySem.EqNone.eq_none_bool (zY I q (by simp))
  | int j=>obtain ⟨t',rfl⟩:=ry;exact PySem.EqNone.eq_none_int (zY I q (by simp))
  | str j=>obtain ⟨t',rfl⟩:=ry;exact PySem.EqNone.eq_none_str (zY I q (by simp))
  | _=>exact absurd (show false=true from hs) az
 | bl i =>
  cases rx;cases y with
  | non=>cases ry;exact PySem.EqNone.eq_bool_none (zY I q (by simp))
  | bl j=>cases ry;exact eq_bool (zY I q zfa)
  | str j=>obtain ⟨t',rfl⟩:=ry;exact PySem.EqMixed.eq_bool_str (zY I q (by simp))
  | _=>exact absurd (show false=true from hs) az
 | int i =>
  obtain ⟨t,rfl⟩:=rx;cases y with
  | non=>cases ry;exact PySem.EqNone.eq_int_none (zY I q (by simp))
  | int j=>obtain ⟨t',rfl⟩:=ry;exact eq_int (zY I q zcx)
  | str j=>obtain ⟨t',rfl⟩:=ry;exact PySem.EqMixed.eq_int_str (zY I q (by simp))
  | _=>exact absurd (show false=true from hs) az
 | str i =>
  obtain ⟨t,rfl⟩:=rx;cases y with
  | non=>cases ry;exact PySem.EqNone.eq_str_none (zY I q (by simp))
  | bl j=>cases ry;exact PySem.EqMixed.eq_str_bool (zY I q (by simp))
  | int j=>obtain ⟨t',rfl⟩:=ry;exact PySem.EqMixed.eq_str_int (zY I q (by simp))
  | str j=>obtain ⟨t',rfl⟩:=ry;exact eq_str (zY I q zcw)
  | _=>exact absurd (show false=true from hs) az
 | byt i =>
  obtain ⟨t,rfl⟩:=rx;cases y with
  | byt j=>obtain ⟨t',rfl⟩:=ry;exact PySem.W.eq_bytes (zY I q zcy)
  | _=>exact absurd (show false=true from hs) az
 | _=>cases y <;> exact absurd (show false=true from hs) az
theorem op_ne:OpR X (compareOp .NotEq) rNe:=by
 intro pins s σ H x y v u Q I rx ry h;obtain ⟨hs,q⟩:=h;cases x with
 | non =>
  cases rx;cases y with
  | non=>cases ry;exact PySem.EqNone.ne_none_none (zY I q (by simp))
  | bl j=>cases ry;exact PySem.EqNone.ne_none_bool (zY I q (by simp))
  | int j=>obtain ⟨t',rfl⟩:=ry;exact PySem.EqNone.ne_none_int (zY I q (by simp))
  | str j=>obtain ⟨t',rfl⟩:=ry;exact PySem.EqNone.ne_none_str (zY I q (by simp))
  | _=>exact absurd (show false=true from hs) az
 | bl i =>
  cases rx;cases y with
  | non=>cases ry;exact PySem.EqNone.ne_bool_none (zY I q (by simp))
  | bl j=>cases ry;exact ne_bool (zY I q (bP not zfa))
  | str j=>obtain ⟨t',rfl⟩:=ry;exact PySem.EqMixed.ne_bool_str (zY I q (by simp))
  | _=>exact absurd (show false=true from hs) az
 | int i =>
  obtain ⟨t,rfl⟩:=rx;cases y with
  | non=>cases ry;exact PySem.EqNone.ne_int_none (zY I q (by simp))
  | int j=>obtain ⟨t',rfl⟩:=ry;exact ne_int (zY I q (bP not zcx))
  | str j=>obtain ⟨t',rfl⟩:=ry;exact PySem.EqMixed.ne_int_str (zY I q (by simp))
  | _=>exact absurd (show false=true from hs) az
 | str i =>
  obtain ⟨t,rfl⟩:=rx;cases y with
  | non=>cases ry;exact PySem.EqNone.ne_str_none (zY I q (by simp))
  | bl j=>cases ry;exact PySem.EqMixed.ne_str_bool (zY I q (by simp))
  | int j=>obtain ⟨t',rfl⟩:=ry;exact PySem.EqMixed.ne_str_int (zY I q (by simp))
  | str j=>obtain ⟨t',rfl⟩:=ry;exact ne_str (zY I q (bP not zcw))
  | _=>exact absurd (show false=true from hs) az
 | byt i =>
  obtain ⟨t,rfl⟩:=rx;cases y with
  | byt j=>obtain ⟨t',rfl⟩:=ry;exact PySem.W.ne_bytes (zY I q (bP not zcy))
  | _=>exact absurd (show false=true from hs) az
 | _=>cases y <;> exact absurd (show false=true from hs) az
def op_lt:OpR X (compareOp .Lt) (rI0 λ i j=>.bl (decide (i < j))):=zhk λ _ _ _ _ _ _ _ q=>lt_int q
def op_le:OpR X (compareOp .LtE) (rI0 λ i j=>.bl (decide (i<=j))):=zhk λ _ _ _ _ _ _ _ q=>le_int q
def op_gt:OpR X (compareOp .Gt) (rI0 λ i j=>.bl (decide (j < i))):=zhk λ _ _ _ _ _ _ _ q=>gt_int q
theorem op_isN:OpR X (compareOp .Is) (λ x y H Q=>nq y (Q (.bl (decide (x=.non))) H)):=by
 intro pins s σ H x y v u Q I rx ry h;obtain ⟨rfl,q⟩:=zci h;cases ry;refine is_none_gen (zY I q ?_);cases x <;> first
  | (cases rx;rfl)
  | (obtain ⟨t,rfl⟩:=rx;rfl)
theorem op_notN:OpR X (compareOp .IsNot) (λ x y H Q=>nq y (Q (.bl (!decide (x=.non))) H)):=by
 intro pins s σ H x y v u Q I rx ry h;obtain ⟨rfl,q⟩:=zci h;cases ry;refine isnot_none_gen (zY I q ?_);cases x <;> first
  | (cases rx;rfl)
  | (obtain ⟨t,rfl⟩:=rx;rfl)
def OpR.or {f:Value->Value->Sem Value} {r r':R2} (h:OpR X f r) (h':OpR X f r'):OpR X f (λ x y H Q=>r x y H Q\/r' x y H Q):=by
 intro pins s σ H x y v u Q I rx ry q;rcases q with q|q
 ·exact h pins s σ H x y v u Q I rx ry q
 ·exact h' pins s σ H x y v u Q I rx ry q
def zq (b:Expr) {op:CmpOp} (h:op≠.In:=by decide) (h2:op≠.NotIn:=by decide):behindInMarks op b=false:=by
 have e1:(op == CmpOp.In)=false:=by cases op <;> first|rfl|exact absurd rfl h
 have e2:(op == CmpOp.NotIn)=false:=by cases op <;> first|rfl|exact absurd rfl h2
 cases b <;> simp [behindInMarks,e1,e2]
def jz {op:CmpOp} {r:R2} (ho:OpR X (compareOp op) r) (ha:PE X a ta) (hb:PE X b tb) (hm:behindInMarks op b=false):PE X (.Compare a [op] [b] pos) (tOp r ta tb):=by
 intro pins s σ H Q I h;exact wpAny_Compare1 (zhN ha hb I h λ v u s2 x y H2 I2 rx ry q=>ho pins s2 σ H2 x y v u Q I2 rx ry q) hm
def tTest (t:TE):TT:=λ σ H Q=>t σ H λ x H'=>bq x λ k=>Q k H'
def zo {op:CmpOp} {r:R2} (ho:OpR X (compareOp op) r) (ha:PE X a ta) (hb:PE X b tb) (hm:behindInMarks op b=false):PT X (.Compare a [op] [b] pos) (tTest (tOp r ta tb)):=by
 intro pins s σ H Q I h;refine wpAny_isTrue_Compare1 (qz (ha pins s σ H _ I h) λ v s1 x H1 I1 r1 q1=>qz (hb pins s1 σ H1 _ I1 q1) λ u s2 y H2 I2 r2 q2 =>
  thn (ho pins s2 σ H2 x y v u _ I2 r1 r2 q2) λ c s3 ⟨z,H3,I3,r3,q3⟩=>?_) hm
 obtain ⟨k,e,q3⟩:=QW q3;subst e;cases r3;exact bF ⟨H3,I3,q3⟩
def tChain (r r':R2) (ta tb tc:TE):TE:=λ σ H Q=>ta σ H λ x H1=>tb σ H1 λ y H2=>r x y H2 λ z H3=>bq z λ k =>
 (if k=true then tc σ H3 λ w' H4=>r' y w' H4 Q else Q (.bl false) H3)
theorem zev {op op':CmpOp} {r r':R2} (ho:OpR X (compareOp op) r) (ho':OpR X (compareOp op') r') (ha:PE X a ta) (hb:PE X b tb) (hc:PE X c tc)
  (hm:lastMarks [op,op'] [b,c]=false:=by with_unfolding_all rfl):PE X (.Compare a [op,op'] [b,c] pos) (tChain r r' ta tb tc):=by
 intro pins s σ H Q I h;refine Compare_chain (qz (ha pins s σ H _ I h) λ v s1 x H1 I1 r1 q1=>chain_link (qz (hb pins s1 σ H1 _ I1 q1) λ u s2 y H2 I2 r2 q2 =>
  thn (ho pins s2 σ H2 x y v u _ I2 r1 r2 q2) λ d s3 ⟨z,H3,I3,r3,q3⟩=>?_)) hm
 obtain ⟨k,e,q3⟩:=QW q3;subst e;cases r3;refine bF ?_;cases k with
 | false=>exact ite_ff ⟨.bl false,H3,I3,rfl,q3⟩
 | true=>exact ite_tt (chain_last (thn (hc pins s3 σ H3 _ I3 q3) λ w' s4 ⟨z',H4,I4,r4,q4⟩=>ho' pins s4 σ H4 y z' u w' Q I4 r2 r4 q4))
theorem jx {op op':CmpOp} {r r':R2} (ho:OpR X (compareOp op) r) (ho':OpR X (compareOp op') r') (ha:PE X a ta) (hb:PE X b tb) (hc:PE X c tc)
  (hm:lastMarks [op,op'] [b,c]=false:=by with_unfolding_all rfl):PT X (.Compare a [op,op'] [b,c] pos) (tTest (tChain r r' ta tb tc)):=by
 intro pins s σ H Q I h;refine isTrue_chain (qz (ha pins s σ H _ I h) λ v s1 x H1 I1 r1 q1=>test_link (qz (hb pins s1 σ H1 _ I1 q1) λ u s2 y H2 I2 r2 q2 =>
  thn (ho pins s2 σ H2 x y v u _ I2 r1 r2 q2) λ d s3 ⟨z,H3,I3,r3,q3⟩=>?_)) hm
 obtain ⟨k,e,q3⟩:=QW q3;subst e;cases r3;refine bF ?_;cases k with
 | false =>
  obtain ⟨k',e',q'⟩:=QW q3;cases e';exact ite_ff ⟨H3,I3,q'⟩
 | true =>
  refine ite_tt (test_last (thn (hc pins s3 σ H3 _ I3 q3) λ w' s4 ⟨z',H4,I4,r4,q4⟩=>thn (ho' pins s4 σ H4 y z' u w' _ I4 r2 r4 q4) λ d' s5 ⟨z2,H5,I5,r5,q5⟩=>?_));obtain ⟨k2,e2,q5⟩:=QW q5;subst e2;cases r5;exact bF ⟨H5,I5,q5⟩
def zdS (K:PySem.W.Frag) (x:V) (H:Hp) (k:Bool):Prop :=
 match x with
 | .non=>k=false
 | .bl b=>k=b
 | .int i=>k=(i != 0)
 | .str y=>y.length<=sizeLine/\k=((y.length:Int) != 0)
 | .byt y=>y.size<=sizeLine/\k=((y.size:Int) != 0)
 | .ref p=>(∃ xs,SqL K H p xs/\k=!xs.isEmpty)\/(∃ xs,SqT K H p xs/\k=!xs.isEmpty)\/∃ kvs,H p=some (.dK kvs)/\k=!kvs.isEmpty
 | _=>False
def zbL {κ:Type} {kvs:List (κ × V)} {vs:List (κ × Value)} (r:KV kvs vs):(!vs.isEmpty)=!kvs.isEmpty:=by
 cases r <;> rfl
def Xv {xs:List V} {its:List Value} (r:Vals xs its):(!its.toArray.isEmpty)=!xs.isEmpty:=by
 cases r <;> simp
def Zx:(sizeLine:Nat) < 2 ^ 63:=by rw [eC];decide
theorem zgV:ziL X (λ x H Q=>∃ k,zdS X.K x H k/\Q k H):=by
 intro pins s σ H x v Q I rx h;obtain ⟨k,e,q⟩:=h;have hl:=Zx;have hs:sizeLine=16777216:=eC;cases x with
 | non =>
  cases rx;have e':k=false:=e;subst e';exact truthy_none ⟨H,I,q⟩
 | bl b =>
  cases rx;have e':k=b:=e;subst e';exact bF ⟨H,I,q⟩
 | int i =>
  obtain ⟨t,rfl⟩:=rx;have e':k=(i != 0):=e;subst e';exact PySem.P.truthy_int ⟨H,I,q⟩
 | str y =>
  obtain ⟨t,rfl⟩:=rx;obtain ⟨hy,e'⟩:y.length<=sizeLine/\k=((y.length:Int) != 0):=e;subst e';exact PySem.P.truthy_str (by omega) ⟨H,I.tok _,q⟩
 | byt y =>
  obtain ⟨t,rfl⟩:=rx;obtain ⟨hy,e'⟩:y.size<=sizeLine/\k=((y.size:Int) != 0):=e;subst e';exact PySem.W.truthy_bytes (by omega) ⟨H,I.tok _,q⟩
 | ref p =>
  cases rx;have e':(∃ xs,SqL X.K H p xs/\k=!xs.isEmpty)\/(∃ xs,SqT X.K H p xs/\k=!xs.isEmpty)\/∃ kvs,H p=some (.dK kvs)/\k=!kvs.isEmpty:=e;rcases e' with ⟨xs,hx,e'⟩|⟨xs,hx,e'⟩|⟨kvs,hx,e'⟩
  ·subst e';obtain ⟨its,r,pl,hz⟩:=I.list hx;have hlen:=r.length;exact wpAny_truthy_list pl.isList (by simp only [ao];omega) ⟨H,I.tok _,by rw [Xv r];exact q⟩
  ·subst e';obtain ⟨its,r,pl,hz⟩:=I.tuple hx;have hlen:=r.length;exact truthy_tuple pl (by simp only [ao];omega) ⟨H,I.tok _,by rw [Xv r];exact q⟩
  ·subst e';obtain ⟨hz,hS,vs,r,m⟩:kvs.length<=sizeLine/\(p == sysModules)=false/\∃ vs,KV kvs vs/\s.heap.DictOf (Vu X.prog X.w) p vs:=I.hok p _ hx;have hlen:kvs.length=vs.length:=cT r;exact wpAny_truthy_dict hS m (by omega) ⟨H,I.tok _,by rw [zbL r];exact q⟩
 | _=>exact (show False from e).elim
def trq (K:PySem.W.Frag) (x:V) (H:Hp) (Q:Bool->Hp->Prop):Prop :=
 match x with
 | .bl b=>Q b H
 | x=>∃ k,zdS K x H k/\Q k H
def zgW {K:PySem.W.Frag} {x:V} {H:Hp} {Q:Bool->Hp->Prop} (h:trq K x H Q):∃ k,zdS K x H k/\Q k H:=by
 cases x <;> first|exact ⟨_,rfl,h⟩|exact h
def tTru (K:PySem.W.Frag) (ta:TE):TT:=λ σ H Q=>ta σ H λ x H'=>trq K x H' Q
def z7 (ha:PE X a ta) (he:∀ whole,isTrue a X.env whole=(do let v <- whole;standAt a.pos;holding [v] (truthy v))) :
  PT X a (tTru X.K ta):=by
 intro pins s σ H Q I h;exact isTrue_plain (qz (ha pins s σ H _ I h) λ v s1 x H1 I1 r1 q1=>zgV pins s1 σ H1 x v Q I1 r1 (zgW q1)) (he _)
def op_add_str:OpR X (binaryOp .Add) (λ x y H Q=>∃ i j,x=.str i/\y=.str j/\i.length + j.length<=sizeLine/\Q (.str (i ++ j)) H):=by
 intro pins s σ H x y v u Q I rx ry h;obtain ⟨i,j,rfl,rfl,hz,q⟩:=h;obtain ⟨t,rfl⟩:=rx;obtain ⟨t',rfl⟩:=ry;exact add_str (λ t' tk=>⟨.str (i ++ j),H,I.tok _,⟨_,rfl⟩,q⟩) hz
theorem ZG {x:V} {us:List Value} (r:Vals [x] us):∃ u,us=[u]/\RelV x u:=by
 cases r with
 | cons r1 r2=>cases r2;exact ⟨_,rfl,r1⟩
theorem zgD {x y:V} {us:List Value} (r:Vals [x,y] us):∃ u w',us=[u,w']/\RelV x u/\RelV y w':=by
 cases r with
 | cons r1 r2 =>
  cases r2 with
  | cons r3 r4=>cases r4;exact ⟨_,_,rfl,r1,r3⟩
def zdF (hc:X.calm=true):CallR X (.builtin "max") (λ xs H Q=>∃ i j,xs=[.int i,.int j]/\Q (.int (if j > i then j else i)) H):=by
 intro pins s σ H xs us Q I r h;obtain ⟨i,j,rfl,q⟩:=h;obtain ⟨u,w',rfl,⟨t,rfl⟩,⟨t',rfl⟩⟩:=zgD r;refine max_two_ints (I.ok.hd hc) λ h' tk k=>⟨_,H,I.kept k,?_,q⟩;by_cases hj:j > i
 ·rw [aq hj,aq hj];exact ⟨_,rfl⟩
 ·rw [am hj,am hj];exact ⟨_,rfl⟩
def ziv (K:PySem.W.Frag) (x:V) (H:Hp) (n:Nat):Prop :=
 match x with
 | .str y=>y.length<=sizeLine/\n=y.length
 | .byt y=>y.size<=sizeLine/\n=y.size
 | .ref p=>(∃ xs,SqL K H p xs/\n=xs.length)\/∃ xs,SqT K H p xs/\n=xs.length
 | _=>False
theorem zff:CallR X (.builtin "len") (λ xs H Q=>∃ x n,xs=[x]/\ziv X.K x H n/\Q (.int n) H):=by
 intro pins s σ H xs us Q I r h;obtain ⟨x,n,rfl,e,q⟩:=h;obtain ⟨u,rfl,rx⟩:=ZG r;have hl:=Zx;have hs:sizeLine=16777216:=eC;cases x with
 | str y =>
  obtain ⟨t,rfl⟩:=rx;obtain ⟨hy,e'⟩:y.length<=sizeLine/\n=y.length:=e;subst e';exact len_str (by omega) ⟨.int _,H,I.tok _,⟨_,rfl⟩,q⟩
 | byt y =>
  obtain ⟨t,rfl⟩:=rx;obtain ⟨hy,e'⟩:y.size<=sizeLine/\n=y.size:=e;subst e';exact PySem.W.len_bytes (by omega) ⟨.int _,H,I.tok _,⟨_,rfl⟩,q⟩
 | ref p =>
  cases rx;have e':(∃ xs,SqL X.K H p xs/\n=xs.length)\/∃ xs,SqT X.K H p xs/\n=xs.length:=e;rcases e' with ⟨xs,hx,e'⟩|⟨xs,hx,e'⟩
  ·subst e';obtain ⟨its,r',pl,hz⟩:=I.list hx;have hlen:=r'.length;exact Calls.call_len_list pl.isList (by simp only [ao];omega) ⟨.int xs.length,H,I.tok _,⟨_,by simp only [ao];rw [hlen]⟩,q⟩
  ·subst e';obtain ⟨its,r',pl,hz⟩:=I.tuple hx;have hlen:=r'.length;exact len_tuple pl (by simp only [ao];omega) ⟨.int xs.length,H,I.tok _,⟨_,by simp only [ao];rw [hlen]⟩,q⟩
 | _=>exact (show False from e).elim
end
end L2
namespace L2
open PySem PySem.Spec PyProof.Rows
structure ObjM (h:Heap) (x dx C:Addr) (mA:Str->Option Value):Prop where
 obj:h.get? x=some (PySem.W.instObj C dx)
 ns:h.Ns1 dx mA
 ne:dx≠x
def zdm {h:Heap} {dx:Addr} {mA:Str->Option Value} (n:h.Ns1 dx mA):∃ od,h.get? dx=some od/\∀ name,PySem.W.lookIn name od=some (mA name):=by
 obtain ⟨o,es,ep,ho,hd,hk,_,hm⟩:=n;refine ⟨o,ho,λ name=>?_⟩;have e:=hm name;unfold nsFind findBy at e;rw [<- Array.find?_toList] at e;unfold PySem.W.lookIn;rw [hd];dsimp only
 split
 ·rename_i y q;rw [q] at e;exact bP some e
 ·rename_i q;rw [q] at e;have a:es.toList.any (·.refKey)=false:=by
   rw [List.any_eq_false];intro y hy;obtain ⟨z,t,hkey⟩:=hk y (Array.mem_toList_iff.mp hy);simp [DictEntry.refKey,hkey]
  have a':¬ es.toList.any (·.refKey)=true:=by rw [a];exact az
  rw [am a'];exact bP some e
def ObjM.look {h:Heap} {x dx C:Addr} {mA:Str->Option Value} (I:ObjM h x dx C mA):∃ od,PySem.W.InstAt h x (PySem.W.instObj C dx) C (some od)/\∀ name,PySem.W.lookIn name od=some (mA name) :=
 let ⟨od,ho,hl⟩:=zdm I.ns
 ⟨od,⟨I.obj,rfl,rfl,ho⟩,hl⟩
section
variable {prog:Program} {w:World} {A:Around} {E:Value->Shared->Prop} {s:Shared} {K:PySem.W.Frag} {x dx C f:Addr} {mA:Str->Option Value} {name:Str} {v:Value}
def zgi {expr:Bool} {Q:Value->Shared->Prop} (X:K.In s.heap) (I:ObjM s.heap x dx C mA) (hg:PySem.W.plainGet K C name=true) (hh:PySem.W.hasDictIn K C=true)
  (ha:PySem.W.findIn K (.ref C) name=some none) (hv:mA name=some v) (hv':PySem.W.handedIn v=true) (h:Q v { s with toks:=s.toks + 1 }) :
  wpAny (model prog w) A (getAttr (.ref x) name expr) Q E s:=by
 obtain ⟨od,J,hl⟩:=I.look;exact PySem.W.get_value X J (plainGet_of hg).1 (PySem.W.findObj_own hh ha rfl (by rw [hl,hv])) hv' h
def ze1 {pl:Sem Bool} {Q:Value × List Value->Shared->Prop} (X:K.In s.heap) (I:ObjM s.heap x dx C mA) (hg:PySem.W.plainGet K C name=true)
  (hf:PySem.W.findIn K (.ref C) name=some (some (.ref f))) (ht:PySem.W.isFn K (.ref f)=true) (hv:mA name=none) (h:Q (.ref f,[.ref x]) s) :
  wpAny (model prog w) A (getMethod (.ref x) name pl) Q E s:=by
 obtain ⟨od,J,hl⟩:=I.look;exact PySem.W.method_fn X J (plainGet_of hg).1 (plainGet_of hg).2 hf (bB.mp ht) (by show (PySem.W.lookIn name od).map (·.isSome)=some false;rw [hl,hv];rfl) h
def zfK {ns:List Str} {Q:Unit->Shared->Prop} (X:K.In s.heap) (I:ObjM s.heap x dx C mA)
  (hs:PySem.W.findIn K (.ref C) "__setattr__"=some (some (.builtin "object.__setattr__"))) (hp:plainOver K C=true) (ht:PySem.W.takerIn K C name=some none) (hh:PySem.W.hasDictIn K C=true)
  (hw:PySem.Within mA ns) (hsz:ns.length<=sizeLine)
  (h:∀ h',ObjM h' x dx C (λ y=>if y=name then some v else mA y)->Heap.SameBut dx s.heap h'->Q () { s with heap:=h',toks:=s.toks + 2 }) :
  wpAny (model prog w) A (setAttr (.ref x) name v) Q E s:=by
 obtain ⟨od,J,hl⟩:=I.look;refine PySem.W.set_plain X J hs (PySem.W.osa_open (s:={ s with toks:=s.toks + 1 }) (r:=none) X J hp ht λ b=>?_);obtain ⟨cd,hc,hd'⟩:=fB hh;have hx:s.heap.get? x=some ⟨.ref C,some dx,.plain,#[]⟩:=I.obj;refine ad (aw (ad (ad (wpAny_loadPart hx (ad (PySem.W.Looks.here (s:={ s with toks:=s.toks + 1 }) (PySem.W.looks_clsIn X hc) ?_))))));rw [hd'];refine aw (a:=some dx) (ad (aw (ad ?_)));refine wpAny_nsSet1 (s:={ s with toks:=s.toks + 1 }) I.ns λ h' hn2 hs2=>?_;obtain ⟨oD,esD,epD,hoD,hdD,hcD⟩:=hn2.count (PySem.Within.cons name v hw);refine ad (wpAny_lookBehind hoD (by rw [hdD];exact pastItsLine_dict (bw hcD (by rw [bT];omega))) ?_);exact aw (h _ ⟨(hs2.2 _ (aZ I.ne)).trans I.obj,hn2,I.ne⟩ hs2)
def zaD {R:Result->Shared->Prop} {vs:List Value} {kw:List (Str × Value)} (X:K.In s.heap) (hm:PySem.W.makesIn K C=true)
  (hi:PySem.W.findIn K (.ref C) "__init__"=some (some (.ref f))) (hf:PySem.W.typeIn K (.ref f)=some (.type "function"))
  (h:codeAny (model prog w) (A.under (.builtin "type.__call__" ⟨.ref C :: vs,kw⟩)) (.call (.ref f) ⟨.ref (s.heap.objs.size + 1) :: vs,kw⟩) (PySem.W.InitBack (s.heap.objs.size + 1) R)
   { s with heap:=(s.heap.push emptyDict).push (PySem.W.instObj C s.heap.objs.size) }) :
  codeAny (model prog w) A (.call (.ref C) ⟨vs,kw⟩) R s:=by
 obtain ⟨hh,g,d,t,os⟩:=s;exact PySem.W.make_core (PySem.W.makes_of X hm) (looks_findIn X hi) (λ self=>PySem.W.bind_fn X self hf) (.inl rfl) h
end
noncomputable def qh (f:Str) (v:V):List (Str × V)->List (Str × V)
 | []=>[(f,v)]
 | (g,x) :: r=>if g=f then (g,v) :: r else (g,x) :: qh f v r
theorem qg (f g:Str) (v:V):∀ fs:List (Str × V),(qh f v fs).lookup g=if g=f then some v else fs.lookup g
 | []=>by
  show List.lookup g [(f,v)]=_
  by_cases h:g=f
  ·have hb:(g == f)=true:=bB.mpr h;simp only [List.lookup,hb,aq h]
  ·have hb:(g == f)=false:=a9.mpr h;simp only [List.lookup,hb,am h]
 | (k,x) :: r=>by
  have ih:=qg f g v r;rw [show qh f v ((k,x) :: r)=(if k=f then (k,v) :: r else (k,x) :: qh f v r) from rfl];by_cases hk:k=f
  ·rw [aq hk];by_cases h:g=k
   ·have hb:(g == k)=true:=bB.mpr h;simp only [List.lookup,hb,aq (h.trans hk)]
   ·have hb:(g == k)=false:=a9.mpr h;simp only [List.lookup,hb,am (λ e:g=f=>h (e.trans hk.symm))]
  ·rw [am hk];by_cases h:g=k
   ·have hb:(g == k)=true:=bB.mpr h;simp only [List.lookup,hb,am (λ e:g=f=>hk (h.symm.trans e))]
   ·have hb:(g == k)=false:=a9.mpr h;simp only [List.lookup,hb];exact ih
theorem QC (f:Str) (v:V):∀ fs:List (Str × V),f∈(qh f v fs).map (·.1)/\∀ g,g∈fs.map (·.1)->g∈(qh f v fs).map (·.1)
 | []=>⟨by simp [qh],λ g h=>by simp at h⟩
 | (k,x) :: r=>by
  obtain ⟨i1,i2⟩:=QC f v r;rw [show qh f v ((k,x) :: r)=(if k=f then (k,v) :: r else (k,x) :: qh f v r) from rfl];by_cases hk:k=f
  ·rw [aq hk];subst hk;exact ⟨by simp,λ g h=>by simpa using h⟩
  ·rw [am hk];refine ⟨?_,λ g h=>?_⟩
   ·rw [bL];exact aG _ i1
   ·rw [bL] at h ⊢;rcases ax.mp h with e|e
    ·exact ax.mpr (.inl e)
    ·exact aG _ (i2 g e)
theorem xJ (f:Str) (v:V):∀ fs:List (Str × V),(qh f v fs).length<=fs.length + 1
 | []=>by simp [qh]
 | (k,x) :: r=>by
  have ih:=xJ f v r;rw [show qh f v ((k,x) :: r)=(if k=f then (k,v) :: r else (k,x) :: qh f v r) from rfl];by_cases hk:k=f
  ·rw [aq hk,bT,bT];omega
  ·rw [am hk,bT,bT];omega
theorem RelO.some_of {v:V} {o:Option Value} (r:RelO (some v) o):∃ u,o=some u/\RelV v u:=by
 cases o with
 | none=>exact (show False from r).elim
 | some u=>exact ⟨u,rfl,r⟩
theorem RelO.none_of {o:Option Value} (r:RelO none o):o=none:=by
 cases o with
 | none=>rfl
 | some u=>exact (show False from r).elim
theorem zdw {v:V} {u:Value} (r:RelV v u):PySem.W.handedIn u=true:=by
 cases v with
 | non=>cases (show u=Value.none from r);rfl
 | bl b=>cases (show u=Value.bool b from r);rfl
 | int i=>obtain ⟨t,e⟩:=(show ∃ t,u=Value.int i t from r);cases e;rfl
 | str x=>obtain ⟨t,e⟩:=(show ∃ t,u=Value.str x t from r);cases e;rfl
 | byt b=>obtain ⟨t,e⟩:=(show ∃ t,u=Value.bytes b t from r);cases e;rfl
 | flt b=>obtain ⟨t,e⟩:=(show ∃ t,u=Value.float b t from r);cases e;rfl
 | ref a=>cases (show u=Value.ref a from r);rfl
 | ty n=>cases (show u=Value.type n from r);rfl
section
variable {P:Program} {w:World} {H H':Hp} {h h':Heap} {a C dx:Addr} {fs fs':List (Str × V)}
def Jq (hok:HOk P w H h) (e:H a=some (.ins C dx fs)):∃ mA,ObjM h a dx C mA/\(∀ f,RelO (fs.lookup f) (mA f))/\PySem.Within mA (fs.map (·.1))/\fs.length<=1000/\H dx=some (.own a):=by
 obtain ⟨d,z,ne,ob,mA,n,r,q⟩:=(show ObjOk P w H h a (.ins C dx fs) from hok a _ e);exact ⟨mA,⟨ob,n,ne⟩,r,q,z,d⟩
end
structure Cls (K:PySem.W.Frag) (C:Addr):Prop where
 pg:PySem.W.plainGet K C Str.empty=true
 hd:PySem.W.hasDictIn K C=true
 po:plainOver K C=true
 sa:PySem.W.findIn K (.ref C) "__setattr__"=some (some (.builtin "object.__setattr__"))
def Cls.get {K:PySem.W.Frag} {C:Addr} (c:Cls K C) (f:Str):PySem.W.plainGet K C f=true:=c.pg
def NoAttr (K:PySem.W.Frag) (C:Addr) (f:Str):Prop:=PySem.W.findIn K (.ref C) f=some none
def NoAttr.taker {K:PySem.W.Frag} {C:Addr} {f:Str} (n:NoAttr K C f):PySem.W.takerIn K C f=some none:=by
 unfold PySem.W.takerIn;rw [show PySem.W.findIn K (.ref C) f=some none from n]
 rfl
structure Meth (K:PySem.W.Frag) (C:Addr) (m:Str) (f:Addr):Prop where
 at_:PySem.W.findIn K (.ref C) m=some (some (.ref f))
 fn:PySem.W.isFn K (.ref f)=true
 kp:PySem.W.keepIn K (.ref f)=true
section
variable {X:Cx} {pins:List (Addr × Obj)} {σ:St} {H:Hp} {s:Shared} {a C dx:Addr} {fs:List (Str × V)} {f:Str} {v:V} {A:Around} {E:Value->Shared->Prop}
def Xy {b:Bool} {Q:Value->Shared->Prop} (I:Inv X pins σ H s) (e:H a=some (.ins C dx fs)) (c:Cls X.K C) (n:NoAttr X.K C f) (l:fs.lookup f=some v)
  (h:∀ u s',Inv X pins σ H s'->RelV v u->Q u s'):wpAny (model X.prog X.w) A (getAttr (.ref a) f b) Q E s:=by
 obtain ⟨mA,O,r,_,_,_⟩:=Jq I.hok e;obtain ⟨u,hu,ru⟩:=RelO.some_of (v:=v) (o:=mA f) (by rw [<- l];exact r f);exact zgi I.kIn O (c.get f) c.hd n hu (zdw ru) (h u _ (I.tok _) ru)
def Zz {m:Str} {g:Addr} {pl:Sem Bool} {Q:Value × List Value->Shared->Prop} (I:Inv X pins σ H s) (e:H a=some (.ins C dx fs)) (c:Cls X.K C) (k:Meth X.K C m g) (l:fs.lookup m=none)
  (h:Q (.ref g,[.ref a]) s):wpAny (model X.prog X.w) A (getMethod (.ref a) m pl) Q E s:=by
 obtain ⟨mA,O,r,_,_,_⟩:=Jq I.hok e;have hn:mA m=none:=RelO.none_of (by rw [<- l];exact r m);exact ze1 I.kIn O (c.get m) k.at_ k.fn hn h
def JL {y:V} {u:Value} {Q:Unit->Shared->Prop} (I:Inv X pins σ H s) (e:H a=some (.ins C dx fs)) (c:Cls X.K C) (n:NoAttr X.K C f) (hl:fs.length < 1000) (ry:RelV y u)
  (h:∀ s',Inv X pins σ (upd H a (.ins C dx (qh f y fs))) s'->Q () s'):wpAny (model X.prog X.w) A (setAttr (.ref a) f u) Q E s:=by
 obtain ⟨mA,O,r,wi,_,ho⟩:=Jq I.hok e;have hz:(fs.map (·.1)).length<=sizeLine:=by rw [ai,eC];omega
 refine zfK I.kIn O c.sa c.po n.taker c.hd wi hz λ h' O' sb=>h _ ?_;have hd:∃ o,h'.get? dx=some o:=let ⟨o,_,_,e',_⟩:=O'.ns;⟨o,e'⟩
 refine I.write (x:=a) (e:=dx) (by rw [e];exact True.intro) (.inr ho) (λ b q hb z=>(sb.2 b hb).trans z) hd ?_;refine ⟨by rw [upd_ne O.ne];exact ho,?_,O.ne,O'.obj,_,O'.ns,λ g=>?_,λ g hg=>?_⟩
 ·have:=xJ f y fs;omega
 ·show RelO ((qh f y fs).lookup g) (if g=f then some u else mA g)
  rw [qg];by_cases q:g=f
  ·rw [aq q,aq q];exact ry
  ·rw [am q,am q];exact r g
 ·by_cases q:g=f
  ·rw [q];exact (QC f y fs).1
  ·refine (QC f y fs).2 g (wi g λ z=>hg ?_);show (if g=f then some u else mA g)=none
   rw [am q];exact z
def Inv.made (I:Inv X pins σ H s):Inv X pins σ (upd (upd H s.heap.objs.size (.own (s.heap.objs.size + 1))) (s.heap.objs.size + 1) (.ins C s.heap.objs.size []))
  { s with heap:=(s.heap.push emptyDict).push (PySem.W.instObj C s.heap.objs.size) }:=by
 have e1:(s.heap.push emptyDict).get? s.heap.objs.size=some emptyDict:=aA s.heap rfl;have e2:((s.heap.push emptyDict).push (PySem.W.instObj C s.heap.objs.size)).get? (s.heap.objs.size + 1)=some (PySem.W.instObj C s.heap.objs.size):=by
  have:=aA (s.heap.push emptyDict) (o:=PySem.W.instObj C s.heap.objs.size) rfl
  rwa [bE] at this
 have e3:(s.heap.push emptyDict).Ns s.heap.objs.size (λ _=>none):=⟨emptyDict,#[],_,e1,rfl,(λ e he=>absurd he (by simp)),λ _=>rfl⟩;have I1:=I.laid (a:=s.heap.objs.size) (o:=.own (s.heap.objs.size + 1)) (h':=s.heap.push emptyDict) (t':=s.toks) (λ b u q=>ah _ q) (ar _) ⟨_,e1⟩;refine I1.laid (a:=s.heap.objs.size + 1) (o:=.ins C s.heap.objs.size []) (t':=s.toks) (λ b u q=>ah _ q) (Nat.le_of_eq (bE _ _)) ?_;have ne:s.heap.objs.size≠s.heap.objs.size + 1:=aF (b9 _);refine ⟨by rw [upd_ne ne,upd_same],bQ _,ne,e2,λ _=>none,(Heap.Ns1.of_empty e3).at λ o q=>ah _ q,λ _=>True.intro,λ y hy=>absurd rfl hy⟩
def zgx {prog:Program} {w:World} {env:Env} {e:Expr} {f:Str} {pos:Pos} {s:Shared} {Q:Value->Shared->Prop} (hb:attributeBase e f env (eval e env)=eval e env)
  (h:wpAny (model prog w) A (eval e env) (λ o s₁=>wpAny (model prog w) A (getAttr o f true) Q E s₁) E s):wpAny (model prog w) A (eval (.Attribute e f pos) env) Q E s :=
 Attribute_any_ h (by rw [arm_eval_Attribute,hb])
end
def tFld (K:PySem.W.Frag) (ta:TE) (f:Str):TE:=λ σ H Q=>ta σ H λ x H1=>∃ a C dx fs v,x=.ref a/\H1 a=some (.ins C dx fs)/\Cls K C/\NoAttr K C f/\fs.lookup f=some v/\Q v H1
def sFld (K:PySem.W.Frag) (ta tv:TE) (f:Str):TS:=λ D σ H=>tv σ H λ y H1=>ta σ H1 λ x H2=>∃ a C dx fs,x=.ref a/\H2 a=some (.ins C dx fs)/\Cls K C/\NoAttr K C f/\fs.length < 1000 /\
 D.nx σ (upd H2 a (.ins C dx (qh f y fs)))
def ziw (X:Cx) (op:Operator) (rd:V->V->Hp->VK->Prop):Prop :=
 ∀ (pins:List (Addr × Obj)) (s:Shared) (σ:St) (H:Hp) (x y:V) (u v:Value) (Q:VK),Inv X pins σ H s->RelV x u->RelV y v->rd x y H Q->wpAny (model X.prog X.w) X.A (inplaceOp op u v) (EP X pins σ Q) X.xe s
def zfL (K:PySem.W.Frag) (ta tv:TE) (rd:V->V->Hp->VK->Prop) (f:Str):TS:=λ D σ H=>ta σ H λ x H1=>∃ a C dx fs v,x=.ref a/\H1 a=some (.ins C dx fs)/\Cls K C/\NoAttr K C f/\fs.lookup f=some v /\
 tv σ H1 λ y H2=>rd v y H2 λ z H3=>∃ dx' fs',H3 a=some (.ins C dx' fs')/\fs'.length < 1000/\D.nx σ (upd H3 a (.ins C dx' (qh f z fs')))
section
variable {X:Cx} {o e value:Expr} {f:Str} {pos pos' tpos:Pos} {ta tv:TE}
def zl (he:PE X e ta) (hb:attributeBase e f X.env (eval e X.env)=eval e X.env):PE X (.Attribute e f pos) (tFld X.K ta f):=by
 intro pins s σ H Q I h;refine zgx hb (qz (he pins s σ H _ I h) λ u s1 x H1 I1 rx qq_=>?_);obtain ⟨a,C,dx,fs,v,ex,ea,c,n,l,q⟩:=qq_;subst ex;obtain rfl:u=Value.ref a:=rx;exact Xy I1 ea c n l λ u' s2 I2 ru=>⟨v,H1,I2,ru,q⟩
def jy (ha:PE X o ta) (hv:PE X value tv) (hs:swapsWith value (some (.Attribute o f pos')) pos.line X.env=pure false):PS X (.Assign [.Attribute o f pos'] value pos) (sFld X.K ta tv f):=by
 intro pins s σ H D I h;refine plainObj_wpAny_Assign_Attribute (qz (hv pins s σ H _ I h) λ u s1 y H1 I1 ry q=>qz (ha pins s1 σ H1 _ I1 q) λ ov s2 x H2 I2 rx qq_=>?_) hs;obtain ⟨a,C,dx,fs,ex,ea,c,n,l,q2⟩:=qq_;subst ex;obtain rfl:ov=Value.ref a:=rx;exact JL I2 ea c n l ry λ s3 I3=>⟨σ,_,I3,q2⟩
def zc9 {op:Operator} {rd:V->V->Hp->VK->Prop} (ha:PE X o ta) (hv:PE X value tv) (hop:ziw X op rd):PS X (.AugAssign (.Attribute o f tpos) op value pos) (zfL X.K ta tv rd f):=by
 intro pins s σ H D I h;refine wpAny_AugAssign_AttributeAny (qz (ha pins s σ H _ I h) λ ov s1 x H1 I1 rx qq_=>?_);obtain ⟨a,C,dx,fs,v,ex,ea,c,n,l,q⟩:=qq_;subst ex;obtain rfl:ov=Value.ref a:=rx;refine Xy I1 ea c n l λ u s2 I2 ru=>qz (hv pins s2 σ H1 _ I2 q) λ w3 s3 y H2 I3 ry q3=>thn (hop pins s3 σ H2 v y u w3 _ I3 ru ry q3) λ w4 s4 ⟨z,H3,I4,rz,dx',fs',ea',l',q4⟩=>?_;exact JL I4 ea' c n l' rz λ s5 I5=>⟨σ,_,I5,q4⟩
def ziG:V->V->Hp->VK->Prop:=λ x y H Q=>∃ i j,x=.int i/\y=.int j/\Q (.int (i + j)) H
def zhF:ziw X .Add ziG:=by
 rintro pins s σ H x y u v Q I rx ry ⟨i,j,rfl,rfl,q⟩;obtain ⟨t,rfl⟩:=(show ∃ t,u=Value.int i t from rx);obtain ⟨t',rfl⟩:=(show ∃ t',v=Value.int j t' from ry);exact PyProof.Rows.iadd_int ⟨.int (i + j),H,I.tok _,⟨_,rfl⟩,q⟩
end
section
variable {X:Cx} {pins:List (Addr × Obj)} {σ:St} {H:Hp} {s:Shared} {A:Around} {E:Value->Shared->Prop} {Q:Value->Shared->Prop} {c:Value} {b:Bool}
inductive TyOf (K:PySem.W.Frag) (H:Hp):V->Value->Prop where
 | non:TyOf K H .non (.type "NoneType")
 | bl (x:Bool):TyOf K H (.bl x) (.type "bool")
 | int (i:Int):TyOf K H (.int i) (.type "int")
 | str (x:Str):TyOf K H (.str x) (.type "str")
 | flt (x:UInt64):TyOf K H (.flt x) (.type "float")
 | lst {a:Addr} {xs:List V} (e:H a=some (.lst xs)):TyOf K H (.ref a) (.type "list")
 | frz {a:Addr} {o:Obj} {xs:List V} (e:H a=some (.frz o (.lst xs))):TyOf K H (.ref a) (.type "list")
 | tup {a:Addr} {xs:List V} (e:H a=some (.tup xs)):TyOf K H (.ref a) (.type "tuple")
 | dK {a:Addr} {kvs:List (Key × V)} (e:H a=some (.dK kvs)):TyOf K H (.ref a) (.type "dict")
 | dT {a:Addr} {kvs:List (List Key × V)} (e:H a=some (.dT kvs)):TyOf K H (.ref a) (.type "dict")
 | ins {a C dx:Addr} {fs:List (Str × V)} (e:H a=some (.ins C dx fs)) (cl:Cls K C) (ha:PySem.W.findIn K (.ref C) "__class__"=some (some (.builtin "object.__class__")))
   (hn:PySem.W.specialIn K (.builtin "object.__class__") "__get__"=some (some (.builtin "getset_descriptor.__get__"))) (htk:PySem.W.takesIn K (.builtin "object.__class__")=some true)
   (hm:mroIn K C (.type "object")=some true):TyOf K H (.ref a) (.ref C)
end
end L2
namespace L2
open PySem PySem.Spec PyProof.Rows
structure Room (k:Nat) (A:Around):Prop where
 hd:A.handled=none
 dp:A.depth + 3 * k + 5 < recursionLimit
 un:A.units + 16 * k + 200 < cLine
def Room.mono {j k:Nat} {A:Around} (r:Room k A) (h:j<=k):Room j A:=⟨r.hd,by have:=r.dp;omega,by have:=r.un;omega⟩
def Room.deeper {k:Nat} {A:Around} (r:Room (k + 1) A) (env:Env):Room k (A.deeper env) :=
 ⟨r.hd,by have:=r.dp;show A.depth + 1 + 3 * k + 5 < _;omega,by have:=r.un;show A.units + 3 + 16 * k + 200 < _;omega⟩
def Room.in1 {k:Nat} {A:Around} (r:Room (k + 1) A):Room k A.in1 :=
 ⟨r.hd,by have:=r.dp;show A.depth + 3 * k + 5 < _;omega,by have:=r.un;show A.units + 1 + 16 * k + 200 < _;omega⟩
def zbG {A:Around} {C:Addr} {us:List Value} {kw:List (Str × Value)}:(A.under (.builtin "type.__call__" ⟨.ref C :: us,kw⟩)).depth=A.depth + 1:=by
 first|rfl|simp [Around.under,Code.weight,Code.isCreation,Code.isGuard,Code.isCaller,Code.frames,Code.isFrame,guardIds]
def zbF {A:Around} {C:Addr} {us:List Value} {kw:List (Str × Value)}:(A.under (.builtin "type.__call__" ⟨.ref C :: us,kw⟩)).units=A.units + 1:=by
 first|rfl|simp [Around.under,Code.cUnits,Code.frames,Code.isFrame]
def Room.make {k:Nat} {A:Around} (r:Room (k + 1) A) (C:Addr) (us:List Value) (kw:List (Str × Value)):Room k (A.under (.builtin "type.__call__" ⟨.ref C :: us,kw⟩)) :=
 ⟨r.hd,by have:=r.dp;rw [zbG];omega,by have:=r.un;rw [zbF];omega⟩
def Room.depth {k:Nat} {A:Around} (r:Room k A):A.depth < recursionLimit:=by have:=r.dp;omega
def Room.units {k:Nat} {A:Around} (r:Room k A):A.units + 64 < cLine:=by have:=r.un;omega
def tNil:TA:=λ _ H Q=>Q [] H
def tCons (ta:TE) (tr:TA):TA:=λ σ H Q=>ta σ H λ x H1=>tr σ H1 λ xs H2=>Q (x :: xs) H2
section
variable {X:Cx} {e:Expr} {es:List Expr} {te:TE} {t:TA} {pos:Pos}
def zc:PA X [] tNil:=λ _ _ _ _ H Q I h=>Calls.spliced_nil ⟨[],H,I,.nil,h⟩
def za (ha:PE X e te) (hr:PA X es t) (hs:starEach (e :: es) X.env=(false,eval e X.env) :: starEach es X.env:=by rfl):PA X (e :: es) (tCons te t):=by
 intro pos pins s σ H Q I h;rw [hs];show wpAny _ _ (spliced ((false,eval e X.env) :: backTo pos (starEach es X.env))) _ _ s
 refine Calls.spliced_cons (qz (ha pins s σ H _ I h) λ u s1 x H1 I1 r1 q1=>?_);exact w9 (hr pos pins s1 σ H1 _ I1 q1) λ us s2 xs H2 I2 r2 q2=>⟨x :: xs,H2,I2,.cons r1 r2,q2⟩
def tTup (t:TA):TE:=λ σ H Q=>t σ H λ xs H1=>szl xs (∀ p,H1 p=none->Q (.ref p) (upd H1 p (.tup xs)))
def tLst (t:TA):TE:=λ σ H Q=>t σ H λ xs H1=>szl xs (∀ p,H1 p=none->Q (.ref p) (upd H1 p (.lst xs)))
def qS {x1} (h:PA X es t):PE X (.Tuple es x1 pos) (tTup t):=by
 intro pins s σ H Q I hq;refine wpAny_Tuple_spliced (w9 (h pos pins s σ H _ I hq) λ us s1 xs H1 I1 r q=>let ⟨z,q⟩:=za5 q;⟨by rw [<- r.length];exact z,?_⟩);have hf:H1 s1.heap.objs.size=none:=I1.hok.fresh (ar _);refine ⟨.ref s1.heap.objs.size,upd H1 s1.heap.objs.size (.tup xs),I1.laid (t':=s1.toks) (λ b u e=>ah _ e) (ar _) ?_,rfl,q _ hf⟩;exact ⟨z,us,r,⟨_,aA _ rfl,rfl,_,rfl⟩⟩
def zC (h:PA X es t):PE X (.List es pos) (tLst t):=by
 intro pins s σ H Q I hq;refine wpAny_List_spliced (w9 (h pos pins s σ H _ I hq) λ us s1 xs H1 I1 r q=>let ⟨z,q⟩:=za5 q;⟨by rw [<- r.length];exact z,?_⟩);have hf:H1 s1.heap.objs.size=none:=I1.hok.fresh (ar _);refine ⟨.ref s1.heap.objs.size,upd H1 s1.heap.objs.size (.lst xs),I1.laid (t':=s1.toks) (λ b u e=>ah _ e) (ar _) ?_,rfl,q _ hf⟩;exact ⟨z,us,0,r,aA _ rfl⟩
end
abbrev Sp:=List V->Hp->VK->XK->Prop
abbrev CXT:=List Env->Hp->Shared->XK->Value->Shared->Prop
structure Env0 (P:Program) (w:World) (K:PySem.W.Frag) (mg:Str->Option Value) (base:Heap) (A:Around) (outer:List Env) (s:Shared) (H:Hp):Prop where
 frames:A.frames=some outer
 mod:Mod K mg base
 bs:∀ b o,base.get? b=some o->s.heap.get? b=some o/\H b=none
 bsz:base.objs.size<=s.heap.objs.size
 funs:s.heap.FunFrames base outer
 frf:∀ b∈frs outer,H b=none
 hok:HOk P w H s.heap
 bare:AllBare s.gens
def CE (outer:List Env) (P:Program) (w:World) (H:Hp) (s:Shared) (Q:VK) (u:Value) (s':Shared):Prop :=
 ∃ v H',s'.os=s.os/\AllBare s'.gens/\Un (frs outer) [] H H' s.heap s'.heap/\HOk P w H' s'.heap/\RelV v u/\Q v H'
def CR (CX:CXT) (outer:List Env) (P:Program) (w:World) (H:Hp) (s:Shared) (Q:VK) (E:XK) (r:Result) (s':Shared):Prop :=
 match r with
 | .ok (.ret u)=>CE outer P w H s Q u s'
 | .ok _=>False
 | .error e=>CX outer H s E e s'
structure FnOk (P:Program) (w:World) (K:PySem.W.Frag) (mg:Str->Option Value) (base:Heap) (CX:CXT) (k:Nat) (f:Addr) (fd:FuncData) (ps:List Str) (sp:Sp):Prop where
 len:∀ vs H Q E,sp vs H Q E->vs.length=ps.length
 run:∀ (A:Around) (outer:List Env) (s:Shared) (H:Hp) (args:Args) (us:List Value) (vs:List V) (Q:VK) (E:XK),Room k A->Env0 P w K mg base A outer s H->BindsTo s fd args (ps.zip us)->Vals vs us->sp vs H Q E ->
  codeAny (model P w) A (.call (.ref f) args) (CR CX outer P w H s Q E) s
def FnOk.mono {P:Program} {w:World} {K:PySem.W.Frag} {mg:Str->Option Value} {base:Heap} {CX:CXT} {j k:Nat} {f:Addr} {fd:FuncData} {ps:List Str} {sp:Sp} (F:FnOk P w K mg base CX j f fd ps sp) (h:j<=k) :
  FnOk P w K mg base CX k f fd ps sp:=⟨F.len,λ A outer s H args us vs Q E hr=>F.run A outer s H args us vs Q E (hr.mono h)⟩
def FnOk.imp {P:Program} {w:World} {K:PySem.W.Frag} {mg:Str->Option Value} {base:Heap} {CX:CXT} {k:Nat} {f:Addr} {fd:FuncData} {ps:List Str} {sp sp':Sp} (F:FnOk P w K mg base CX k f fd ps sp)
  (h:∀ vs H Q E,sp' vs H Q E->sp vs H Q E):FnOk P w K mg base CX k f fd ps sp' :=
 ⟨λ vs H Q E q=>F.len vs H Q E (h _ _ _ _ q),λ A outer s H args us vs Q E hr he hb hv hs=>F.run A outer s H args us vs Q E hr he hb hv (h _ _ _ _ hs)⟩
def Env0.make {P:Program} {w:World} {K:PySem.W.Frag} {mg:Str->Option Value} {base:Heap} {A:Around} {outer:List Env} {s:Shared} {H:Hp} (e:Env0 P w K mg base A outer s H) (C:Addr) (us:List Value) (kw:List (Str × Value)) :
  Env0 P w K mg base (A.under (.builtin "type.__call__" ⟨.ref C :: us,kw⟩)) outer s H:=⟨by first|exact e.frames|(simpa [Around.under,Code.envs,Code.isFrame,pushEnvs] using e.frames),e.mod,e.bs,e.bsz,e.funs,e.frf,e.hok,e.bare⟩
def Env0.in1 {P:Program} {w:World} {K:PySem.W.Frag} {mg:Str->Option Value} {base:Heap} {A:Around} {outer:List Env} {s:Shared} {H:Hp} (e:Env0 P w K mg base A outer s H) :
  Env0 P w K mg base A.in1 outer s H:=⟨e.frames,e.mod,e.bs,e.bsz,e.funs,e.frf,e.hok,e.bare⟩
section
variable {X:Cx} {pins:List (Addr × Obj)} {σ:St} {H:Hp} {s s':Shared}
def Inv.env0 (I:Inv X pins σ H s):Env0 X.prog X.w X.K X.mg X.base X.A X.stack s H :=
 ⟨I.ok.frames,I.ok.mod,I.bs,bw I.ok.bsz I.sz,I.stack,I.stkFree,I.hok,I.bare⟩
def Inv.after {Q:VK} {u:Value} (I:Inv X pins σ H s) (h:CE X.stack X.prog X.w H s Q u s'):EP X pins σ Q u s':=by
 obtain ⟨v,H',os,bare,un,hok,r,q⟩:=h;obtain ⟨hh,g,d,t,os'⟩:=s';obtain rfl:os'=s.os:=os;exact ⟨v,H',I.call (h':=hh) (g':=g) (d':=d) (t':=t) (ch:=[]) un hok bare (λ b z=>absurd z (by simp)),r,q⟩
end
def Binds (K:PySem.W.Frag) (fd:FuncData) (ps:List Str) (ds:List Value):Prop :=
 ∀ (s:Shared) (us:List Value),K.In s.heap->(us ++ ds).length=ps.length->BindsTo s fd ⟨us,[]⟩ (ps.zip (us ++ ds))
def Binds.all {K:PySem.W.Frag} {fd:FuncData} {ps:List Str} (h:∀ us:List Value,us.length=ps.length->bindArgs fd ⟨us,[]⟩=pure (ps.zip us)):Binds K fd ps []:=λ s us _ hl=>by
 rw [cn] at hl ⊢;exact .of_eq (h us hl)
def zb6 (CX:CXT) (X:Cx) (E:XK):Prop:=∀ (pins:List (Addr × Obj)) (σ:St) (H:Hp) (s:Shared) (e:Value) (s':Shared),Inv X pins σ H s->CX X.stack H s E e s'->X.xe e s'
section
variable {X:Cx} {CX:CXT} {k:Nat} {f C:Addr} {fd:FuncData} {ps:List Str} {sp:Sp} {dvs:List V} {ds:List Value} {E:XK} {x m:Str} {p pos apos:Pos} {e o:Expr} {es:List Expr} {ta:TE} {t:TA}
theorem zeg {pins:List (Addr × Obj)} {σ:St} {H:Hp} {s:Shared} {Q:VK} {us:List Value} {vs:List V} (F:FnOk X.prog X.w X.K X.mg X.base CX k f fd ps sp) (hr:Room k X.A) (hb:Binds X.K fd ps ds) (hd:Vals dvs ds) (hx:zb6 CX X E)
  (I:Inv X pins σ H s) (r:Vals vs us) (h:sp (vs ++ dvs) H Q E):wpAny (model X.prog X.w) X.A (call (.ref f) us) (EP X pins σ Q) X.xe s:=by
 have r2:Vals (vs ++ dvs) (us ++ ds):=r.append hd;have hl:(us ++ ds).length=ps.length:=by rw [<- r2.length];exact F.len _ _ _ _ h
 refine dR (cx (F.run X.A X.stack s H ⟨us,[]⟩ (us ++ ds) (vs ++ dvs) Q E hr I.env0 (hb s us I.kIn hl) r2 h) λ r s' hq=>?_);cases r with
 | error e=>exact hx pins σ H s e s' I hq
 | ok fl =>
  cases fl with
  | ret u=>exact I.after hq
  | next=>exact False.elim hq
  | brk=>exact False.elim hq
  | cont=>exact False.elim hq
structure Mk (K:PySem.W.Frag) (C f:Addr):Prop where
 makes:PySem.W.makesIn K C=true
 init:PySem.W.findIn K (.ref C) "__init__"=some (some (.ref f))
 fn:PySem.W.isFn K (.ref f)=true
 kp:PySem.W.keepIn K (.ref C)=true
theorem zef {pins:List (Addr × Obj)} {σ:St} {H:Hp} {s:Shared} {Q:VK} {us:List Value} {vs:List V} (M:Mk X.K C f) (F:FnOk X.prog X.w X.K X.mg X.base CX k f fd ps sp) (hr:Room (k + 1) X.A) (hb:Binds X.K fd ps ds) (hd:Vals dvs ds)
  (hx:zb6 CX X E) (I:Inv X pins σ H s) (r:Vals vs us)
  (h:∀ x dx,H x=none->H dx=none->dx≠x->sp (.ref x :: (vs ++ dvs)) (upd (upd H dx (.own x)) x (.ins C dx [])) (λ v H2=>v=.non/\Q (.ref x) H2) E) :
  wpAny (model X.prog X.w) X.A (call (.ref C) us) (EP X pins σ Q) X.xe s:=by
 have hq:=h (s.heap.objs.size + 1) s.heap.objs.size (I.hok.fresh (cC _)) (I.hok.fresh (ar _)) (aF (b9 _));have I2:=Inv.made (C:=C) I;have r2:Vals (V.ref (s.heap.objs.size + 1) :: (vs ++ dvs)) (Value.ref (s.heap.objs.size + 1) :: (us ++ ds)):=.cons rfl (r.append hd);have hl:(Value.ref (s.heap.objs.size + 1) :: us ++ ds).length=ps.length:=by
  have e:=r2.length;rw [F.len _ _ _ _ hq] at e;exact e.symm
 refine dR (zaD (f:=f) I.kIn M.makes M.init (bB.mp M.fn) (cx (F.run _ X.stack _ _ ⟨Value.ref (s.heap.objs.size + 1) :: us,[]⟩ (Value.ref (s.heap.objs.size + 1) :: (us ++ ds)) _ _ E (hr.make C us [])
  (I2.env0.make C us []) (hb _ (Value.ref (s.heap.objs.size + 1) :: us) I2.kIn hl) r2 hq) λ r s' hq'=>?_))
 cases r with
 | error e=>exact hx pins σ _ _ e s' I2 hq'
 | ok fl =>
  cases fl with
  | ret u =>
   obtain ⟨v,H',I3,rv,ev,q3⟩:=I2.after hq';subst ev;exact ⟨rv,⟨V.ref (s.heap.objs.size + 1),H',I3,rfl,q3⟩⟩
  | next=>exact False.elim hq'
  | brk=>exact False.elim hq'
  | cont=>exact False.elim hq'
end
def PK (X:Cx) (kws:List Keyword) (t:TA):Prop :=
 ∀ (pos:Pos) (pins:List (Addr × Obj)) (s:Shared) (σ:St) (H:Hp) (Q:List V->Hp->Prop),Inv X pins σ H s->t σ H Q->wpAny (model X.prog X.w) X.A (evalAll ((backToKw pos (keywordEach kws X.env)).map (·.2))) (AP X pins σ Q) X.xe s
section
variable {X:Cx} {CX:CXT} {k:Nat} {f C:Addr} {fd:FuncData} {ps ks:List Str} {sp:Sp} {E:XK} {x m:Str} {p pos apos kpos:Pos} {e o:Expr} {es:List Expr} {kws:List Keyword} {te ta:TE} {t tk:TA} {nm:Option Str}
variable {g:List Value->List Value->List Value} {gV:List V->List V->List V}
end
structure FnScope (N P:List Str) (sc:Scope):Prop where
 kind:sc.kind=.function
 co:sc.isCoroutine=false
 gen:sc.isGenerator=false
 nd:N.Nodup
 pre:N.take P.length=P
 par:∀ x∈P,sc.names.lookup x=some .local\/sc.names.lookup x=some .cell
 nofree:∀ y∈sc.names,y.2≠.free
theorem WH {kindOf:Str->Option NameKind} {x:Str}:∀ {binds:List (Str × Value)} {m:Str->Option Value},(∀ v,(x,v) ∉ binds)->bindL kindOf binds m x=m x
 | [],_,_=>rfl
 | (n,v) :: r,m,h=>by
  unfold bindL;rw [WH λ w hw=>h w (aG _ hw)]
  split
  ·have:x≠n:=by rintro rfl;exact h v bK
   simp [this]
  ·rfl
theorem WK {kindOf:Str->Option NameKind} {x:Str}:∀ {binds:List (Str × Value)} {m:Str->Option Value},(∀ v,(x,v) ∉ binds)->bindC kindOf binds m x=m x
 | [],_,_=>rfl
 | (n,v) :: r,m,h=>by
  unfold bindC;rw [WK λ w hw=>h w (aG _ hw)]
  split
  ·rfl
  ·have:x≠n:=by rintro rfl;exact h v bK
   simp [this]
theorem WJ {kindOf:Str->Option NameKind} {x:Str} {v:Value}:∀ {P:List Str} {vs:List Value} {i:Nat} {m:Str->Option Value},P.Nodup->P[i]?=some x->vs[i]?=some v->kindOf x=some .local ->
  bindL kindOf (P.zip vs) m x=some v
 | [],_,_,_,_,h,_,_=>by simp at h
 | _ :: _,[],_,_,_,_,h,_=>by simp at h
 | p :: P,w :: vs,0,m,nd,h1,h2,hk=>by
  simp at h1 h2;subst h1;subst h2;show bindL kindOf ((p,w) :: P.zip vs) m p=_
  unfold bindL;rw [WH λ v hv=>(di.mp nd).1 (of_mem_zip hv).1,aq hk];simp
 | p :: P,w :: vs,i + 1,m,nd,h1,h2,hk=>by
  show bindL kindOf ((p,w) :: P.zip vs) m x=_
  unfold bindL;exact WJ (i:=i) (di.mp nd).2 (by simpa using h1) (by simpa using h2) hk
theorem WL {kindOf:Str->Option NameKind} {x:Str} {v:Value}:∀ {P:List Str} {vs:List Value} {i:Nat} {m:Str->Option Value},P.Nodup->P[i]?=some x->vs[i]?=some v->kindOf x≠some .local ->
  bindC kindOf (P.zip vs) m x=some v
 | [],_,_,_,_,h,_,_=>by simp at h
 | _ :: _,[],_,_,_,_,h,_=>by simp at h
 | p :: P,w :: vs,0,m,nd,h1,h2,hk=>by
  simp at h1 h2;subst h1;subst h2;show bindC kindOf ((p,w) :: P.zip vs) m p=_
  unfold bindC;rw [WK λ v hv=>(di.mp nd).1 (of_mem_zip hv).1,am hk];simp
 | p :: P,w :: vs,i + 1,m,nd,h1,h2,hk=>by
  show bindC kindOf ((p,w) :: P.zip vs) m x=_
  unfold bindC;exact WL (i:=i) (di.mp nd).2 (by simpa using h1) (by simpa using h2) hk
noncomputable def start (N:List Str) (vs:List V):St:=vs.map some ++ List.replicate (N.length - vs.length) none
noncomputable def Jc (CX:CXT) (P:Program) (w:World) (K:PySem.W.Frag) (mg:Str->Option Value) (base:Heap) (N:List Str) (qual:Str) (scope:Scope) (f:Addr) (cd:Value) (A:Around) (outer:List Env) (s:Shared) (H:Hp) (E:XK):Cx where
 prog:=P
 w:=w
 K:=K
 mg:=mg
 base:=base
 A:=A.deeper (envOfC qual scope s.heap.objs.size f cd)
 N:=N
 s₀:=s
 H₀:=H
 env:=envOfC qual scope s.heap.objs.size f cd
 outer:=outer
 stack:=envOfC qual scope s.heap.objs.size f cd :: outer
 ex:=[]
 calm:=true
 fn:=λ _=>true
 pn:=[]
 xe:=λ e s'=>wpAny (model P w) (A.deeper (envOfC qual scope s.heap.objs.size f cd)) (leaving (envOfC qual scope s.heap.objs.size f cd) e) (λ _ s''=>CX outer H s E e s'') (λ e' s''=>CX outer H s E e' s'') s'
def zaS {sc:Scope} {n:Nat} {x:Str} (h:sc.names.lookup x=some .cell):∃ c,(cellsFrom n sc.names []).lookup x=some c:=by
 have q:=eI sc.names n [] (.inl h);exact Option.isSome_iff_exists.mp q
theorem zdp {CX:CXT} {P:Program} {w:World} {K:PySem.W.Frag} {mg:Str->Option Value} {base:Heap} {N ps:List Str} {qual:Str} {scope:Scope} {f:Addr} {cd:Value} {A:Around} {outer:List Env} {s s1:Shared} {H:Hp} {E:XK} {us:List Value} {vs:List V}
  (S:FnScope N ps scope) (hd:A.handled=none) (e0:Env0 P w K mg base A outer s H) (hl:vs.length=ps.length) (r:Vals vs us)
  (x:InCallC s s.heap.objs.size (bindL (envOfC qual scope s.heap.objs.size f cd).kindOf (ps.zip us) λ _=>none) (cellsFrom (s.heap.objs.size + 1) scope.names []) (bindC (envOfC qual scope s.heap.objs.size f cd).kindOf (ps.zip us) λ _=>none) s1) :
  Inv (Jc CX P w K mg base N qual scope f cd A outer s H E) [] (start N vs) H s1:=by
 have hpl:ps.length<=N.length:=by have:=bP List.length S.pre;rw [aT] at this;omega
 obtain ⟨h1,tk,rfl,hk⟩:=x.done;have noA:∀ b:Addr,b ∉ (Jc CX P w K mg base N qual scope f cd A outer s H E).ex:=λ b z=>absurd (show b∈([]:List Addr) from z) (by simp);refine ⟨⟨e0.mod,S.kind,rfl,rfl,ar _,λ y z c h1 h2=>?_,λ y hy=>?_,λ y c _ h=>?_,λ _=>hd,Around.frames_deeper e0.frames,.inr ⟨rfl,rfl⟩,λ b z=>absurd z (noA b),e0.bs,e0.bsz,λ b _ _=>noA b,λ b z=>absurd z (noA b),e0.funs,e0.frf⟩,
  rfl,e0.bare,Un.kept hk,⟨_,x.toInCall.ns,λ i y v h1 h2 h3=>?_⟩,λ y c h=>⟨_,x.cell y c h⟩,e0.hok.fresh (ar _),λ y c h=>?_,λ p hp=>absurd (show p∈([]:List (Addr × Obj)) from hp) (by simp),e0.hok.kept hk,?_⟩
 ·exact name_of_addr x.apart (bD h1) (bD h2)
 ·have hy:scope.names.lookup y=some .cell\/scope.names.lookup y=some .free:=hy;rcases hy with hy|hy
  ·exact zaS hy
  ·exact absurd rfl (S.nofree _ (bD hy))
 ·exact cc (x.above y c (bD h))
 ·have hi:i < vs.length:=by
   unfold start at h2;by_cases hi:i < vs.length
   ·exact hi
   ·rw [aM (by simpa using hi)] at h2;rw [eG] at h2
    split at h2 <;> cases h2
  have ha:vs[i]?=some v:=by
   unfold start at h2;rw [aQ (by simpa using hi),aj] at h2;cases e:vs[i]? with
   | none=>rw [e] at h2;cases h2
   | some a=>rw [e] at h2;cases h2;rfl
  obtain ⟨u,hu,rv⟩:=r.get ha;have hp:ps[i]?=some y:=by
   rw [<- S.pre,List.getElem?_take_of_lt (by omega)];exact h1
  have ndP:ps.Nodup:=by rw [<- S.pre];exact S.nd.sublist (List.take_sublist _ _)
  refine ⟨u,rv,?_⟩;rcases S.par y (af hp) with k|k
  ·exact .inl ⟨k,WJ ndP hp hu k⟩
  ·obtain ⟨c,e⟩:=zaS (n:=s.heap.objs.size + 1) k;refine .inr ⟨.inl k,c,e,?_⟩;have q:=x.cell y c e;rw [WL ndP hp hu (by show scope.names.lookup y≠_;rw [k];decide)] at q;exact q
 ·exact e0.hok.fresh (cc (x.above y c (bD h)))
 ·unfold start;show _=N.length
  rw [aP,ai,bb];omega
theorem ze6 {CX:CXT} {P:Program} {w:World} {K:PySem.W.Frag} {mg:Str->Option Value} {base:Heap} {k:Nat} {f:Addr} {name qual:Str} {params:Arguments} {body:List Stmt} {scope:Scope} {dV kV doc pm cdv ct oc:Value} {an od:Option Addr}
  {osl:Array (Option Value)} {N ps:List Str} {sp:Sp} (lk:K.lookup f=some ⟨oc,od,.func (PySem.W.fnOf name qual params body scope dV kV doc pm an cdv ct),osl⟩) (hcd:PySem.W.codeIn K cdv qual=true) (S:FnScope N ps scope)
  (len:∀ vs H Q E,sp vs H Q E->vs.length=ps.length)
  (hbody:∀ (A:Around) (outer:List Env) (s:Shared) (H:Hp) (vs:List V) (Q:VK) (E:XK),Room k (A.deeper (envOfC qual scope s.heap.objs.size f cdv))->sp vs H Q E ->
   ∃ t,PSs (Jc CX P w K mg base N qual scope f cdv A outer s H E) body t/\t { nx:=λ _ H'=>Q .non H',rt:=Q } (start N vs) H) :
  FnOk P w K mg base CX (k + 1) f (PySem.W.fnOf name qual params body scope dV kV doc pm an cdv ct) ps sp:=by
 refine ⟨len,λ A outer s H args us vs Q E hr e0 hb r hsp=>?_⟩;have hl:=len _ _ _ _ hsp;have KX:K.In s.heap:=e0.mod.kin.keeps λ b o e=>(e0.bs b o e).1;have lim:s.heap.NoLimit:=e0.mod.nolimit.keeps λ b o e=>(e0.bs b o e).1;have hkind:∀ y∈ps.zip us,scope.names.lookup y.1=some .local\/(scope.names.lookup y.1=some .cell/\((cellsFrom (s.heap.objs.size + 1) scope.names []).lookup y.1).isSome=true):=λ ⟨n,v⟩ hy=>by
  rcases S.par n (of_mem_zip hy).1 with q|q
  ·exact .inl q
  ·exact .inr ⟨q,eI _ _ _ (.inl q)⟩
 refine codeAny_call_function hr.depth (KX _ _ lk) rfl S.co S.gen rfl (PySem.W.codeRec_of KX hcd) (hb _ _ _ _ ?_);refine wpAny_newFunctionEnv_cells S.kind hkind λ env he s1 x=>?_;subst he;refine ⟨lim.keeps x.toInCall.keep,codeAny_func ?_⟩;obtain ⟨t,ht,hq⟩:=hbody A outer s H vs Q E (hr.deeper _) hsp;have I:Inv (Jc CX P w K mg base N qual scope f cdv A outer s H E) [] (start N vs) H s1:=zdp S hr.hd e0 hl r x;refine aO (ht [] s1 (start N vs) H _ I hq) (λ fl s' hs=>?_) λ e s' hs=>hs;have fin:∀ {σ':St} {H':Hp} {v:V} {u:Value},Inv (Jc CX P w K mg base N qual scope f cdv A outer s H E) [] σ' H' s'->RelV v u->Q v H'->CE outer P w H s Q u s' :=
  λ {σ' H' v u} J rv q=>⟨v,H',J.os,J.bare,J.base,J.hok,rv,q⟩
 cases fl with
 | ret u =>
  obtain ⟨v,σ',H',J,rv,q⟩:=hs;exact fin J rv q
 | next =>
  obtain ⟨σ',H',J,q⟩:=hs;exact fin (v:=V.non) (u:=Value.none) J rfl q
 | brk =>
  obtain ⟨_,_,_,q⟩:=hs;exact False.elim q
 | cont =>
  obtain ⟨_,_,_,q⟩:=hs;exact False.elim q
end L2
namespace L2
open PySem PySem.Spec PyProof.Rows
section
variable {X:Cx} {x:Str} {p pos:Pos} {e:Expr} {es:List Expr} {t:TA} {id T:String} {r:List V->Hp->VK->Prop}
def tCB (r:List V->Hp->VK->Prop) (t:TA):TE:=λ σ H Q=>t σ H λ vs H1=>r vs H1 Q
def zew (hc:CallR X (.builtin id) r) (hg:Gl X x) (hm:X.mg x=none) (hv:bootBuiltins x=some (.builtin id)) (ha:PA X (e :: es) t) (hn:x≠"__name__":=by decide) (hdb:(x == ("__debug__":Str))=false:=by decide)
  (he:starEach (e :: es) X.env=(false,eval e X.env) :: starEach es X.env:=by rfl) (hpl:(backTo pos (starEach es X.env)).any (·.1)=false:=by rfl):PE X (.Call (.Name x p) (e :: es) [] pos) (tCB r t):=by
 intro pins s σ H Q I h;refine bA (wR I hg hm hv ?_ hn hdb);exact PyProof.Rows.callWith_builtin1 (w9 (ha pos pins s σ H _ I h) λ us s1 vs H1 I1 r1 q1=>hc pins s1 σ H1 vs us Q I1 r1 q1) he hpl
def zdd (hc:CallR X (.type T) r) (hg:Gl X x) (hm:X.mg x=none) (hv:bootBuiltins x=some (.type T)) (ha:PA X (e :: es) t) (hn:x≠"__name__":=by decide) (hdb:(x == ("__debug__":Str))=false:=by decide)
  (he:starEach (e :: es) X.env=(false,eval e X.env) :: starEach es X.env:=by rfl) (hpl:(backTo pos (starEach es X.env)).any (·.1)=false:=by rfl):PE X (.Call (.Name x p) (e :: es) [] pos) (tCB r t):=by
 intro pins s σ H Q I h;refine bA (wR I hg hm hv ?_ hn hdb);exact ba (w9 (ha pos pins s σ H _ I h) λ us s1 vs H1 I1 r1 q1=>hc pins s1 σ H1 vs us Q I1 r1 q1) he hpl
end
end L2
namespace HT
open PySem PyProof.Rows
section
open PySem.SeqAt
open PySem.AutoSeq1 (wpAny_loadPart')
open PySem.MeetsSeq PySem.MeetsSeq2 PySem.MeetsSeq3
end
section
variable {prog:Program} {w:World} {A:Around} {E:Value->Shared->Prop} {s:Shared}
noncomputable def sIx (n d:Nat):Option Int->Nat
 | none=>d
 | some v=>if v < 0 then (v + (n:Int)).toNat else min v.toNat n
def sIx_none (n d:Nat):sIx n d none=d:=rfl
def sIx_nat (n d k:Nat):sIx n d (some (k:Int))=min k n:=by
 show (if (k:Int) < 0 then ((k:Int) + (n:Int)).toNat else min (k:Int).toNat n)=min k n
 rw [am (by omega),aK]
end
end HT
namespace L2
open PySem PySem.Spec PyProof.Rows
abbrev TO:=St->Hp->(Option Int->Hp->Prop)->Prop
def PO (X:Cx) (e:Option Expr) (t:TO):Prop :=
 ∀ (pins:List (Addr × Obj)) (s:Shared) (σ:St) (H:Hp) (Q:Option Int->Hp->Prop),Inv X pins σ H s->t σ H Q ->
  wpAny (model X.prog X.w) X.A (evalPart e X.env) (λ u s'=>∃ o H',Inv X pins σ H' s'/\IsPart u o/\Q o H') X.xe s
def tNoPart:TO:=λ _ H Q=>Q none H
def tPart (t:TE):TO:=λ σ H Q=>t σ H λ x H1=>iq x λ i=>Q (some i) H1
theorem zbN {ns:List Int}:∀ {us:List Value},Vals (ns.map V.int) us->IntsAre us ns:=by
 induction ns with
 | nil=>intro us r;rw [map_nil] at r;cases r;exact .nil
 | cons n ns ih =>
  intro us r;rw [bL] at r;cases r with
  | cons r1 r2 =>
   obtain ⟨t,e⟩:=r1;subst e;exact .cons n t (ih r2)
section
variable {X:Cx} {e:Expr} {te:TE} {lo hi:Option Expr} {tl th:TO} {pos p2:Pos}
def Vi:PO X none tNoPart:=by
 intro pins s σ H Q I h;rw [evalPart_none];exact aw ⟨none,H,I,.none,h⟩
def Vh (h:PE X e te):PO X (some e) (tPart te):=by
 intro pins s σ H Q I hw;rw [evalPart_some];refine qz (h pins s σ H _ I hw) λ u s1 x H1 I1 r1 q1=>?_;obtain ⟨i,rfl,q⟩:=ZZ q1;obtain ⟨t,rfl⟩:=r1;exact ⟨some i,H1,I1,.int i t,q⟩
def SlR (X:Cx) (r:V->Option Int->Option Int->Hp->VK->Prop):Prop :=
 ∀ (pins:List (Addr × Obj)) (s:Shared) (σ:St) (H:Hp) (x:V) (v vl vu:Value) (lo hi:Option Int) (sl:Addr) (Q:VK),Inv X pins σ H s->RelV x v->s.heap.IsSliceOf sl vl vu .none->IsPart vl lo->IsPart vu hi->r x lo hi H Q ->
  ∃ T id,typeLookup (.type T) "__getitem__"=pure (some (.builtin id))/\s.TypeIs v T/\wpAny (model X.prog X.w) X.A (getItem v (.ref sl)) (EP X pins σ Q) X.xe s
def SlR.or {r r':V->Option Int->Option Int->Hp->VK->Prop} (h:SlR X r) (h':SlR X r'):SlR X (λ x lo hi H Q=>r x lo hi H Q\/r' x lo hi H Q):=by
 intro pins s σ H x v vl vu lo hi sl Q I rx hs pl pu q;rcases q with q|q
 ·exact h pins s σ H x v vl vu lo hi sl Q I rx hs pl pu q
 ·exact h' pins s σ H x v vl vu lo hi sl Q I rx hs pl pu q
def tSl (r:V->Option Int->Option Int->Hp->VK->Prop) (te:TE) (tl th:TO):TE:=λ σ H Q=>te σ H λ x H1=>tl σ H1 λ l H2=>th σ H2 λ u H3=>r x l u H3 Q
def Xd {r:V->Option Int->Option Int->Hp->VK->Prop} (hr:SlR X r) (he:PE X e te) (hl:PO X lo tl) (hu:PO X hi th):PE X (.Subscript e (.Slice lo hi none p2) pos) (tSl r te tl th):=by
 intro pins s σ H Q I h;refine Subscript_ (qz (he pins s σ H _ I h) λ v s1 x H1 I1 r1 q1=>?_);refine wpAny_Slice (thn (hl pins s1 σ H1 _ I1 q1) λ vl s2 ⟨l,H2,I2,pl,q2⟩=>thn (hu pins s2 σ H2 _ I2 q2) λ vu s3 ⟨u,H3,I3,pu,q3⟩=>?_);rw [evalPart_none];refine aw ?_;have I4:Inv X pins σ H3 { s3 with heap:=s3.heap.push { cls:=.type "slice",data:=.fields #[vl,vu,.none] } }:=I3.kept (t':=s3.toks) λ b ob q=>ah _ q;obtain ⟨T,id,hT,ht,hg⟩:=hr pins { s3 with heap:=s3.heap.push { cls:=.type "slice",data:=.fields #[vl,vu,.none] } } σ H3 x v vl vu l u s3.heap.objs.size Q I4 r1 (Heap.IsSliceOf.new ..) pl pu q3;show wpAny (model X.prog X.w) X.A (subscriptTail e (.Slice lo hi none p2) v (.ref s3.heap.objs.size)) (EP X pins σ Q) X.xe { s3 with heap:=s3.heap.push { cls:=.type "slice",data:=.fields #[vl,vu,.none] } }
 exact tail_any (ops:=[.ref s3.heap.objs.size,v]) ht hT hg (by with_unfolding_all rfl)
noncomputable def XD (xs:List V) (lo hi:Option Int):List V:=(xs.drop (HT.sIx xs.length 0 lo)).take (HT.sIx xs.length xs.length hi - HT.sIx xs.length 0 lo)
def zaO (xs:List V) (lo hi:Option Int):(XD xs lo hi).length<=xs.length:=by
 unfold XD;rw [aT,dH];omega
end
end L2
namespace L2
open PySem PySem.Spec PyProof.Rows
noncomputable def ixN (n:Nat) (i:Int):Option Nat:=if 0<=i then (if i < n then some i.toNat else none) else if -(n:Int)<=i then some (i + n).toNat else none
noncomputable def atI {α:Type} (xs:List α) (i:Int):Option α:=(ixN xs.length i).bind λ j=>xs[j]?
def zcl {n:Nat} {i:Int} {j:Nat} (h:ixN n i=some j):seqIndex? i n=some j/\j < n/\-(n:Int)<=i/\i < n:=by
 unfold ixN at h;by_cases h0:0<=i
 ·rw [aq h0] at h;by_cases h1:i < n
  ·rw [aq h1] at h;have e:i.toNat=j:=aI h;exact ⟨by rw [eD h0 h1,e],by omega,by omega,h1⟩
  ·rw [am h1] at h;cases h
 ·rw [am h0] at h;by_cases h1:-(n:Int)<=i
  ·rw [aq h1] at h;have e:(i + n).toNat=j:=aI h;exact ⟨by rw [seqIndex_neg (by omega) h1,e],by omega,h1,by omega⟩
  ·rw [am h1] at h;cases h
theorem Jt {α:Type} {xs:List α} {i:Int} {v:α} (h:atI xs i=some v):∃ j,seqIndex? i xs.length=some j/\xs[j]?=some v/\j < xs.length/\-(xs.length:Int)<=i/\i < xs.length:=by
 unfold atI at h;cases e:ixN xs.length i with
 | none=>rw [e] at h;cases h
 | some j =>
  rw [e] at h;obtain ⟨h1,h2,h3,h4⟩:=zcl e;exact ⟨j,h1,h,h2,h3,h4⟩
def zy {α:Type} {xs:List α} {j:Nat} {v:α} (h:xs[j]?=some v):atI xs (j:Int)=some v:=by
 have hj:j < xs.length:=(aa.mp h).1;have e:ixN xs.length (j:Int)=some j:=by
  unfold ixN;rw [aq (by omega),aq (by omega)];simp
 unfold atI;rw [e];exact h
def zcJ (b:Expr):Prop:=∀ o i,subscripted b false o i=operate [o,i] (getItem o i)
def IxR (X:Cx) (r:R2):Prop :=
 ∀ (value slice:Expr) (pins:List (Addr × Obj)) (s:Shared) (σ:St) (H:Hp) (x y:V) (v u:Value) (Q:VK),Inv X pins σ H s->RelV x v->RelV y u->r x y H Q ->
  subscripted slice false v u=operate [v,u] (getItem v u)->wpAny (model X.prog X.w) X.A (subscriptTail value slice v u) (EP X pins σ Q) X.xe s
def MtR (X:Cx) (id:String) (r:V->List V->Hp->VK->Prop):Prop :=
 ∀ (pins:List (Addr × Obj)) (s:Shared) (σ:St) (H:Hp) (x:V) (xs:List V) (v:Value) (us:List Value) (Q:VK),Inv X pins σ H s->RelV x v->Vals xs us->r x xs H Q ->
  wpAny (model X.prog X.w) X.A (call (.builtin id) (v :: us)) (EP X pins σ Q) X.xe s
section
variable {X:Cx} {a b:Expr} {ta tb:TE} {pos:Pos}
def IxR.or {r r':R2} (h:IxR X r) (h':IxR X r'):IxR X (λ x y H Q=>r x y H Q\/r' x y H Q):=by
 intro value slice pins s σ H x y v u Q I rx ry q hs;rcases q with q|q
 ·exact h value slice pins s σ H x y v u Q I rx ry q hs
 ·exact h' value slice pins s σ H x y v u Q I rx ry q hs
def MtR.or {id:String} {r r':V->List V->Hp->VK->Prop} (h:MtR X id r) (h':MtR X id r'):MtR X id (λ x xs H Q=>r x xs H Q\/r' x xs H Q):=by
 intro pins s σ H x xs v us Q I rx rs q;rcases q with q|q
 ·exact h pins s σ H x xs v us Q I rx rs q
 ·exact h' pins s σ H x xs v us Q I rx rs q
def zh8 {r:R2} (hr:IxR X r) (ha:PE X a ta) (hb:PE X b tb) (hs:zcJ b):PE X (.Subscript a b pos) (tOp r ta tb):=by
 intro pins s σ H Q I h;exact Subscript_ (zhN ha hb I h λ v u s2 x y H2 I2 rx ry q=>hr a b pins s2 σ H2 x y v u Q I2 rx ry q (hs _ _))
def zh4 (K:PySem.W.Frag):R2:=λ x y H Q=>∃ p xs i v,x=.ref p/\y=.int i/\SqL K H p xs/\atI xs i=some v/\Q v H
def zh2 (K:PySem.W.Frag):R2:=λ x y H Q=>∃ p xs i v,x=.ref p/\y=.int i/\SqT K H p xs/\atI xs i=some v/\Q v H
def zh3:R2:=λ x y H Q=>∃ z i c,x=.str z/\y=.int i/\z.length<=sizeLine/\atI z.cps.toList i=some c/\Q (.str ⟨#[c]⟩) H
def ix_list:IxR X (zh4 X.K):=by
 intro value slice pins s σ H x y v u Q I rx ry h hs;obtain ⟨p,xs,i,z,rfl,rfl,hq,he,q⟩:=h;cases rx;obtain ⟨t,rfl⟩:=ry;obtain ⟨its,r,pl,hz⟩:=I.list hq;obtain ⟨j,h1,h2,h3,h4,h5⟩:=Jt he;obtain ⟨w,ew,rw'⟩:=r.get h2;have hl:=r.length;have hn:=Zx;have fin:EP X pins σ Q w s:=⟨z,H,I,rw',q⟩;by_cases h0:0<=i
 ·have hj:i.toNat=j:=by
   rw [eD h0 h5] at h1;exact aI h1
  exact item_listR pl.isList h0 (by omega) (by rw [hj];simpa using ew) fin hs
 ·have hj:(i + (its.toArray.size:Int)).toNat=j:=by
   rw [seqIndex_neg (by omega) h4] at h1;rw [ao,<- hl];exact aI h1
  exact subscriptTail_builtinR (x:=w) pl.isList.typeIs slot_list_getitem.lookup
   (wpAny_getItem_list_neg (Q:=λ r s'=>r=w/\EP X pins σ Q r s') pl.isList (by omega) (by rw [ao] <;> omega) (by omega) (by rw [hj];simpa using ew) ⟨rfl,fin⟩) hs
def ix_tup:IxR X (zh2 X.K):=by
 intro value slice pins s σ H x y v u Q I rx ry h hs;obtain ⟨p,xs,i,z,rfl,rfl,hq,he,q⟩:=h;cases rx;obtain ⟨t,rfl⟩:=ry;obtain ⟨its,r,pl,hz⟩:=I.tuple hq;obtain ⟨j,h1,h2,h3,h4,h5⟩:=Jt he;obtain ⟨w,ew,rw'⟩:=r.get h2;have hl:=r.length;have hn:=Zx;have fin:EP X pins σ Q w s:=⟨z,H,I,rw',q⟩;exact subscriptTail_builtinR (x:=w) pl.typeIs slot_tuple_getitem.lookup
  (getItem_tuple (j:=j) (Q:=λ r s'=>r=w/\EP X pins σ Q r s') pl (by omega) (by omega) (by rw [ao,<- hl];exact h1) (by simpa using ew) ⟨rfl,fin⟩) hs
def zhB:IxR X zh3:=by
 intro value slice pins s σ H x y v u Q I rx ry h hs;obtain ⟨z,i,c,rfl,rfl,hz,he,q⟩:=h;obtain ⟨t,rfl⟩:=rx;obtain ⟨t',rfl⟩:=ry;obtain ⟨j,h1,h2,h3,h4,h5⟩:=Jt he;have hl:z.cps.toList.length=z.length:=by simp [Str.length]
 rw [hl] at h1 h4 h5;have hn:=Zx;exact tail_any (typeIs_str s z t) slot_str_getitem.lookup (getItem_str (c:=c) (by
  have e1:decide (i < -(2 ^ 63:Int))=false:=aH (by omega);have e2:decide (i ≥ 2 ^ 63)=false:=aH (by omega);rw [e1,e2,Bool.or_false]) (by rw [h1];simpa using h2) ⟨.str ⟨#[c]⟩,H,I.tok _,⟨_,rfl⟩,q⟩) hs
def rIx (K:PySem.W.Frag):R2:=λ x y H Q=>zh4 K x y H Q\/zh2 K x y H Q\/zh3 x y H Q
def zhC:IxR X (rIx X.K):=ix_list.or (ix_tup.or zhB)
def zbE (its:List Value) (n j:Nat) (u:Value):Obj.mapSeq (·.setIfInBounds j u) { cls:=.type "list",data:=.seq its.toArray n }={ cls:=.type "list",data:=.seq (its.set j u).toArray n }:=by
 simp [Obj.mapSeq]
def Inv.lst {pins:List (Addr × Obj)} {σ:St} {H:Hp} {s:Shared} {p:Addr} {xs:List V} (I:Inv X pins σ H s) (h:H p=some (.lst xs)) :
  ∃ (its:List Value) (n:Nat),Vals xs its/\s.heap.get? p=some { cls:=.type "list",data:=.seq its.toArray n }/\xs.length<=sizeLine:=by
 obtain ⟨z,its,n,r,e⟩:=I.hok p _ h;exact ⟨its,n,r,e,z⟩
def Inv.lstUpd {pins:List (Addr × Obj)} {σ:St} {H:Hp} {s:Shared} {p:Addr} {xs ys:List V} {its its':List Value} {n n':Nat} {f:Obj->Obj} (I:Inv X pins σ H s) (h:H p=some (.lst xs))
  (ho:s.heap.get? p=some { cls:=.type "list",data:=.seq its.toArray n }) (hf:f { cls:=.type "list",data:=.seq its.toArray n }={ cls:=.type "list",data:=.seq its'.toArray n' }) (r:Vals ys its') (hz:ys.length<=sizeLine) (t:Nat) :
  Inv X pins σ (upd H p (.lst ys)) { s with heap:=s.heap.update p f,toks:=t }:=by
 have e:(s.heap.update p f).get? p=some { cls:=.type "list",data:=.seq its'.toArray n' }:=by
  rw [bS f ho (by rw [hf] <;> rfl),hf]
 refine I.write (x:=p) (e:=p) (by rw [h];trivial) (.inl rfl) (λ b u hb q=>(bd _ _ (aZ hb)).trans q) ⟨_,e⟩ ?_;exact ⟨hz,its',n',r,e⟩
def zgJ:V->V->V->Hp->(Hp->Prop)->Prop:=λ o i v H Q=>∃ p xs k j,o=.ref p/\i=.int k/\H p=some (.lst xs)/\ixN xs.length k=some j/\Q (upd H p (.lst (xs.set j v)))
def x8:zhP X zgJ:=by
 intro pins s σ H o i v ov iv u Q I ro ri rv h;obtain ⟨p,xs,k,j,rfl,rfl,hp,hj,q⟩:=h;cases ro;obtain ⟨t,rfl⟩:=ri;obtain ⟨its,n,r,ho,hz⟩:=I.lst hp;obtain ⟨h1,h2,h3,h4⟩:=zcl hj;have hl:=r.length;have hn:=Zx;have I':Inv X pins σ (upd H p (.lst (xs.set j v))) { s with heap:=s.heap.update p (Obj.mapSeq (·.setIfInBounds j u)) } :=
  I.lstUpd hp ho (zbE its n j u) (r.set rv j) (by rw [ck];exact hz) s.toks
 by_cases h0:0<=k
 ·have hk:k.toNat=j:=by
   rw [eD h0 h4] at h1;exact aI h1
  exact PySem.W.ki_setAt ho h0 (by omega) (by rw [ao,<- hl];exact h4) (by rw [hk];exact ⟨_,I',q⟩)
 ·have hk:(k + (its.toArray.size:Int)).toNat=j:=by
   rw [seqIndex_neg (by omega) h3] at h1;rw [ao,<- hl];exact aI h1
  exact PySem.W.ki_setBack ho (by omega) (by rw [ao,<- hl];exact h3) (by omega) (by rw [hk];exact ⟨_,I',q⟩)
theorem WU (lo hi:Option Int) (n:Nat):(sliceBounds lo hi none n).1=((HT.sIx n 0 lo:Nat):Int)/\(sliceBounds lo hi none n).2.1=((HT.sIx n n hi:Nat):Int)/\(sliceBounds lo hi none n).2.2=1:=by
 refine ⟨?_,?_,rfl⟩
 ·cases lo with
  | none=>simp [sliceBounds,HT.sIx]
  | some i =>
   simp only [sliceBounds,HT.sIx,dO,show (1:Int) > 0 by decide,dJ];by_cases h:i < 0
   ·simp only [h,dJ] <;> omega
   ·simp only [h,dn] <;> omega
 ·cases hi with
  | none=>simp [sliceBounds,HT.sIx]
  | some i =>
   simp only [sliceBounds,HT.sIx,dO,show (1:Int) > 0 by decide,dJ];by_cases h:i < 0
   ·simp only [h,dJ] <;> omega
   ·simp only [h,dn] <;> omega
def XO (its:List Value) (lo hi:Option Int):slicePick its.toArray lo hi none=((its.drop (HT.sIx its.length 0 lo)).take (HT.sIx its.length its.length hi - HT.sIx its.length 0 lo)).toArray:=by
 obtain ⟨h1,h2,h3⟩:=WU lo hi its.toArray.size;unfold slicePick;rw [h1,h2,h3];simp only [sliceRange_one,pick_run,ao] <;> rfl
def zg9 (K:PySem.W.Frag):V->Option Int->Option Int->Hp->VK->Prop:=λ x lo hi H Q=>∃ a xs,x=.ref a/\SqL K H a xs/\∀ p,H p=none->Q (.ref p) (upd H p (.lst (XD xs lo hi)))
def zfI:SlR X (zg9 X.K):=by
 intro pins s σ H x v vl vu lo hi sl Q I rx hs pl pu h;obtain ⟨a,xs,rfl,hx,q⟩:=h;cases rx;obtain ⟨its,r,ht,hz⟩:=I.list hx;have hlen:=r.length;refine ⟨"list",_,slot_list_getitem.lookup,ht.isList.typeIs,?_⟩;refine wpAny_getItem_list_slice ht.isList hs pl pu .none (by simp) ?_ (by rw [ao] <;> omega);rw [XO,<- hlen];refine ⟨.ref s.heap.objs.size,_,I.laid (t':=s.toks) (o:=.lst (XD xs lo hi)) (λ b ob q=>ah _ q) (ar _) ?_,rfl,q _ (I.hok.fresh (ar _))⟩;exact ⟨bw (zaO xs lo hi) hz,_,0,(r.drop (HT.sIx xs.length 0 lo)).take (HT.sIx xs.length xs.length hi - HT.sIx xs.length 0 lo),aA _ rfl⟩
noncomputable def jr:V->Bool
 | .non=>true
 | .bl _=>true
 | .int _=>true
 | .str _=>true
 | _=>false
noncomputable def eqV:V->V->Bool
 | .non,.non=>true
 | .bl a,.bl b=>a == b
 | .bl a,.int b=>(if a then 1 else 0) == b
 | .int a,.bl b=>a == (if b then 1 else 0)
 | .int a,.int b=>a == b
 | .str a,.str b=>a == b
 | _,_=>false
theorem ZB {A:Around} {s:Shared} {y x:V} {u v:Value} (ry:RelV y u) (rx:RelV x v) (fy:jr y=true) (fx:jr x=true):SeqAt.EqAt A s u v (eqV y x):=by
 cases y with
 | non =>
  cases ry;cases x with
  | non=>cases rx;exact dD _
  | bl b=>cases rx;exact SeqAt.EqAt.none_bool b
  | int b=>obtain ⟨t,rfl⟩:=rx;exact SeqAt.EqAt.none_int b t
  | str b=>obtain ⟨t,rfl⟩:=rx;exact SeqAt.EqAt.none_str b t
  | _=>exact absurd (show false=true from fx) az
 | bl a =>
  cases ry;cases x with
  | non=>cases rx;exact SeqAt.EqAt.bool_none a
  | bl b=>cases rx;exact SeqAt.EqAt.bool_bool a b
  | int b=>obtain ⟨t,rfl⟩:=rx;exact SeqAt.EqAt.bool_int a b t
  | str b=>obtain ⟨t,rfl⟩:=rx;exact SeqAt.EqAt.bool_str a b t
  | _=>exact absurd (show false=true from fx) az
 | int a =>
  obtain ⟨t',rfl⟩:=ry;cases x with
  | non=>cases rx;exact SeqAt.EqAt.int_none a t'
  | bl b=>cases rx;exact SeqAt.EqAt.int_bool a t' b
  | int b=>obtain ⟨t,rfl⟩:=rx;exact SeqAt.EqAt.int_int a t' b t
  | str b=>obtain ⟨t,rfl⟩:=rx;exact SeqAt.EqAt.int_str a t' b t
  | _=>exact absurd (show false=true from fx) az
 | str a =>
  obtain ⟨t',rfl⟩:=ry;cases x with
  | non=>cases rx;exact SeqAt.EqAt.str_none a t'
  | bl b=>cases rx;exact SeqAt.EqAt.str_bool a t' b
  | int b=>obtain ⟨t,rfl⟩:=rx;exact SeqAt.EqAt.str_int a t' b t
  | str b=>obtain ⟨t,rfl⟩:=rx;exact SeqAt.EqAt.str_str a t' b t
  | _=>exact absurd (show false=true from fx) az
 | _=>exact absurd (show false=true from fy) az
noncomputable def eqU (x:V) (u:Value):Bool:=match u with
 | .none=>eqV .non x
 | .bool b=>eqV (.bl b) x
 | .int i _=>eqV (.int i) x
 | .str z _=>eqV (.str z) x
 | _=>false
theorem zbV {x y:V} {u:Value} (r:RelV y u) (f:jr y=true):eqU x u=eqV y x:=by
 cases y with
 | non=>cases r;rfl
 | bl b=>cases r;rfl
 | int i=>obtain ⟨t,rfl⟩:=r;rfl
 | str z=>obtain ⟨t,rfl⟩:=r;rfl
 | _=>exact absurd (show false=true from f) az
theorem Z5 {x:V}:∀ {xs:List V} {us:List Value},Vals xs us->xs.all jr=true->us.any (eqU x)=xs.any λ y=>eqV y x
 | _,_,.nil,_=>rfl
 | y :: xs,u :: us,.cons r t,f=>by
  rw [all_cons,cg] at f;rw [eW,eW,zbV r f.1,Z5 t f.2]
theorem wn {A:Around} {s:Shared} {x:V} {v:Value} (rx:RelV x v) (fx:jr x=true):∀ {xs:List V} {us:List Value},Vals xs us->xs.all jr=true->∀ u∈us,SeqAt.EqAt A s u v (eqU x u)
 | _,_,.nil,_=>λ u hu=>by cases hu
 | y :: xs,u :: us,.cons r t,f=>λ u' hu=>by
  rw [all_cons,cg] at f;rcases ax.mp hu with rfl|hu
  ·rw [zbV r f.1];exact ZB r rx f.1 fx
  ·exact wn rx fx t f.2 u' hu
noncomputable def inV (x:V) (xs:List V):Bool:=xs.any λ y=>eqV y x
def rIn (K:PySem.W.Frag) (neg:Bool):R2:=λ x y H Q=>∃ p xs,y=.ref p/\(SqL K H p xs\/SqT K H p xs)/\jr x=true/\xs.all jr=true/\Q (.bl (if neg then !inV x xs else inV x xs)) H
def Wr:OpR X (compareOp .In) (rIn X.K false):=by
 intro pins s σ H x y v u Q I rx ry h;obtain ⟨p,xs,rfl,hq,fx,fs,q⟩:=h;cases ry;rcases hq with hq|hq
 ·obtain ⟨its,r,pl,hz⟩:=I.list hq;refine SeqAt.in_listAt (eqU x) pl.isList (λ w hw=>wn rx fx r fs w (by simpa using hw)) ⟨.bl _,H,I,rfl,?_⟩;rw [show its.toArray.any (eqU x)=its.any (eqU x) by simp,Z5 r fs];exact q
 ·obtain ⟨its,r,pl,hz⟩:=I.tuple hq;refine SeqAt.in_tupleAt (eqU x) pl (λ w hw=>wn rx fx r fs w (by simpa using hw)) ⟨.bl _,H,I,rfl,?_⟩;rw [show its.toArray.any (eqU x)=its.any (eqU x) by simp,Z5 r fs];exact q
def ZQ:OpR X (compareOp .NotIn) (rIn X.K true):=by
 intro pins s σ H x y v u Q I rx ry h;obtain ⟨p,xs,rfl,hq,fx,fs,q⟩:=h;cases ry;rcases hq with hq|hq
 ·obtain ⟨its,r,pl,hz⟩:=I.list hq;refine SeqAt.notIn_listAt (eqU x) pl.isList (λ w hw=>wn rx fx r fs w (by simpa using hw)) ⟨.bl _,H,I,rfl,?_⟩;rw [show its.toArray.any (eqU x)=its.any (eqU x) by simp,Z5 r fs];exact q
 ·obtain ⟨its,r,pl,hz⟩:=I.tuple hq;refine SeqAt.notIn_tupleAt (eqU x) pl (λ w hw=>wn rx fx r fs w (by simpa using hw)) ⟨.bl _,H,I,rfl,?_⟩;rw [show its.toArray.any (eqU x)=its.any (eqU x) by simp,Z5 r fs];exact q
def CallR.or {f:Value} {r r':List V->Hp->VK->Prop} (h:CallR X f r) (h':CallR X f r'):CallR X f (λ xs H Q=>r xs H Q\/r' xs H Q):=by
 intro pins s σ H xs us Q I rs q;rcases q with q|q
 ·exact h pins s σ H xs us Q I rs q
 ·exact h' pins s σ H xs us Q I rs q
def VG:CallR X (.type "list") (λ xs H Q=>∃ p ys,xs=[.ref p]/\(SqL X.K H p ys\/SqT X.K H p ys)/\∀ l,H l=none->Q (.ref l) (upd H l (.lst ys))):=by
 intro pins s σ H xs us Q I r h;obtain ⟨p,ys,rfl,hq,q⟩:=h;obtain ⟨u,rfl,rx⟩:=ZG r;cases rx;have fin:∀ (its:List Value),Vals ys its->ys.length<=sizeLine->∀ (h':Heap) (c':Nat),(∀ b o',s.heap.get? b=some o'->h'.get? b=some o') ->
   h'.get? s.heap.objs.size=some { cls:=.type "list",dict:=none,data:=.seq its.toArray c',slots:=#[] }->EP X pins σ Q (.ref s.heap.objs.size) { s with heap:=h' }:=λ its r' hz h' c' kp e =>
  ⟨.ref s.heap.objs.size,_,I.laid (t':=s.toks) kp (ar _) (show ObjOk X.prog X.w _ h' _ (.lst ys) from ⟨hz,its,c',r',e⟩),rfl,q _ (I.hok.fresh (ar _))⟩
 rcases hq with hq|hq
 ·obtain ⟨its,r',pl,hz⟩:=I.list hq;have hlen:=r'.length;obtain ⟨o,ho,hc,n,hd⟩:=pl.isList;exact call_list_seq p (.inl rfl) ho hc hd (λ h' c' kp e=>fin its r' hz h' c' kp e) (by simp only [ao] <;> omega)
 ·obtain ⟨its,r',pl,hz⟩:=I.tuple hq;have hlen:=r'.length;obtain ⟨o,ho,hc,n,hd⟩:=pl;exact call_list_seq p (.inr rfl) ho hc hd (λ h' c' kp e=>fin its r' hz h' c' kp e) (by simp only [ao] <;> omega)
def Wa:CallR X (.type "tuple") (λ xs H Q=>∃ p ys,xs=[.ref p]/\((SqL X.K H p ys/\∀ l,H l=none->Q (.ref l) (upd H l (.tup ys)))\/(SqT X.K H p ys/\Q (.ref p) H))):=by
 intro pins s σ H xs us Q I r h;obtain ⟨p,ys,rfl,h⟩:=h;obtain ⟨u,rfl,rx⟩:=ZG r;cases rx;rcases h with ⟨hq,q⟩|⟨hq,q⟩
 ·obtain ⟨its,r',pl,hz⟩:=I.list hq;have hlen:=r'.length;refine call_tuple_list pl.isList (λ h' kp=>?_) (by simp only [ao] <;> omega);have I1:Inv X pins σ H { s with heap:=h' }:=I.kept (t':=s.toks) kp;have I2:Inv X pins σ (upd H h'.objs.size (.tup ys)) { s with heap:=h'.push { cls:=.type "tuple",data:=.seq its.toArray } } :=
   I1.laid (t':=s.toks) (λ b o e=>ah _ e) (ar _) (show ObjOk X.prog X.w _ _ _ (.tup ys) from ⟨hz,its,r',IsTup.new _ _⟩)
  exact ⟨.ref h'.objs.size,_,I2,rfl,q _ (I1.hok.fresh (ar _))⟩
 ·obtain ⟨its,r',pl,hz⟩:=I.tuple hq;exact call_tuple_same pl ⟨.ref p,H,I,rfl,q⟩
def tyV (K:PySem.W.Frag) (T:String) (x:V) (H:Hp):Prop:=match x with
 | .str _=>T="str"
 | .int _=>T="int"
 | .ref p=>(T="list"/\∃ xs,SqL K H p xs)\/(T="tuple"/\∃ o,K.lookup p=some o/\o.cls=.type "tuple"/\o.dict=none) \/
   (T="dict"/\((∃ kvs,H p=some (.dK kvs))\/∃ kvs,H p=some (.dT kvs)))\/(T="set"/\∃ S n,H p=some (.set S n))
 | _=>False
theorem zgU {pins:List (Addr × Obj)} {σ:St} {H:Hp} {s:Shared} {T:String} {x:V} {v:Value} (I:Inv X pins σ H s) (r:RelV x v) (ty:tyV X.K T x H) :
  s.TypeIs v T/\∀ a,v=.ref a->∃ ob,s.heap.get? a=some ob/\ob.dict=none:=by
 cases x with
 | str z =>
  obtain ⟨t,rfl⟩:=r;cases (show T="str" from ty);exact ⟨typeIs_str s z t,λ _ e=>nomatch e⟩
 | int i =>
  obtain ⟨t,rfl⟩:=r;cases (show T="int" from ty);exact ⟨typeIs_int s i t,λ _ e=>nomatch e⟩
 | ref p =>
  cases r;rcases ty with ⟨rfl,xs,hq⟩|⟨rfl,o,hk,hc,hd⟩|⟨rfl,hk⟩|⟨rfl,S,n,hk⟩
  ·obtain ⟨its,_,pl,_⟩:=I.list hq;refine ⟨pl.isList.typeIs,λ a e=>?_⟩;cases e;obtain ⟨o,n,e,c,hd,_⟩:=pl;exact ⟨o,e,hd⟩
  ·refine ⟨⟨o,I.kIn p o hk,hc⟩,λ a e=>?_⟩;cases e;exact ⟨o,I.kIn _ o hk,hd⟩
  ·have z:∃ o,s.heap.get? p=some o/\o.ExactDict:=by
    rcases hk with ⟨kvs,hk⟩|⟨kvs,hk⟩
    ·obtain ⟨_,_,_,_,o,_,_,e,ex,_⟩:=I.hok p _ hk;exact ⟨o,e,ex⟩
    ·obtain ⟨_,_,_,_,o,_,_,e,ex,_⟩:=I.hok p _ hk;exact ⟨o,e,ex⟩
   obtain ⟨o,e,ex⟩:=z;refine ⟨⟨o,e,ex.1⟩,λ a e2=>?_⟩;cases e2;exact ⟨o,e,ex.2.1⟩
  ·obtain ⟨o,_,_,_,e,ex,_⟩:=I.hok p _ hk;refine ⟨⟨o,e,ex.1⟩,λ a e2=>?_⟩;cases e2;exact ⟨o,e,ex.2.1⟩
 | _=>exact False.elim ty
def tBM (K:PySem.W.Frag) (T:String) (r:V->List V->Hp->VK->Prop) (to:TE) (t:TA):TE:=λ σ H Q=>to σ H λ x H1=>tyV K T x H1/\t σ H1 λ xs H2=>r x xs H2 Q
variable {o e:Expr} {es:List Expr} {to:TE} {t:TA} {name:Str} {apos cpos:Pos} {T id:String} {r:V->List V->Hp->VK->Prop}
def qQ (pa:PlainAttrs T) (slot:Slot T name id) (hty:typeOf (.builtin id)=pure (.type "method_descriptor")) (hm:MtR X id r) (ho:PE X o to) (ha:PA X (e :: es) t)
  (hbase:attributeBase o name X.env (eval o X.env)=eval o X.env:=by rfl)
  (hfew:((backTo cpos (starEach (e :: es) X.env)).all (λ x=>!x.1) && (backToKw cpos (keywordEach [] X.env)).all (λ x=>x.1.isSome)
   && decide ((e :: es).length + ([]:List Keyword).length + (if ([]:List Keyword).isEmpty then 0 else 1) < 30))=true:=by rfl)
  (hline:(apos.endLine == cpos.line)=true:=by rfl) (hs:starEach (e :: es) X.env=(false,eval e X.env) :: starEach es X.env:=by rfl) (hplain:(backTo cpos (starEach es X.env)).any (·.1)=false:=by rfl) :
  PE X (.Call (.Attribute o name apos) (e :: es) [] cpos) (tBM X.K T r to t):=by
 intro pins s σ H Q I h;refine wpAny_Call_method_late hbase hfew hline rfl (qz (ho pins s σ H _ I h) λ v s1 x H1 I1 r1 qq_=>?_);obtain ⟨ty,q1⟩:=qq_;obtain ⟨h1,h2⟩:=zgU I1 r1 ty;refine ⟨T,id,pa,slot,hty,h1,h2,?_⟩;have hA:=ha cpos pins s1 σ H1 _ I1 q1;rw [hs] at hA ⊢;refine Calls.callWith_builtin (by show (false || (backTo cpos (starEach es X.env)).any (·.1))=false;rw [hplain] <;> rfl) (Calls.evalArgs_plain ?_);exact thn hA λ us s2 ⟨vs,H2,I2,r2,q2⟩=>hm pins s2 σ H2 x vs v us Q I2 r1 r2 q2
end
end L2
namespace L2
open PySem PySem.Spec PyProof.Rows
def MtM (X:Cx) (id:String) (r:V->List V->Hp->VK->Prop):Prop :=
 ∀ (pins:List (Addr × Obj)) (s:Shared) (σ:St) (H:Hp) (x:V) (xs:List V) (v:Value) (us:List Value) (Q:VK),Inv X pins σ H s->RelV x v->Vals xs us->r x xs H Q ->
  wpAny (model X.prog X.w) X.A (call (.builtin id) (v :: us)) (EP X pins σ Q) X.xe s
theorem Vals.one {x:V} {us:List Value} (h:Vals [x] us):∃ u,us=[u]/\RelV x u:=by
 cases h with
 | cons r t=>cases t;exact ⟨_,rfl,r⟩
theorem Vals.two {x y:V} {us:List Value} (h:Vals [x,y] us):∃ u v,us=[u,v]/\RelV x u/\RelV y v:=by
 cases h with
 | cons r t =>
  obtain ⟨v,rfl,q⟩:=Vals.one t;exact ⟨_,_,rfl,r,q⟩
theorem Vals.zero:∀ {us:List Value},Vals [] us->us=[]
 | _,.nil=>rfl
theorem Vals.eraseIdx:∀ {xs:List V} {us:List Value} (i:Nat),Vals xs us->Vals (xs.eraseIdx i) (us.eraseIdx i)
 | _,_,_,.nil=>.nil
 | _,_,0,.cons _ t=>t
 | _,_,i + 1,.cons r t=>.cons r (Vals.eraseIdx i t)
theorem Vals.rep {xs:List V} {us:List Value} (h:Vals xs us):∀ k:Nat,Vals (List.replicate k xs).flatten (List.replicate k us).flatten
 | 0=>.nil
 | k + 1=>by
  rw [cM,cM,dq,dq];exact Vals.append h (Vals.rep h k)
theorem Wu {α:Type}:∀ (l:List α) (i:Nat),(l.eraseIdx i).length<=l.length
 | [],_=>ar _
 | _ :: _,0=>cC _
 | _ :: r,i + 1=>Nat.succ_le_succ (Wu r i)
theorem WB (its:List Value):∀ (k:Nat) (acc:List Value),
  List.foldl (λ x1 x2=>x1 ++ x2) acc.toArray (List.replicate k its.toArray)=(acc ++ (List.replicate k its).flatten).toArray
 | 0,acc=>by simp
 | k + 1,acc=>by
  have e:acc.toArray ++ its.toArray=(acc ++ its).toArray:=by simp
  have e2:(acc ++ its) ++ (List.replicate k its).flatten=acc ++ (List.replicate (k + 1) its).flatten:=by
   rw [cM,dq,cv]
  rw [<- e2,<- WB its k (acc ++ its),<- e,cM,List.foldl_cons]
section
variable {X:Cx} {pins:List (Addr × Obj)} {σ:St} {H:Hp} {s:Shared} {l b:Addr} {xs ys zs:List V}
def Inv.lset {its its':List Value} {n:Nat} {f:Array Value->Array Value} {t':Nat} (I:Inv X pins σ H s) (hH:H l=some (.lst xs))
  (e:s.heap.get? l=some { cls:=.type "list",data:=.seq its.toArray n }) (hf:f its.toArray=its'.toArray) (hv:Vals ys its') (hz:ys.length<=sizeLine) :
  Inv X pins σ (upd H l (.lst ys)) { s with heap:=s.heap.update l (Obj.mapSeq f),toks:=t' }:=by
 have q:=PySem.IsL.update e f;rw [hf] at q;refine I.write (x:=l) (e:=l) (by rw [hH];exact trivial) (.inl rfl) (λ b' u hb hu=>(bd s.heap (Obj.mapSeq f) (aZ hb)).trans hu) ⟨_,q⟩ ?_;exact ⟨hz,its',_,hv,q⟩
def Inv.lnew {its:List Value} {t':Nat} (I:Inv X pins σ H s) (hv:Vals ys its) (hz:ys.length<=sizeLine) :
  Inv X pins σ (upd H s.heap.objs.size (.lst ys)) { s with heap:=s.heap.push { cls:=.type "list",data:=.seq its.toArray },toks:=t' } :=
 I.laid (λ _ _ q=>ah _ q) (ar _) ⟨hz,its,0,hv,aA _ rfl⟩
def Inv.fresh (I:Inv X pins σ H s):H s.heap.objs.size=none:=I.hok.fresh (ar _)
def Inv.lstM (I:Inv X pins σ H s) (hH:H l=some (.lst xs)):xs.length<=sizeLine/\∃ (its:List Value) (n:Nat),Vals xs its/\xs.length=its.length/\s.heap.get? l=some { cls:=.type "list",data:=.seq its.toArray n }:=by
 obtain ⟨z,its,n,r,e⟩:=I.hok l _ hH;exact ⟨z,its,n,r,r.length,e⟩
def zax {n:Nat} (h:n<=sizeLine):Builtin.List.listTooLong n=false:=by
 unfold Builtin.List.listTooLong;exact aH (by omega)
end
section
variable {X:Cx}
def zfU:V->List V->Hp->VK->Prop:=λ x vs H Q=>∃ l xs y,x=.ref l/\vs=[y]/\H l=some (.lst xs)/\xs.length < sizeLine/\Q .non (upd H l (.lst (xs ++ [y])))
def zU:MtM X "list.append" zfU:=by
 intro pins s σ H x vs v us Q I rx rv h;obtain ⟨l,xs,y,rfl,rfl,hH,hz,q⟩:=h;cases rx;obtain ⟨u,rfl,ru⟩:=rv.one;obtain ⟨z,its,n,r,hl,e⟩:=I.lstM hH;refine du F.slot_list_append ⟨_,e,rfl⟩ F.entry_list_append (F.args_list_append_2 _ _) (PySem.list_append l its.toArray n u (by rw [ao];omega)) ⟨e,?_⟩;refine ⟨.non,_,I.lset (its':=its ++ [u]) hH e (by simp) (r.append (.cons ru .nil)) ?_,rfl,q⟩;rw [aP,d0];omega
def zfR:V->List V->Hp->VK->Prop:=λ x vs H Q=>∃ l b xs zs,x=.ref l/\vs=[.ref b]/\H l=some (.lst xs)/\H b=some (.lst zs)/\xs.length + zs.length<=sizeLine/\Q .non (upd H l (.lst (xs ++ zs)))
def Wt:MtM X "list.extend" zfR:=by
 intro pins s σ H x vs v us Q I rx rv h;obtain ⟨l,b,xs,zs,rfl,rfl,hH,hB,hz,q⟩:=h;cases rx;obtain ⟨u,rfl,ru⟩:=rv.one;cases ru;obtain ⟨z,its,n,r,hl,e⟩:=I.lstM hH;obtain ⟨z2,its2,n2,r2,hl2,e2⟩:=I.lstM hB;have hsz:its.toArray.size + its2.toArray.size<=sizeLine:=by rw [ao,ao];omega
 have hlong:¬ (!its.toArray.isEmpty && Builtin.List.listTooLong (its.toArray.size + its2.toArray.size))=true:=by
  rw [zax hsz,cF];exact az
 refine du F.slot_list_extend ⟨_,e,rfl⟩ F.entry_list_extend (F.args_list_extend_2 _ _)
  (AutoSeq1.list_extend_list_list_0 l its.toArray n b its2.toArray n2 hlong (by rw [ao];omega) (by omega)) ⟨e,e2,?_⟩
 refine ⟨.non,_,I.lset (its':=its ++ its2) hH e (by simp) (r.append r2) ?_,rfl,q⟩;rw [aP];omega
def zha:V->List V->Hp->VK->Prop:=λ x vs H Q=>∃ l xs i k y,x=.ref l/\vs=[.int i]/\H l=some (.lst xs)/\-(2 ^ 63)<=i/\i < 2 ^ 63/\seqIndex? i xs.length=some k/\xs[k]?=some y/\Q y (upd H l (.lst (xs.eraseIdx k)))
def Xl:MtM X "list.pop" zha:=by
 intro pins s σ H x vs v us Q I rx rv h;obtain ⟨l,xs,i,k,y,rfl,rfl,hH,h1,h2,hk,hy,q⟩:=h;cases rx;obtain ⟨u,rfl,ru⟩:=rv.one;obtain ⟨t,rfl⟩:=ru;obtain ⟨z,its,n,r,hl,e⟩:=I.lstM hH;obtain ⟨w,hw,rw'⟩:=r.get hy;refine du F.slot_list_pop ⟨_,e,rfl⟩ F.entry_list_pop (F.args_list_pop_2 _ _)
  (MeetsSeq.list_pop_at l its.toArray n i t k w (fitsIndex_both h1 h2) (by rw [ao,<- hl];exact hk) (by rw [<- dl];exact hw) (by rw [ao];omega)) ⟨e,?_⟩
 refine ⟨y,_,I.lset (its':=its.eraseIdx k) hH e ?_ (r.eraseIdx k) ?_,rw',q⟩
 ·show its.toArray.eraseIdxIfInBounds k=(its.eraseIdx k).toArray
  rw [List.eraseIdxIfInBounds_toArray]
 ·have:=Wu xs k;omega
def ziF:R2:=λ x y H Q=>∃ l k xs,x=.ref l/\y=.int k/\H l=some (.lst xs)/\-(2 ^ 63)<=k/\k < 2 ^ 63/\xs.length * k.toNat<=sizeLine /\
 ∀ p,H p=none->Q (.ref p) (upd H p (.lst (List.replicate k.toNat xs).flatten))
theorem zf8 {α:Type} (xs:List α) (k:Nat):(List.replicate k xs).flatten.length=k * xs.length:=by
 induction k with
 | zero=>simp
 | succ k ih=>rw [cM,dq,aP,ih,Nat.succ_mul,Nat.add_comm]
theorem Vn:OpR X (binaryOp .Mult) ziF:=by
 intro pins s σ H x y v u Q I rx ry h;obtain ⟨l,k,xs,rfl,rfl,hH,h1,h2,hz,q⟩:=h;cases rx;obtain ⟨t,rfl⟩:=ry;obtain ⟨z,its,n,r,hl,e⟩:=I.lstM hH;have hlen:its.toArray.size * k.toNat<=sizeLine:=by rw [ao,<- hl];exact hz
 have hcap:¬ its.toArray.size * k.toNat > (2 ^ 63 - 1) / 8:=by
  have:(sizeLine:Nat)<=(2 ^ 63 - 1) / 8:=by decide
  omega
 have hfit:¬ (!Builtin.List.listFitsIndex k)=true:=by
  rw [fitsIndex_both h1 h2];exact az
 have hlong:¬ Builtin.List.listTooLong (its.toArray.size * k.toNat)=true:=by
  rw [zax hlen];exact az
 have hnew:List.foldl (λ x1 x2=>x1 ++ x2) #[] (List.replicate (if its.toArray.isEmpty=true then 0 else k.toNat) its.toArray)=(List.replicate k.toNat its).flatten.toArray:=by
  have f0:∀ m:Nat,List.foldl (λ x1 x2=>x1 ++ x2) #[] (List.replicate m its.toArray)=(List.replicate m its).flatten.toArray:=λ m=>by
   have:=WB its m [];rw [List.nil_append] at this;exact this
  rw [f0];cases its with
  | nil=>simp
  | cons a r'=>rw [am (by simp)]
 refine wpAny_binaryOp_repeat_ref (T:="list") (U:="int") (by decide) ⟨_,e,rfl⟩ (λ s'=>typeIs_int s' k t) noFill_list_mul F.fills_int_mul F.slot_int_rmul repeat_list F.slot_int_index.lookup
  (du F.slot_int_rmul (typeIs_int s k t) F.entry_int_rmul (F.args_int_rmul_2 _ _) (int___rmul___int_list k t l its.toArray n)
   ⟨e,rfl,⟨_,e,rfl⟩,du F.slot_list_mul ⟨_,e,rfl⟩ F.entry_list_mul (F.args_list_mul_2 _ _) (AutoListH.list___mul___list_int_3 l its.toArray n k t hfit hcap hlong) ⟨e,?_⟩⟩)
 rw [hnew];exact ⟨.ref _,_,I.lnew (t':=s.toks) (r.rep k.toNat) (by rw [zf8,Nat.mul_comm];exact hz),rfl,q _ I.fresh⟩
end
section
variable {prog:Program} {w:World} {A:Around} {E:Value->Shared->Prop} {s:Shared}
end
section
variable {X:Cx}
end
end L2
namespace Att
open PySem PySem.W PySem.Calls PyProof.Rows
theorem Jb {P:Params} {h:Heap}:∀ (ns:List Int) (vs:List Value),WellAll P h vs (ns.map WData.int)->IntsAre vs ns:=by
 intro ns
 induction ns with
 | nil =>
  intro vs w;rw [map_nil] at w;cases w;exact .nil
 | cons n ns ih =>
  intro vs w;rw [bL] at w;cases w with
  | cons a b =>
   cases a;exact .cons _ _ (ih _ b)
theorem zcS {l:OpenLaw} {n:Nat} (hn:l.most=some n) {P:Params} {h:Heap} {args:List WData} {vals:List Value}
  (hpre:l.row.toRowW.claim.pre args=true) (hwl:WellAll P h vals args) :
  ∃ a vs ns,vals=[Value.ref a]/\args=[WData.list (ns.map WData.int)]/\h.get? a=some { cls:=.type "list",data:=.seq vs.toArray }/\IntsAre vs ns/\ns.length<=n:=by
 have hsh:WShape.hasAll [] args [.list .int]=true:=(pre_splitW hpre).1;have hc:l.pre.holds [] { args:=args }=true:=(pre_splitW hpre).2;obtain ⟨d,r,rfl,h1,h2⟩:=hasAllW_cons hsh;obtain rfl:=hasAllW_nil h2;obtain ⟨xs,rfl,h3⟩:=hasW_list h1;obtain ⟨ns,rfl⟩:=items_int h3;have hlen:ns.length<=n:=by
  unfold OpenLaw.pre at hc;have h4:(WTm.not (.lt (.lit (.int (n:Int))) (.len (.arg 0)))).holds [] { args:=[.list (ns.map .int)] }=true:=by
   have h4:=(holds_andW hc).1;rw [hn] at h4;exact h4
  have h5:=condW_of h4 (w_not (w_lt w_lit (w_len_list (w_arg rfl))));rw [ai] at h5;refine Nat.le_of_not_lt λ q=>?_;have q':(n:Int) < ((ns.length:Nat):Int):=by omega
  first
   | (rw [aJ q'] at h5;exact absurd h5 (by decide))
   | (simp at h5;omega)
 cases hwl with
 | cons w1 w2 =>
  cases w2;cases w1 with
  | list ho hall=>exact ⟨_,_,ns,rfl,rfl,ho,Jb ns _ hall,hlen⟩
def zda (l:OpenLaw) (args:List WData):l.row.toRowW.claim.post args (.bool true) args=true :=
 postW_of (r:=l.row.toRowW) (X:=(true == true))
  (show WShape.has [] (.bool true) .bool=true by first|rfl|decide|simp [WShape.has,WShape.arms,WShape.armsAll])
  (show (WTm.eq .res (.lit (.bool true))).value [] { args:=args,res:=some (.bool true),after:=args }=some (.bool (true == true)) from w_eq_bool (w_res rfl) w_lit) rfl
def attach_call {l:OpenLaw} {n:Nat} {q:Program} {loose:List Str} {XP:(Str->Option Value)->Heap->Prop} {YP:World->Heap->Prop} {d:DefRec}
  (hn:l.most=some n) (hdf:d.params.defaults=[])
  (call:∀ (w:World) (s₀ s₁:Shared) (mg mb:Str->Option Value) (fa:Addr) (o:Obj) (pm cd doc:Value) (a:Addr) (vs:List Value) (ns:List Int),
   Ground q loose [] XP w s₀ mg mb s₁.heap->YP w s₁.heap ->
   s₁.heap.get? fa=some o->o.data=.func (docDef d.name d.params d.body d.scope pm cd doc)->s₁.heap.CodeRec cd d.name->mg d.name=some (.ref fa) ->
   s₁.heap.get? a=some { cls:=.type "list",data:=.seq vs.toArray }->IntsAre vs ns->ns.length<=n->s₁.gens=#[] ->
   codeAny (model l.prog w) callerA (.call (.ref fa) ⟨[.ref a],[]⟩) (λ r s'=>r=.ok (.ret (.bool true))/\OldK s₁.heap s'.heap/\s'.os=s₁.os/\AllBare s'.gens) s₁) :
  WalkO q loose XP YP l.row.toRowW d [] (λ f vs=>PySem.call f vs):=by
 intro w s₀ s₁ mg mb G Y fa o pm cd doc dV kV ho hd hcd hD hmg hg args vals as hpre hlay hrd hwl hlo;obtain rfl:dV=.none:=Dflts.none hD hdf;obtain rfl:kV=.none:=Dflts.noKw hD;obtain ⟨a,vs,ns,rfl,rfl,hobj,hints,hlen⟩:=zcS hn hpre hwl;refine enter_call (cx (call w s₀ s₁ mg mb fa o pm cd doc a vs ns G Y ho (fd_plain hd) hcd hmg hobj hints hlen hg) λ r s' hq=>?_);obtain ⟨rfl,h2,h3,h4⟩:=hq;exact ⟨.inl ⟨.bool true,.bool true,[],rfl,λ _=>rfl,.bool true,zda l _,λ _=>⟨List.Pairwise.nil,λ _ hm=>(nomatch hm)⟩⟩,h2,h3,h4⟩
section
variable {prog:Program} {w:World} {A:Around} {E:Value->Shared->Prop} {s:Shared} {K:Frag}
noncomputable def ledger (h:Heap) (L d:Addr):List (Addr × Obj):=(List.range h.objs.size).filterMap λ a=>if a=L\/a=d then none else (h.get? a).map λ o=>(a,o)
end
end Att
namespace L2
open PySem PySem.Spec PyProof.Rows
theorem We:∀ {vs:List Value} {ns:List Int},IntsAre vs ns->Vals (ns.map V.int) vs
 | _,_,.nil=>.nil
 | _,_,.cons n t h=>.cons ⟨t,rfl⟩ (We h)
def zhQ (H:Hp):Prop:=∀ b,H b=none\/∃ o xs,H b=some (.frz o (.lst xs))
theorem zeM {P:Program} {w:World} {K:PySem.W.Frag} {mg mb:Str->Option Value} {CX:CXT} {k:Nat} {fa a:Addr} {fd:FuncData} {x:Str} {sp:Sp} {s₁:Shared} {vs:List Value} {ns:List Int}
  (KX:K.In s₁.heap) (hns:s₁.heap.Ns mainGlobals mg) (hb:s₁.heap.Ns builtinsNs mb) (hbb:∀ x:Str,x≠"__name__"->mb x=bootBuiltins x) (hlim:s₁.heap.NoLimit) (hg:s₁.gens=#[])
  (ha:s₁.heap.get? a=some { cls:=.type "list",data:=.seq vs.toArray }) (hi:IntsAre vs ns) (hl:ns.length<=sizeLine) (hr:Room k callerA)
  (F:∀ base:Heap,K.In base->base.Ns mainGlobals mg->FnOk P w K mg base CX k fa fd [x] sp) (hbind:∀ (s:Shared) (u:Value),BindsTo s fd ⟨[u],[]⟩ [(x,u)])
  (hsp:∀ H:Hp,zhQ H->SqL K H a (ns.map V.int)->sp [.ref a] H (λ v _=>v=.bl true) λ _ _ _=>False)
  (hCX:∀ H e s',CX [] H s₁ (λ _ _ _=>False) e s'->False) :
  codeAny (model P w) callerA (.call (.ref fa) ⟨[.ref a],[]⟩) (λ r s'=>r=.ok (.ret (.bool true))/\OldK s₁.heap s'.heap/\s'.os=s₁.os/\AllBare s'.gens) s₁:=by
 have rv:=We hi;have lenV:=hi.length;have core:∀ H:Hp,zhQ H->SqL K H a (ns.map V.int)->HOk P w H s₁.heap->(∀ b,H b≠none->b=a)->(H a≠none->K.lookup a=none) ->
   codeAny (model P w) callerA (.call (.ref fa) ⟨[.ref a],[]⟩) (λ r s'=>r=.ok (.ret (.bool true))/\OldK s₁.heap s'.heap/\s'.os=s₁.os/\AllBare s'.gens) s₁:=by
  intro H hO hS hok hA hK;have base_of:∀ {b:Addr} {o:Obj},s₁.heap.get? b=some o->H b=none->(Vz s₁.heap H).get? b=some o:=λ e n=>zeZ e n;have noA:∀ {b:Addr} {o:Obj} {es:Array DictEntry} {ep:Nat},s₁.heap.get? b=some o->o.data=.dict es ep->H b=none:=λ {b o es ep} e d=>by
   cases q:H b with
   | none=>rfl
   | some u =>
    have e':b=a:=hA b (by rw [q];simp);subst e';rw [ha] at e;cases e;have d':Data.seq vs.toArray _=Data.dict es ep:=d;cases d'
  have nsK:∀ {b:Addr} {m:Str->Option Value},s₁.heap.Ns b m->(Vz s₁.heap H).Ns b m:=λ {b m} ⟨o,es,ep,e,d,r⟩=>⟨o,es,ep,base_of e (noA e d),d,r⟩;have hKb:K.In (Vz s₁.heap H):=λ b o e=>base_of (KX b o e) (by
   cases q:H b with
   | none=>rfl
   | some u =>
    have e':b=a:=hA b (by rw [q];simp);subst e';rw [hK (by rw [q];simp)] at e;cases e)
  have hM:Mod K mg (Vz s₁.heap H):=⟨hKb,nsK hns,⟨mb,nsK hb,hbb⟩,let ⟨mc,h1,h2⟩:=hlim;⟨mc,nsK h1,h2⟩⟩;have e0:Env0 P w K mg (Vz s₁.heap H) callerA [] s₁ H:=⟨rfl,hM,λ b o e=>zf4 e,Nat.le_of_eq (zdt _ _),trivial,λ b hb=>absurd (show b∈([]:List Addr) from hb) (by simp),hok,.of_eq hg⟩;refine cx ((F _ hKb (nsK hns)).run callerA [] s₁ H ⟨[.ref a],[]⟩ [.ref a] [.ref a] _ _ hr e0 (hbind s₁ (.ref a)) (.cons rfl .nil) (hsp H hO hS)) λ r s' h=>?_;cases r with
  | error e=>exact (hCX H e s' h).elim
  | ok fl =>
   cases fl with
   | next=>exact False.elim h
   | brk=>exact False.elim h
   | cont=>exact False.elim h
   | ret u =>
    obtain ⟨v,H',os,bare,un,hok',r',q⟩:=h;have q':v=.bl true:=q;subst q';obtain rfl:u=Value.bool true:=r';refine ⟨rfl,OldK.of_keep λ b o e=>?_,os,bare⟩;cases q:H b with
    | none=>exact un.keep b o e q (by intro z;exact absurd (show b∈([]:List Addr) from z) (by simp)) (by simp)
    | some u =>
     rcases hO b with z|⟨ob,xs,z⟩
     ·rw [q] at z;cases z
     ·have z2:=un.frzs b ob _ z;obtain ⟨e1,_⟩:=hok b _ z;obtain ⟨e2,_⟩:=hok' b _ z2;rw [e] at e1;cases e1;exact e2
 cases hk:K.lookup a with
 | some o =>
  have e:=KX a o hk;rw [ha] at e;cases e;refine core (λ _=>none) (λ _=>.inl rfl) (.inr ⟨_,vs.toArray,_,hk,rfl,rfl,rfl,by rw [ao,lenV];exact hl,by simpa using rv⟩) (λ b u z=>by have z':(none:Option HO)=some u:=z;cases z') (λ b z=>absurd rfl z) λ z=>absurd rfl z
 | none =>
  refine core (λ b=>if b=a then some (.frz { cls:=.type "list",data:=.seq vs.toArray } (.lst (ns.map V.int))) else none) (λ b=>?_) (.inl (.inr ⟨{ cls:=.type "list",data:=.seq vs.toArray },aq rfl⟩)) (λ b u z=>?_) (λ b z=>?_) λ _=>hk
  ·by_cases hb:b=a
   ·exact .inr ⟨_,_,aq hb⟩
   ·exact .inl (am hb)
  ·by_cases hb:b=a
   ·have z':=(aq hb).symm.trans z;cases z';subst hb;exact ⟨ha,by rw [ai];exact hl,vs,_,rv,ha⟩
   ·have z':=(am hb).symm.trans z;cases z'
  ·by_cases hb:b=a
   ·exact hb
   ·exact absurd (am hb) z
end L2
namespace L2
open PySem PySem.Spec PyProof.Rows
def walk_of {l:PySem.W.OpenLaw} {n k:Nat} {q:Program} {loose:List Str} {XP:(Str->Option Value)->Heap->Prop} {YP:World->Heap->Prop} {d:DefRec} {K:Params->PySem.W.Frag} {CX:World->CXT} {sp:World->Sp} {x:Str}
  (hn:l.most=some n) (hn2:n<=sizeLine) (hdf:d.params.defaults=[]) (hr:Room k callerA)
  (hY:∀ (w:World) (h:Heap),YP w h->(K w.params).In h)
  (F:∀ (w:World) (mg:Str->Option Value) (fa:Addr) (h:Heap),(K w.params).In h->h.Ns mainGlobals mg->mg d.name=some (.ref fa) ->
   ∃ fd:FuncData,(∀ (s:Shared) (u:Value),BindsTo s fd ⟨[u],[]⟩ [(x,u)]) /\
    ∀ base:Heap,(K w.params).In base->base.Ns mainGlobals mg->FnOk l.prog w (K w.params) mg base (CX w) k fa fd [x] (sp w))
  (hsp:∀ (w:World) (H:Hp) (a:Addr) (ns:List Int),ns.length<=n->zhQ H->SqL (K w.params) H a (ns.map V.int)->sp w [.ref a] H (λ v _=>v=.bl true) λ _ _ _=>False)
  (hCX:∀ (w:World) (H:Hp) (s:Shared) (e:Value) (s':Shared),CX w [] H s (λ _ _ _=>False) e s'->False) :
  PySem.W.WalkO q loose XP YP l.row.toRowW d [] (λ f vs=>PySem.call f vs):=by
 refine Att.attach_call hn hdf λ w s₀ s₁ mg mb fa o pm cd doc a vs ns G Y ho hd hcd hmg hobj hints hlen hg=>?_;have KX:=hY w _ Y;obtain ⟨fd,hb,hF⟩:=F w mg fa _ KX G.T.g hmg;exact zeM KX G.T.g G.T.b G.T.builtins G.T.nolimit hg hobj hints (bw hlen hn2) hr hF hb (λ H hO hS=>hsp w H a ns hlen hO hS) λ H e s'=>hCX w H s₁ e s'
end L2
namespace L2
open PySem PySem.Spec PyProof.Rows
noncomputable def zV (s:Stmt) (j:Nat):Stmt:=match s with
 | .ClassDef _ _ _ body _ _ _ _ _ _ _=>body.getD j (.Pass ⟨0,0,0,0⟩)
 | _=>.Pass ⟨0,0,0,0⟩
noncomputable def zW (s:Stmt):Arguments:=match s with
 | .FunctionDef _ a _ _ _ _ _ _ _ _=>a
 | _=>{ posonlyargs:=[],args:=[],vararg:=none,kwonlyargs:=[],kw_defaults:=[],kwarg:=none,defaults:=[] }
noncomputable def zN (s:Stmt):List Stmt:=match s with
 | .FunctionDef _ _ b _ _ _ _ _ _ _=>b
 | _=>[]
noncomputable def zf (s:Stmt):Scope:=match s with
 | .FunctionDef _ _ _ _ _ _ sc _ _ _=>sc
 | _=>{ kind:=.function,names:=[],isGenerator:=false,isCoroutine:=false }
abbrev CX0:CXT:=λ _ _ _ _ _ _=>False
structure Fun (K:PySem.W.Frag) (x qual:Str) (st:Stmt) (f:Addr) (fd:FuncData):Prop where
 ex:∃ (oc:Value) (od:Option Addr) (kV doc pm:Value) (an:Option Addr) (cdv ct:Value) (osl:Array (Option Value)),
  fd=PySem.W.fnOf x qual (zW st) (zN st) (zf st) .none kV doc pm an cdv ct/\K.lookup f=some ⟨oc,od,.func fd,osl⟩/\PySem.W.codeIn K cdv qual=true
 kp:PySem.W.keepIn K (.ref f)=true
section
variable {P:Program} {w:World} {K:PySem.W.Frag} {mg:Str->Option Value} {base:Heap}
def Fun.ok {x qual:Str} {st:Stmt} {f:Addr} {fd:FuncData} {N ps:List Str} {k:Nat} {sp:Sp} (F:Fun K x qual st f fd) (S:FnScope N ps (zf st)) (len:∀ vs H Q E,sp vs H Q E->vs.length=ps.length)
  (hbody:∀ (cdv:Value) (A:Around) (outer:List Env) (s:Shared) (H:Hp) (vs:List V) (Q:VK) (E:XK),Room k (A.deeper (envOfC qual (zf st) s.heap.objs.size f cdv))->sp vs H Q E ->
   ∃ t,PSs (Jc CX0 P w K mg base N qual (zf st) f cdv A outer s H E).nox (zN st) t/\t { nx:=λ _ H'=>Q .non H',rt:=Q } (start N vs) H):FnOk P w K mg base CX0 (k + 1) f fd ps sp:=by
 obtain ⟨oc,od,kV,doc,pm,an,cdv,ct,osl,rfl,lk,hcd⟩:=F.ex;refine ze6 lk hcd S len λ A outer s H vs Q E hr hsp=>?_;obtain ⟨t,h,q⟩:=hbody cdv A outer s H vs Q E hr hsp;exact ⟨t,h.nox,q⟩
def Fun.binds {x qual:Str} {st:Stmt} {f:Addr} {fd:FuncData} {ps:List Str} (F:Fun K x qual st f fd)
  (h:∀ (kV doc pm:Value) (an:Option Addr) (cdv ct:Value) (us:List Value),us.length=ps.length->bindArgs (PySem.W.fnOf x qual (zW st) (zN st) (zf st) .none kV doc pm an cdv ct) ⟨us,[]⟩=pure (ps.zip us)):Binds K fd ps []:=by
 obtain ⟨oc,od,kV,doc,pm,an,cdv,ct,osl,rfl,lk,hcd⟩:=F.ex;exact .all (h kV doc pm an cdv ct)
def wU {x qual:Str} {st:Stmt} {f:Addr} {oc:Value} {od an:Option Addr} {osl:Array (Option Value)} {kV doc pm cdv ct:Value} (l:K.lookup f=some ⟨oc,od,.func (PySem.W.fnOf x qual (zW st) (zN st) (zf st) .none kV doc pm an cdv ct),osl⟩)
  (c:PySem.W.codeIn K cdv qual=true) (k:PySem.W.keepIn K (.ref f)=true):Fun K x qual st f (PySem.W.fnOf x qual (zW st) (zN st) (zf st) .none kV doc pm an cdv ct):=⟨⟨oc,od,kV,doc,pm,an,cdv,ct,osl,rfl,l,c⟩,k⟩
end
def zm {n:Nat} (h:n<=1000):n < sizeLine:=fD h (by decide)
section
variable {X:Cx}
end
def zI {c A B:Prop} [Decidable c] (h1:c->A) (h2:¬ c->B):if c then A else B:=by
 by_cases h:c
 ·rw [aq h];exact h1 h
 ·rw [am h];exact h2 h
def Same (H H':Hp):Prop:=∀ b o,H b=some o->H' b=some o
def Same.refl (H:Hp):Same H H:=λ _ _ h=>h
def Same.trans {H H1 H2:Hp} (a:Same H H1) (b:Same H1 H2):Same H H2:=λ c o h=>b c o (a c o h)
theorem Same.free {H H':Hp} (e:Same H H') {l:Addr} (h:H' l=Option.none):H l=Option.none:=by
 cases q:H l with
 | none=>rfl
 | some o =>
  rw [e l o q] at h;cases h
def Same.seq {K:PySem.W.Frag} {H H':Hp} {a:Addr} {xs:List V} (e:Same H H') (h:SqL K H a xs):SqL K H' a xs:=by
 rcases h with (h|⟨o,h⟩)|h
 ·exact .inl (.inl (e _ _ h))
 ·exact .inl (.inr ⟨o,e _ _ h⟩)
 ·exact .inr h
end L2
set_option maxHeartbeats 4000000
namespace L2
open PySem PySem.Spec PyProof.Rows
abbrev GK:=Value->St->Hp->Prop
structure Exc (g h:Heap) (H:Hp) (pn:List (Addr × Obj)) (a:Addr) (cls:Value):Prop where
 ex:∃ (oe:Obj) (vs:Array Value) (T:Addr) (oT:Obj) (ts:Array Value),h.get? a=some oe/\oe.cls=cls/\oe.dict=none/\oe.data=.fields vs/\vs[1]?=some (.ref T)/\T≠a /\
  h.get? T=some oT/\oT.data=.fields ts/\ts[3]?=some .none/\g.get? T=none/\H T=none/\∀ p∈pn,p.1≠T
 ga:g.get? a=none
 Ha:H a=none
 pa:∀ p∈pn,p.1≠a
theorem ObjOk.there {P:Program} {w:World} {H:Hp} {h:Heap} {a:Addr} {o:HO} (x:ObjOk P w H h a o):∃ ob,h.get? a=some ob:=by
 cases o with
 | lst xs=>obtain ⟨_,_,_,_,e⟩:=x;exact ⟨_,e⟩
 | tup xs=>obtain ⟨_,_,_,ob,e,_⟩:=x;exact ⟨_,e⟩
 | dK kvs=>obtain ⟨_,_,_,_,o,_,_,e,_⟩:=x;exact ⟨_,e⟩
 | dT kvs=>obtain ⟨_,_,_,_,o,_,_,e,_⟩:=x;exact ⟨_,e⟩
 | set S n=>obtain ⟨o,_,_,_,e,_⟩:=x;exact ⟨_,e⟩
 | ins C dx fs=>obtain ⟨_,_,_,e,_⟩:=x;exact ⟨_,e⟩
 | own y=>obtain ⟨_,e⟩:=x;exact ⟨_,e⟩
 | xd fs=>obtain ⟨_,⟨_,_,_,e,_⟩,_⟩:=x;exact ⟨_,e⟩
 | rng lo hi=>obtain ⟨_,_,_,e⟩:=x;exact ⟨_,e⟩
 | frz ob u=>obtain ⟨e,_⟩:=x;exact ⟨_,e⟩
 | tbl ps=>exact ⟨_,(show h.get? a=some _ from x)⟩
 | met f y=>exact ⟨_,(show h.get? a=some _ from x)⟩
 | ext φ=>obtain ⟨_,⟨_,e⟩,_⟩:=x;exact ⟨_,e⟩
section
variable {M:Model} {A:Around} {E:Value->Shared->Prop} {s:Shared}
def WC {base:Heap} {env:Env} {outer:List Env} {L e:Addr} {oe:Obj} {vs:Array Value} {head:Value} {hadNext:Bool} {Q:Unit->Shared->Prop}
  (hfr:A.frames=some (env :: outer)) (hl:s.heap.FunFrames base (env :: outer)) (hf:env.frame=some L) (he:s.heap.get? e=some oe) (hd:oe.data=.fields vs) (hsz:1 < vs.size)
  (h:∀ h' T,(∀ b o,b ∉ (env :: outer).filterMap (·.frame)->b≠e->s.heap.get? b=some o->h'.get? b=some o)->(∀ b o,b≠e->s.heap.get? b=some o->∃ sl,h'.get? b=some { o with slots:=sl }) ->
   s.heap.get? T=none->T≠e->h'.get? e=some (oe.mapFields (·.setIfInBounds 1 (.ref T)))->(∃ oT ts,h'.get? T=some oT/\oT.data=.fields ts/\ts[3]?=some .none)->Q () { s with heap:=h' }) :
  wpAny M A (do let a <- frameOf env;let pl <- entryPlaceOf L hadNext;let b <- EntryCells.newEntry head a .none (rawInt L) .none pl;setField (.ref e) 1 b) (λ _ s'=>wpAny M A (setFlight (.ref e) none) Q E s') E s:=by
 have hene:e ∉ (env :: outer).filterMap (·.frame):=λ hm=>by
  obtain ⟨_,o,ho,hnf⟩:=hl.mem hm;rw [he] at ho;injection ho with ho;subst ho;exact hnf vs hd
 refine ad (wpAny_frameOf_fun hfr hl hf λ h₁ hs₁=>?_);refine ad (wpAny_entryPlaceOf λ pl hpl=>?_);unfold EntryCells.newEntry newFields;refine ad (dg ?_ (hpl.sizeOk5 _ _ _ _ _));have he₁:h₁.get? e=some oe:=(hs₁.2.1 e hene).trans he;have he₂:=ah (h:=h₁) { cls:=.type "traceback",dict:=none,data:=.fields ([head,.ref L,.none,rawInt L,.none] ++ (if pl.isEmpty then List.replicate 6 Value.none else pl)).toArray } he₁;refine cY he₂ hd hsz ?_;have hTe:h₁.objs.size≠e:=cR (au he₁);have hd₃:=bj hd (·.setIfInBounds 1 (Value.ref h₁.objs.size));have he₃:=bS (Obj.mapFields (·.setIfInBounds 1 (Value.ref h₁.objs.size))) he₂ (b8 hd₃);have hT₃:=(bd (h₁.push { cls:=.type "traceback",dict:=none,data:=.fields ([head,.ref L,.none,rawInt L,.none] ++ (if pl.isEmpty then List.replicate 6 Value.none else pl)).toArray })
  (Obj.mapFields (·.setIfInBounds 1 (Value.ref h₁.objs.size))) (aZ hTe)).trans (aA h₁ rfl)
 unfold setFlight;refine ad (be he₃ hd₃ (x:=.ref h₁.objs.size) (by simp [hsz]) ?_);rw [aq (show (Value.ref h₁.objs.size != Value.none)=true from by simp)];refine cY hT₃ rfl (by simp only [ao,aP,bT,length_nil] <;> omega) ?_;have keep:∀ b o,b≠e->h₁.get? b=some o ->
   (((h₁.push { cls:=.type "traceback",dict:=none,data:=.fields ([head,.ref L,.none,rawInt L,.none] ++ (if pl.isEmpty then List.replicate 6 Value.none else pl)).toArray }).update e (Obj.mapFields (·.setIfInBounds 1 (Value.ref h₁.objs.size)))).update h₁.objs.size
    (Obj.mapFields (·.setIfInBounds 3 ((none:Option Addr).elim Value.none λ f=>rawInt f)))).get? b=some o:=λ b o hbe hb=>by
  have hbT:h₁.objs.size≠b:=cR (au hb);rw [bd _ _ hbT,bd _ _ (aZ hbe)];exact ah _ hb
 refine h _ h₁.objs.size (λ b o hb hbe q=>keep b o hbe ((hs₁.2.1 b hb).trans q)) (λ b o hbe q=>?_) (Heap.get?_none_of_le (by rw [hs₁.1];exact ar _)) hTe ?_ ?_
 ·obtain ⟨sl,hs⟩:=hs₁.2.2 b o q;exact ⟨sl,keep b _ hbe hs⟩
 ·rw [bd _ _ hTe];exact he₃
 ·exact ⟨_,_,bS _ hT₃ (b8 (bj rfl _)),bj rfl _,by first|(simp;done)|(rcases hpl with rfl|⟨_,_,_,_,_,_,_,rfl⟩ <;> simp)⟩
def Wv {base:Heap} {env:Env} {outer:List Env} {L e:Addr} {oe:Obj} {vs:Array Value} {ch:List Addr} {Q:Unit->Shared->Prop}
  (hfr:A.frames=some (env :: outer)) (hl:s.heap.FunFrames base (env :: outer)) (hf:env.frame=some L) (he:s.heap.get? e=some oe) (hd:oe.data=.fields vs)
  (h1:(vs[1]?=some .none/\ch=[e])\/∃ T oT ts,vs[1]?=some (.ref T)/\T≠e/\s.heap.get? T=some oT/\oT.data=.fields ts/\ts[3]?=some .none/\ch=[e,T])
  (h:∀ h' T,(∀ b o,b ∉ (env :: outer).filterMap (·.frame)->b ∉ ch->s.heap.get? b=some o->h'.get? b=some o)->(∀ b o,b ∉ ch->s.heap.get? b=some o->∃ sl,h'.get? b=some { o with slots:=sl }) ->
   (∀ b∈ch,∃ o,h'.get? b=some o)->s.heap.get? T=none->T≠e->h'.get? e=some (oe.mapFields (·.setIfInBounds 1 (.ref T)))->(∃ oT ts,h'.get? T=some oT/\oT.data=.fields ts/\ts[3]?=some .none)->Q () { s with heap:=h' }) :
  wpAny M A (noteFrame (.ref e) env) (λ _ s'=>wpAny M A (setFlight (.ref e) none) Q E s') E s:=by
 rcases h1 with ⟨h1,rfl⟩|⟨T,oT,ts,h1,hTe,hT,hdT,h3,rfl⟩
 ·unfold noteFrame;simp only [hf];refine ad (be he hd h1 ?_);rw [am (by decide)];refine WC hfr hl hf he hd (bJ.mp h1).1 λ h' T k1 k2 k3 k4 k5 k6=>?_;refine h h' T (λ b o hb hc q=>k1 b o hb (λ z=>hc (by simp [z])) q) (λ b o hc q=>k2 b o (λ z=>hc (by simp [z])) q) (λ b hb=>?_) k3 k4 k5 k6;obtain rfl:b=e:=by simpa using hb
  exact ⟨_,k5⟩
 ·unfold noteFrame;simp only [hf];refine ad (be he hd h1 ?_);rw [aq (show (Value.ref T != Value.none)=true from by simp)];refine ad (be hT hdT h3 ?_);rw [am (show ¬ ((Value.none == rawInt L)=true) from by simp [rawInt])];refine ad (cY hT hdT (bJ.mp h3).1 ?_);have other:∀ b,b≠T->(s.heap.update T (Obj.mapFields (·.setIfInBounds 3 Value.none))).get? b=s.heap.get? b:=λ b hb=>bd _ _ (aZ hb);have noRecord:∀ b o,s.heap.get? b=some o->(∀ vs,o.data≠.fields vs)->b≠T:=λ b o hb hnf q=>by
   rw [q,hT] at hb;injection hb with hb;subst hb;exact hnf ts hdT
  have hT':=bS (Obj.mapFields (·.setIfInBounds 3 Value.none)) hT (b8 (bj hdT _));refine WC hfr (hl.of_keeps λ b o hb hnf=>⟨o,(other b (noRecord b o hb hnf)).trans hb,rfl⟩) hf ((other e (aZ hTe)).trans he) hd (bJ.mp h1).1 λ h' T' k1 k2 k3 k4 k5 k6=>?_;have hTT:T'≠T:=λ z=>by rw [z,hT'] at k3;cases k3
  refine h h' T' (λ b o hb hc q=>k1 b o hb (λ z=>hc (by simp [z])) ((other b (λ z=>hc (by simp [z]))).trans q)) (λ b o hc q=>k2 b o (λ z=>hc (by simp [z])) ((other b (λ z=>hc (by simp [z]))).trans q)) (λ b hb=>?_) ((other T' hTT).symm.trans k3) k4 k5 k6;rcases ax.mp hb with rfl|hb
  ·exact ⟨_,k5⟩
  ·obtain rfl:b=T:=by simpa using hb
   obtain ⟨sl,q⟩:=k2 b _ hTe hT';exact ⟨_,q⟩
end
section
variable {X:Cx} {pins:List (Addr × Obj)} {σ:List (Option V)} {H:Hp} {s:Shared} {h':Heap}
def Inv.stepx {ch:List Addr} (I:Inv X pins σ H s)
  (hch:∀ b∈ch,X.s₀.heap.get? b=none/\H b=none/\∀ p∈X.pn ++ pins,p.1≠b) (hrec:∀ b∈ch,∃ o vs,s.heap.get? b=some o/\o.data=.fields vs)
  (keep:∀ b o,b ∉ frs X.stack->b ∉ ch->s.heap.get? b=some o->h'.get? b=some o)
  (slot:∀ b o,b ∉ ch->s.heap.get? b=some o->∃ sl,h'.get? b=some { o with slots:=sl }) (there:∀ b∈ch,∃ o,h'.get? b=some o):Inv X pins σ H { s with heap:=h' }:=by
 have neL:∀ b∈ch,b≠X.env.locals:=λ b hb z=>by
  obtain ⟨o,vs,ho,hd⟩:=hrec b hb;obtain ⟨m,⟨o',es,ep,ho',hd',_⟩,_⟩:=I.loc;rw [z,ho'] at ho;cases ho;rw [hd'] at hd;cases hd
 have neC:∀ b∈ch,∀ x c,X.env.cells.lookup x=some c->c≠b:=λ b hb x c e z=>by
  obtain ⟨o,vs,ho,hd⟩:=hrec b hb;obtain ⟨v,o',ho',hd'⟩:=I.cell x c e;rw [z,ho] at ho';cases ho';rw [hd] at hd';cases hd'
 have nch:∀ b o,X.s₀.heap.get? b=some o->b ∉ ch:=λ b o e hb=>by rw [(hch b hb).1] at e;cases e
 have trk:∀ b u,H b=some u->b ∉ ch/\b ∉ frs X.stack:=λ b u e=>⟨(λ hb=>by rw [(hch b hb).2.1] at e;cases e),(λ hb=>by rw [I.stkFree b hb] at e;cases e)⟩;have nfs:∀ b,b ∉ X.fs->b≠X.env.locals->b ∉ frs X.stack:=λ b h1 h2 z=>(ax.mp (I.stkSub b z)).elim h2 h1;have ltL:∀ b o,X.s₀.heap.get? b=some o->b≠X.env.locals:=λ b o e=>aF (aE (au e) I.ok.above);have cellK:∀ x c,X.env.cells.lookup x=some c->∀ v,s.heap.IsCell c v->h'.IsCell c v:=λ x c e v ⟨o,ho,hd⟩=>by
  obtain ⟨sl,q⟩:=slot c o (λ z=>neC c z x c e rfl) ho;exact ⟨_,q,hd⟩
 have hok:HOk X.prog X.w H h':=λ b u e=>(I.hok b u e).stay (λ c v hc q=>by
  have hcH:∃ u',H c=some u':=by
   rcases hc with rfl|z
   ·exact ⟨_,e⟩
   ·exact ⟨_,z⟩
  obtain ⟨u',hu⟩:=hcH;exact keep c v (trk c u' hu).2 (trk c u' hu).1 q) (λ _ q=>q) λ _ _ q=>q
 refine ⟨I.ok,I.os,I.bare,⟨λ b o e n hb hx=>?_,λ b o e n hb hx=>?_,I.base.free,λ b o e hx=>?_,I.base.tups,I.base.frzs,I.base.tbls⟩,?_,λ x c e=>?_,I.free,I.freeC,λ p hp=>?_,hok,I.len⟩
 ·exact keep b o (nfs b hb (ltL b o e)) (nch b o e) (I.base.keep b o e n hb hx)
 ·obtain ⟨sl,e1⟩:=I.base.slot b o e n hb hx;obtain ⟨sl',e2⟩:=slot b _ (nch b o e) e1;exact ⟨sl',e2⟩
 ·obtain ⟨o',e1⟩:=I.base.there b o e hx;obtain ⟨sl',e2⟩:=slot b _ (nch b o e) e1;exact ⟨_,e2⟩
 ·obtain ⟨m,⟨o,es,ep,ho,r⟩,hl⟩:=I.loc;obtain ⟨sl,q⟩:=slot _ o (λ z=>neL _ z rfl) ho;refine ⟨m,⟨_,es,ep,q,r⟩,λ i x v e1 e2 e3=>?_⟩;obtain ⟨u,r',l⟩:=hl i x v e1 e2 e3;refine ⟨u,r',?_⟩;rcases l with l|⟨k,c,e,z⟩
  ·exact .inl l
  ·exact .inr ⟨k,c,e,cellK x c e _ z⟩
 ·obtain ⟨v,z⟩:=I.cell x c e;exact ⟨v,cellK x c e v z⟩
 ·obtain ⟨e,n,ne,nf,d⟩:=I.pin p hp;exact ⟨keep p.1 p.2 (nfs _ nf ne) (λ z=>(hch p.1 z).2.2 p hp rfl) e,n,ne,nf,d⟩
theorem Ww {a:Addr} {oe:Obj} {vs:Array Value} {E:Value->Shared->Prop} {Q:Unit->Shared->Prop} (I:Inv X pins σ H s) (hst:X.stack=X.env :: X.outer) (hfr:X.env.frame=some X.env.locals) (hex:X.ex=[])
  (he:s.heap.get? a=some oe) (hdict:oe.dict=none) (hd:oe.data=.fields vs) (ga:X.s₀.heap.get? a=none) (Ha:H a=none) (hpa:∀ p∈X.pn ++ pins,p.1≠a)
  (h1:vs[1]?=some .none\/∃ T oT ts,vs[1]?=some (.ref T)/\T≠a/\s.heap.get? T=some oT/\oT.data=.fields ts/\ts[3]?=some .none/\X.s₀.heap.get? T=none/\H T=none/\∀ p∈X.pn ++ pins,p.1≠T)
  (hQ:∀ s',Inv X pins σ H s'->Exc X.s₀.heap s'.heap H (X.pn ++ pins) a oe.cls->Q () s') :
  wpAny (model X.prog X.w) X.A (noteFrame (.ref a) X.env) (λ _ s'=>wpAny (model X.prog X.w) X.A (setFlight (.ref a) none) Q E s') E s:=by
 have hfs:=I.ok.frames;have hFF:=I.stack;rw [hst] at hfs hFF;have hS:frs X.stack=(X.env :: X.outer).filterMap (·.frame):=by rw [hst];rfl
 have fin:∀ (ch:List Addr),(∀ b∈ch,X.s₀.heap.get? b=none/\H b=none/\∀ p∈X.pn ++ pins,p.1≠b)->(∀ b∈ch,∃ o vs,s.heap.get? b=some o/\o.data=.fields vs)->a∈ch ->
   ∀ h' T,(∀ b o,b ∉ (X.env :: X.outer).filterMap (·.frame)->b ∉ ch->s.heap.get? b=some o->h'.get? b=some o)->(∀ b o,b ∉ ch->s.heap.get? b=some o->∃ sl,h'.get? b=some { o with slots:=sl }) ->
   (∀ b∈ch,∃ o,h'.get? b=some o)->s.heap.get? T=none->T≠a->h'.get? a=some (oe.mapFields (·.setIfInBounds 1 (.ref T)))->(∃ oT ts,h'.get? T=some oT/\oT.data=.fields ts/\ts[3]?=some .none)->Q () { s with heap:=h' }:=by
  intro ch hch hrec ha h' T k1 k2 k3 k4 k5 k6 k7;have I':=I.stepx (h':=h') hch hrec (λ b o hb hc q=>k1 b o (by rw [<- hS];exact hb) hc q) k2 k3;refine hQ _ I' ⟨?_,ga,Ha,hpa⟩;obtain ⟨oT,ts,q1,q2,q3⟩:=k7;have hsz:1 < vs.size:=by
   rcases h1 with z|⟨_,_,_,z,_⟩ <;> exact (bJ.mp z).1
  refine ⟨_,_,T,oT,ts,k6,Obj.cls_mapFields _ _,by obtain ⟨c,d,dt,sl⟩:=oe;cases dt <;> exact hdict,bj hd _,by simp [hsz],k5,q1,q2,q3,?_,?_,λ p hp z=>?_⟩
  ·cases e:X.s₀.heap.get? T with
   | none=>rfl
   | some o =>
    obtain ⟨o',e'⟩:=I.base.there T o e (by rw [hex];simp);rw [k4] at e';cases e'
  ·cases e:H T with
   | none=>rfl
   | some u =>
    obtain ⟨o',e'⟩:=(I.hok T u e).there;rw [k4] at e';cases e'
  ·have:=(I.pin p hp).1;rw [z,k4] at this;cases this
 rcases h1 with h1|⟨T,oT,ts,h1,hTa,hT,hdT,h3,gT,HT,pT⟩
 ·refine Wv (ch:=[a]) hfs hFF hfr he hd (.inl ⟨h1,rfl⟩) (fin [a] (λ b hb=>?_) (λ b hb=>?_) (by simp))
  ·obtain rfl:b=a:=by simpa using hb
   exact ⟨ga,Ha,hpa⟩
  ·obtain rfl:b=a:=by simpa using hb
   exact ⟨oe,vs,he,hd⟩
 ·refine Wv (ch:=[a,T]) hfs hFF hfr he hd (.inr ⟨T,oT,ts,h1,hTa,hT,hdT,h3,rfl⟩) (fin [a,T] (λ b hb=>?_) (λ b hb=>?_) (by simp))
  ·rcases ax.mp hb with rfl|hb
   ·exact ⟨ga,Ha,hpa⟩
   ·obtain rfl:b=T:=by simpa using hb
    exact ⟨gT,HT,pT⟩
  ·rcases ax.mp hb with rfl|hb
   ·exact ⟨oe,vs,he,hd⟩
   ·obtain rfl:b=T:=by simpa using hb
    exact ⟨oT,ts,hT,hdT⟩
end
def JG (X:Cx) (G:GK) (e:Value) (s:Shared):Prop:=∃ a cls σ H,e=Value.ref a/\Inv X [] σ H s/\Exc X.s₀.heap s.heap H X.pn a cls/\G cls σ H
def xeG (X:Cx) (G:GK) (e:Value) (s:Shared):Prop:=wpAny (model X.prog X.w) X.A (noteFrame e X.env) (λ _ s'=>wpAny (model X.prog X.w) X.A (setFlight e none) (λ _ s''=>JG X G e s'') (λ _ _=>False) s') (λ _ _=>False) s
noncomputable abbrev Cx.exg (X:Cx) (G:GK):Cx:=X.wish (xeG X G)
structure Bod (X:Cx):Prop where
 st:X.stack=X.env :: X.outer
 fr:X.env.frame=some X.env.locals
 ex:X.ex=[]
def ji {X:Cx} {G:GK}:PassesOwn (model X.prog X.w) X.A X.env (xeG X G):=PassesOwn.looking
def Inv.nopins {X:Cx} {pins:List (Addr × Obj)} {σ:St} {H:Hp} {s:Shared} (I:Inv X pins σ H s):Inv X [] σ H s:=I.pins_of λ p hp=>absurd hp (by simp)
def Exc.less {g h:Heap} {H:Hp} {pn pn':List (Addr × Obj)} {a:Addr} {cls:Value} (x:Exc g h H pn a cls) (hp:∀ p∈pn',p∈pn):Exc g h H pn' a cls:=by
 obtain ⟨⟨oe,vs,T,oT,ts,h1,h2,h3,h4,h5,h6,h7,h8,h9,h10,h11,h12⟩,ga,Ha,pa⟩:=x;exact ⟨⟨oe,vs,T,oT,ts,h1,h2,h3,h4,h5,h6,h7,h8,h9,h10,h11,λ p q=>h12 p (hp p q)⟩,ga,Ha,λ p q=>pa p (hp p q)⟩
def CXr (P:Program) (w:World):CXT:=λ outer H s E e s'=>∃ a cls H',e=Value.ref a/\s'.os=s.os/\AllBare s'.gens/\Un (frs outer) [] H H' s.heap s'.heap/\HOk P w H' s'.heap /\
 Exc s.heap s'.heap H' [] a cls/\E cls none H'
section
variable {X:Cx} {pins:List (Addr × Obj)} {σ:St} {H:Hp} {s:Shared} {G:GK}
theorem QL {e:Value} {s':Shared} (B:Bod X) (I:Inv X pins σ H s) (h:CXr X.prog X.w X.stack H s (λ cls _ H'=>G cls σ H') e s'):xeG X G e s':=by
 obtain ⟨a,cls,H',rfl,os,bare,un,hok,⟨⟨oe,vs,T,oT,ts,h1,h2,h3,h4,h5,h6,h7,h8,h9,h10,h11,_⟩,ga,Ha,_⟩,hG⟩:=h;have I':Inv X pins σ H' s':=I.call' os un hok bare (λ b z=>absurd z (by simp));have old:∀ b,s.heap.get? b=none->X.s₀.heap.get? b=none:=λ b hb=>by
  cases e:X.s₀.heap.get? b with
  | none=>rfl
  | some o =>
   obtain ⟨o',e'⟩:=I.base.there b o e (by rw [B.ex];simp);rw [hb] at e';cases e'
 have pin:∀ b,s.heap.get? b=none->∀ p∈X.pn ++ pins,p.1≠b:=λ b hb p hp z=>by
  have:=(I.pin p hp).1;rw [z,hb] at this;cases this
 refine Ww I' B.st B.fr B.ex h1 h3 h4 (old a ga) Ha (pin a ga) (.inr ⟨T,oT,ts,h5,h6,h7,h8,h9,old T h10,h11,pin T h10⟩) λ s'' I2 x=>?_;exact ⟨a,oe.cls,σ,H',rfl,I2.nopins,x.less λ p hp=>bH _ hp,h2 ▸ hG⟩
theorem zaY {a:Addr} {cls:Value} {args:List Value} {h':Heap} (B:Bod X) (I:Inv X pins σ H s) (hm:Heap.MadeExcOf s.heap h' a cls args) (hG:G cls σ H):xeG X G (.ref a) { s with heap:=h' }:=by
 obtain ⟨t,h1,h2,h3⟩:=hm.there;have I':Inv X pins σ H { s with heap:=h' }:=I.kept (t':=s.toks) hm.keeps;have ga:X.s₀.heap.get? a=none:=by
  cases e:X.s₀.heap.get? a with
  | none=>rfl
  | some o =>
   obtain ⟨o',e'⟩:=I.base.there a o e (by rw [B.ex];simp);rw [hm.new] at e';cases e'
 have Ha:H a=none:=by
  cases e:H a with
  | none=>rfl
  | some u =>
   obtain ⟨o',e'⟩:=(I.hok a u e).there;rw [hm.new] at e';cases e'
 refine Ww (s:={ s with heap:=h' }) I' B.st B.fr B.ex h1 rfl rfl ga Ha (λ p hp z=>?_) (.inl rfl) λ s'' I2 x=>?_
 ·have:=(I.pin p hp).1;rw [z,hm.new] at this;cases this
 ·exact ⟨a,cls,σ,H,rfl,I2.nopins,x.less λ p hp=>bH _ hp,hG⟩
end
section
variable {P:Program} {w:World} {K:PySem.W.Frag} {mg:Str->Option Value} {base:Heap}
noncomputable abbrev cxR (P:Program) (w:World) (K:PySem.W.Frag) (mg:Str->Option Value) (base:Heap) (N:List Str) (qual:Str) (scope:Scope) (f:Addr) (cd:Value) (A:Around) (outer:List Env) (s:Shared) (H:Hp) (E:XK):Cx :=
 Jc (CXr P w) P w K mg base N qual scope f cd A outer s H E
def Fun.okx {x qual:Str} {st:Stmt} {f:Addr} {fd:FuncData} {N ps:List Str} {k:Nat} {sp:Sp} (F:Fun K x qual st f fd) (S:FnScope N ps (zf st)) (len:∀ vs H Q E,sp vs H Q E->vs.length=ps.length)
  (hbody:∀ (cdv:Value) (A:Around) (outer:List Env) (s:Shared) (H:Hp) (vs:List V) (Q:VK) (E:XK),Room k (A.deeper (envOfC qual (zf st) s.heap.objs.size f cdv))->sp vs H Q E ->
   ∃ t,PSs ((cxR P w K mg base N qual (zf st) f cdv A outer s H E).exg λ cls _ H'=>E cls none H') (zN st) t/\t { nx:=λ _ H'=>Q .non H',rt:=Q } (start N vs) H):FnOk P w K mg base (CXr P w) (k + 1) f fd ps sp:=by
 obtain ⟨oc,od,kV,doc,pm,an,cdv,ct,osl,rfl,lk,hcd⟩:=F.ex;refine ze6 lk hcd S len λ A outer s H vs Q E hr hsp=>?_;obtain ⟨t,h,q⟩:=hbody cdv A outer s H vs Q E hr hsp;refine ⟨t,λ pins s σ H' D I hw=>?_,q⟩;refine aO (h pins s σ H' D (I.wish _) hw) (λ _ _ z=>z.unwish) λ e s' z=>?_;refine ad (aO (show wpAny _ _ _ _ _ _ from z) (λ _ s1 y1=>aO y1 (λ _ s'' y=>?_) λ _ _ y=>y.elim) λ _ _ y=>y.elim);obtain ⟨a,cls,σ2,H2,rfl,J,xx,g⟩:=y;exact ⟨a,cls,H2,rfl,J.os,J.bare,J.base,J.hok,xx.less (λ p hp=>absurd hp (by simp)),g⟩
end
end L2
namespace L2
open PySem PySem.Spec PyProof.Rows
structure Cal (P:Program) (w:World) (K:PySem.W.Frag) (mg:Str->Option Value) (base:Heap) (x:Str) (k:Nat) (ps:List Str) (dvs:List V) (sp:Sp):Prop where
 ex:∃ f fd ds,FnOk P w K mg base (CXr P w) k f fd ps sp/\mg x=some (.ref f)/\PySem.W.keepIn K (.ref f)=true/\Binds K fd ps ds/\Vals dvs ds
structure MCal (P:Program) (w:World) (K:PySem.W.Frag) (mg:Str->Option Value) (base:Heap) (C:Addr) (m:Str) (k:Nat) (ps:List Str) (dvs:List V) (sp:Sp):Prop where
 cl:Cls K C
 ex:∃ f fd ds,FnOk P w K mg base (CXr P w) k f fd ps sp/\Meth K C m f/\Binds K fd ps ds/\Vals dvs ds
structure KCal (P:Program) (w:World) (K:PySem.W.Frag) (mg:Str->Option Value) (base:Heap) (x:Str) (C:Addr) (k:Nat) (ps:List Str) (dvs:List V) (sp:Sp):Prop where
 gl:mg x=some (.ref C)
 ex:∃ f fd ds,FnOk P w K mg base (CXr P w) k f fd ps sp/\Mk K C f/\Binds K fd ps ds/\Vals dvs ds
def Cal.mono {P:Program} {w:World} {K:PySem.W.Frag} {mg:Str->Option Value} {base:Heap} {x:Str} {j k:Nat} {ps:List Str} {dvs:List V} {sp:Sp} (c:Cal P w K mg base x j ps dvs sp) (h:j<=k:=by decide):Cal P w K mg base x k ps dvs sp:=by
 obtain ⟨f,fd,ds,a,b⟩:=c.ex;exact ⟨f,fd,ds,a.mono h,b⟩
def MCal.mono {P:Program} {w:World} {K:PySem.W.Frag} {mg:Str->Option Value} {base:Heap} {C:Addr} {m:Str} {j k:Nat} {ps:List Str} {dvs:List V} {sp:Sp} (c:MCal P w K mg base C m j ps dvs sp) (h:j<=k:=by decide):MCal P w K mg base C m k ps dvs sp:=by
 obtain ⟨f,fd,ds,a,b⟩:=c.ex;exact ⟨c.cl,f,fd,ds,a.mono h,b⟩
def KCal.mono {P:Program} {w:World} {K:PySem.W.Frag} {mg:Str->Option Value} {base:Heap} {x:Str} {C:Addr} {j k:Nat} {ps:List Str} {dvs:List V} {sp:Sp} (c:KCal P w K mg base x C j ps dvs sp) (h:j<=k:=by decide):KCal P w K mg base x C k ps dvs sp:=by
 obtain ⟨f,fd,ds,a,b⟩:=c.ex;exact ⟨c.gl,f,fd,ds,a.mono h,b⟩
section
variable {X:Cx} {G:GK} {k:Nat} {f C:Addr} {fd:FuncData} {ps:List Str} {sp:Sp} {dvs:List V} {ds:List Value} {x m:Str} {p pos apos:Pos} {e o:Expr} {es:List Expr} {ta:TE} {t:TA}
theorem Ji {pins:List (Addr × Obj)} {σ:St} {H:Hp} {s:Shared} {Q:VK} {us:List Value} {vs:List V} (B:Bod X) (F:FnOk X.prog X.w X.K X.mg X.base (CXr X.prog X.w) k f fd ps sp) (hr:Room k X.A) (hb:Binds X.K fd ps ds) (hd:Vals dvs ds)
  (I:Inv (X.exg G) pins σ H s) (r:Vals vs us) (h:sp (vs ++ dvs) H Q (λ cls _ H'=>G cls σ H')):wpAny (model X.prog X.w) X.A (call (.ref f) us) (EP (X.exg G) pins σ Q) (xeG X G) s:=by
 have r2:Vals (vs ++ dvs) (us ++ ds):=r.append hd;have hl:(us ++ ds).length=ps.length:=by rw [<- r2.length];exact F.len _ _ _ _ h
 refine dR (cx (F.run X.A X.stack s H ⟨us,[]⟩ (us ++ ds) (vs ++ dvs) Q _ hr I.unwish.env0 (hb s us I.kIn hl) r2 h) λ r s' hq=>?_);cases r with
 | error e=>exact QL B I.unwish hq
 | ok fl =>
  cases fl with
  | ret u=>exact I.after hq
  | next=>exact False.elim hq
  | brk=>exact False.elim hq
  | cont=>exact False.elim hq
theorem zc2 {pins:List (Addr × Obj)} {σ:St} {H:Hp} {s:Shared} {Q:VK} {us:List Value} {vs:List V} (B:Bod X) (M:Mk X.K C f) (F:FnOk X.prog X.w X.K X.mg X.base (CXr X.prog X.w) k f fd ps sp) (hr:Room (k + 1) X.A) (hb:Binds X.K fd ps ds) (hd:Vals dvs ds)
  (I:Inv (X.exg G) pins σ H s) (r:Vals vs us)
  (h:∀ x dx,H x=none->H dx=none->dx≠x->sp (.ref x :: (vs ++ dvs)) (upd (upd H dx (.own x)) x (.ins C dx [])) (λ v H2=>v=.non/\Q (.ref x) H2) (λ cls _ H'=>G cls σ H')) :
  wpAny (model X.prog X.w) X.A (call (.ref C) us) (EP (X.exg G) pins σ Q) (xeG X G) s:=by
 have hq:=h (s.heap.objs.size + 1) s.heap.objs.size (I.hok.fresh (cC _)) (I.hok.fresh (ar _)) (aF (b9 _));have I2:=Inv.made (C:=C) I;have r2:Vals (V.ref (s.heap.objs.size + 1) :: (vs ++ dvs)) (Value.ref (s.heap.objs.size + 1) :: (us ++ ds)):=.cons rfl (r.append hd);have hl:(Value.ref (s.heap.objs.size + 1) :: us ++ ds).length=ps.length:=by
  have e:=r2.length;rw [F.len _ _ _ _ hq] at e;exact e.symm
 refine dR (zaD (f:=f) I.kIn M.makes M.init (bB.mp M.fn) (cx (F.run _ X.stack _ _ ⟨Value.ref (s.heap.objs.size + 1) :: us,[]⟩ (Value.ref (s.heap.objs.size + 1) :: (us ++ ds)) _ _ _ (hr.make C us [])
  (I2.unwish.env0.make C us []) (hb _ (Value.ref (s.heap.objs.size + 1) :: us) I2.kIn hl) r2 hq) λ r s' hq'=>?_))
 cases r with
 | error e=>exact QL B I2.unwish hq'
 | ok fl =>
  cases fl with
  | ret u =>
   obtain ⟨v,H',I3,rv,ev,q3⟩:=I2.after hq';subst ev;exact ⟨rv,⟨V.ref (s.heap.objs.size + 1),H',I3,rfl,q3⟩⟩
  | next=>exact False.elim hq'
  | brk=>exact False.elim hq'
  | cont=>exact False.elim hq'
def tCl (X:Cx) (k:Nat) (x:Str) (G:GK) (t:TA):TE:=λ σ H Q=>∃ ps dvs sp,Cal X.prog X.w X.K X.mg X.base x k ps dvs sp/\t σ H λ vs H1=>sp (vs ++ dvs) H1 Q (λ cls _ H'=>G cls σ H')
def zt (B:Bod X) (hr:Room k X.A) (ha:PA (X.exg G) (e :: es) t) (hg:Gl X x:=by rfl) (hdb:(x == ("__debug__":Str))=false:=by decide)
  (he:starEach (e :: es) X.env=(false,eval e X.env) :: starEach es X.env:=by rfl) (hpl:(backTo pos (starEach es X.env)).any (·.1)=false:=by rfl) :
  PE (X.exg G) (.Call (.Name x p) (e :: es) [] pos) (tCl X k x G t):=by
 intro pins s σ H Q I h;obtain ⟨ps,dvs,sp,⟨f,fd,ds,F,hm,hk,hb,hd⟩,h⟩:=h;refine bA (xh I hg hm ?_ hdb);refine dG (h₀:=X.base) I.ok.mod.kin hk (w9 (ha pos pins s σ H _ I h) λ us s1 vs H1 I1 r q=>⟨I1.kIn,?_⟩) he hpl;exact Ji B F hr hb hd I1 r q
def tMk (X:Cx) (k:Nat) (x:Str) (G:GK) (t:TA):TE:=λ σ H Q=>∃ C ps dvs sp,KCal X.prog X.w X.K X.mg X.base x C k ps dvs sp/\t σ H λ vs H1=>∀ y dx,H1 y=none->H1 dx=none->dx≠y ->
 sp (.ref y :: (vs ++ dvs)) (upd (upd H1 dx (.own y)) y (.ins C dx [])) (λ v H2=>v=.non/\Q (.ref y) H2) (λ cls _ H'=>G cls σ H')
def qa (B:Bod X) (hr:Room (k + 1) X.A) (ha:PA (X.exg G) (e :: es) t) (hg:Gl X x:=by rfl) (hdb:(x == ("__debug__":Str))=false:=by decide)
  (he:starEach (e :: es) X.env=(false,eval e X.env) :: starEach es X.env:=by rfl) (hpl:(backTo pos (starEach es X.env)).any (·.1)=false:=by rfl) :
  PE (X.exg G) (.Call (.Name x p) (e :: es) [] pos) (tMk X k x G t):=by
 intro pins s σ H Q I h;obtain ⟨C,ps,dvs,sp,⟨hm,f,fd,ds,F,M,hb,hd⟩,h⟩:=h;refine bA (xh I hg hm ?_ hdb);refine dG (h₀:=X.base) I.ok.mod.kin M.kp (w9 (ha pos pins s σ H _ I h) λ us s1 vs H1 I1 r q=>⟨I1.kIn,?_⟩) he hpl;exact zc2 B M F hr hb hd I1 r q
def tMth (X:Cx) (k:Nat) (m:Str) (G:GK) (ta:TE) (t:TA):TE:=λ σ H Q=>ta σ H λ y H1=>∃ a C dx fs ps dvs sp,y=.ref a/\H1 a=some (.ins C dx fs)/\fs.lookup m=none /\
 MCal X.prog X.w X.K X.mg X.base C m k ps dvs sp/\t σ H1 λ vs H2=>sp (.ref a :: (vs ++ dvs)) H2 Q (λ cls _ H'=>G cls σ H')
def Vl {pl:Sem Bool} (B:Bod X) (hr:Room k X.A) (he:PE (X.exg G) o ta) (ha:PA (X.exg G) (e :: es) t)
  (hst:starEach (e :: es) X.env=(false,eval e X.env) :: starEach es X.env:=by rfl) (hpl:(backTo pos (starEach es X.env)).any (·.1)=false:=by rfl)
  (ht:eval (.Call (.Attribute o m apos) (e :: es) [] pos) X.env=(do
   let ov <- eval o X.env
   standAt apos.atName
   let (f,first) <- holding [ov] (getMethod ov m pl)
   callWith pos f first (backTo pos (starEach (e :: es) X.env)) (backToKw pos (keywordEach [] X.env))):=by rfl) :
  PE (X.exg G) (.Call (.Attribute o m apos) (e :: es) [] pos) (tMth X k m G ta t):=by
 intro pins s σ H Q I h;refine dU (pl:=pl) (thn (he pins s σ H _ I h) λ u s1 hz=>?_) ht;obtain ⟨x,H1,I1,rx,a,C,dx,fs,ps,dvs,sp,ex,ea,l,⟨c,f,fd,ds,F,hm,hb,hd⟩,q⟩:=hz;subst ex;obtain rfl:u=Value.ref a:=rx;refine Zz I1 ea c hm l ?_;refine dG (first:=[.ref a]) (h₀:=X.base) I.ok.mod.kin hm.kp (w9 (ha pos pins s1 σ H1 _ I1 q) λ us s2 vs H2 I2 r q2=>⟨I2.kIn,?_⟩) hst hpl;exact Ji (us:=.ref a :: us) (vs:=.ref a :: vs) B F hr hb hd I2 (.cons rfl r) q2
def Jl {pl:Sem Bool} (B:Bod X) (hr:Room k X.A) (he:PE (X.exg G) o ta)
  (ht:eval (.Call (.Attribute o m apos) [] [] pos) X.env=(do
   let ov <- eval o X.env
   standAt apos.atName
   let (f,first) <- holding [ov] (getMethod ov m pl)
   callWith pos f first (backTo pos (starEach [] X.env)) (backToKw pos (keywordEach [] X.env))):=by rfl) :
  PE (X.exg G) (.Call (.Attribute o m apos) [] [] pos) (tMth X k m G ta tNil):=by
 intro pins s σ H Q I h;refine dU (pl:=pl) (thn (he pins s σ H _ I h) λ u s1 hz=>?_) ht;obtain ⟨x,H1,I1,rx,a,C,dx,fs,ps,dvs,sp,ex,ea,l,⟨c,f,fd,ds,F,hm,hb,hd⟩,q⟩:=hz;subst ex;obtain rfl:u=Value.ref a:=rx;refine Zz I1 ea c hm l ?_;exact fm (first:=[.ref a]) I1.kIn hm.kp (Ji (us:=[.ref a]) (vs:=[.ref a]) B F hr hb hd I1 (.cons rfl .nil) q)
def tGl (X:Cx) (x:Str):TE:=λ _ H Q=>∃ v u,X.mg x=some u/\RelV v u/\Q v H
def jq (hg:Gl X x:=by rfl) (hd:(x == ("__debug__":Str))=false:=by decide):PE X (.Name x pos) (tGl X x):=λ _ _ _ H _ I h=>by
 obtain ⟨v,u,hm,r,h⟩:=h;exact xh I hg hm ⟨v,H,I,r,h⟩ hd
def tBl (X:Cx) (x:Str) (v:V):TE:=λ _ H Q=>X.mg x=none/\Q v H
def Wp {n:String} (hv:bootBuiltins x=some (.type n)) (hg:Gl X x:=by rfl) (hn:x≠"__name__":=by decide) (hd:(x == ("__debug__":Str))=false:=by decide):PE X (.Name x pos) (tBl X x (.ty n)):=λ _ _ _ H _ I h=>by
 obtain ⟨hm,h⟩:=h;exact wR I hg hm hv ⟨.ty n,H,I,rfl,h⟩ hn hd
def tBi (X:Cx) (x:Str) (r:List V->Hp->VK->Prop) (t:TA):TE:=λ σ H Q=>X.mg x=none/\t σ H λ vs H1=>r vs H1 Q
def zJ {id:String} {r:List V->Hp->VK->Prop} (hc:CallR X (.builtin id) r) (hv:bootBuiltins x=some (.builtin id)) (ha:PA X (e :: es) t) (hg:Gl X x:=by rfl) (hn:x≠"__name__":=by decide) (hdb:(x == ("__debug__":Str))=false:=by decide)
  (he:starEach (e :: es) X.env=(false,eval e X.env) :: starEach es X.env:=by rfl) (hpl:(backTo pos (starEach es X.env)).any (·.1)=false:=by rfl):PE X (.Call (.Name x p) (e :: es) [] pos) (tBi X x r t):=λ pins s σ H Q I h =>
 zew hc hg h.1 hv ha hn hdb he hpl pins s σ H Q I h.2
def wY {T:String} {r:List V->Hp->VK->Prop} (hc:CallR X (.type T) r) (hv:bootBuiltins x=some (.type T)) (ha:PA X (e :: es) t) (hg:Gl X x:=by rfl) (hn:x≠"__name__":=by decide) (hdb:(x == ("__debug__":Str))=false:=by decide)
  (he:starEach (e :: es) X.env=(false,eval e X.env) :: starEach es X.env:=by rfl) (hpl:(backTo pos (starEach es X.env)).any (·.1)=false:=by rfl):PE X (.Call (.Name x p) (e :: es) [] pos) (tBi X x r t):=λ pins s σ H Q I h =>
 zdd hc hg h.1 hv ha hn hdb he hpl pins s σ H Q I h.2
end
end L2
namespace L2
open PySem PySem.Spec PyProof.Rows
section
variable {X:Cx} {tg:Expr} {a b c e o:Expr} {ta tb tc:TE} {pos:Pos}
def iSeq (K:PySem.W.Frag) (tl:TE):TI:=λ σ H R=>tl σ H λ x H1=>∃ a,x=.ref a/\(((∃ xs,SqL K H1 a xs)/\R (Itl K a) H1)\/((∃ xs,SqT K H1 a xs)/\R (Itt K a) H1))
def qd {l:Expr} {tl:TE} (hl:PE X l tl):PI X tg l (iSeq X.K tl):=by
 intro pins s σ H R I h;refine qz (hl pins s σ H _ I h) λ v s1 x H1 I1 r1 q1=>?_;obtain ⟨a,e,q⟩:=q1;subst e;cases r1;rcases q with ⟨⟨xs,hq⟩,q⟩|⟨⟨xs,hq⟩,q⟩
 ·obtain ⟨its,rv,p,hz⟩:=I1.list hq;refine de p.isList ?_;refine ⟨s1.heap.objs.size,[s1.heap.objs.size],_,_,H1,rfl,I1.kept (t':=s1.toks) λ b o e=>ah _ e,zcL a _,⟨_,aA _ rfl,rfl,rfl⟩,λ b hb=>?_,q⟩;have e:b=s1.heap.objs.size:=by simpa using hb
  subst e;exact I1.fpOk (ar _) (I1.hok.fresh (ar _))
 ·obtain ⟨its,rv,p,hz⟩:=I1.tuple hq;refine wpAny_pyIter_tuple (show s1.heap.IsTuple a its.toArray from p) ?_;refine ⟨s1.heap.objs.size,[s1.heap.objs.size],_,_,H1,rfl,I1.kept (t':=s1.toks) λ b o e=>ah _ e,za3 a _,⟨_,aA _ rfl,rfl,rfl⟩,λ b hb=>?_,q⟩;have e:b=s1.heap.objs.size:=by simpa using hb
  subst e;exact I1.fpOk (ar _) (I1.hok.fresh (ar _))
def wN {ta:TA} {p pos:Pos} (ha:PA X [a] ta) (hg:Gl X "range":=by rfl) (hs:starEach [a] X.env=[(false,eval a X.env)]:=by rfl):PI X tg (.Call (.Name "range" p) [a] [] pos) (λ σ H R=>X.mg "range"=none/\iRng1 ta σ H R) :=
 λ pins s σ H R I h=>zdc hg h.1 ha hs pins s σ H R I h.2
def zhf {ta:TA} {p pos:Pos} (ha:PA X [a,b] ta) (hg:Gl X "range":=by rfl) (hs:starEach [a,b] X.env=[(false,eval a X.env),(false,eval b X.env)]:=by rfl) (hs2:starEach [b] X.env=[(false,eval b X.env)]:=by rfl):PI X tg (.Call (.Name "range" p) [a,b] [] pos) (λ σ H R=>X.mg "range"=none/\iRng2 ta σ H R) :=
 λ pins s σ H R I h=>zdb hg h.1 ha hs hs2 pins s σ H R I h.2
def zel (K:PySem.W.Frag):R2:=λ x y H Q=>∃ l b xs zs,x=.ref l/\y=.ref b/\SqL K H l xs/\SqL K H b zs/\xs.length + zs.length<=sizeLine/\∀ p,H p=none->Q (.ref p) (upd H p (.lst (xs ++ zs)))
def zf1:OpR X (binaryOp .Add) (zel X.K):=by
 intro pins s σ H x y v u Q I rx ry h;obtain ⟨l,b,xs,zs,rfl,rfl,hH,hB,hz,q⟩:=h;cases rx;cases ry;obtain ⟨its,r,p,z⟩:=I.list hH;obtain ⟨its2,r2,p2,z2⟩:=I.list hB;have e1:=r.length;have e2:=r2.length;obtain ⟨⟨cls,dd,data,sl⟩,n,ho,hc,hdd,hd⟩:=p;obtain ⟨⟨cls2,dd2,data2,sl2⟩,n2,ho2,hc2,hdd2,hd2⟩:=p2;simp only at hc hd hc2 hd2;subst hc hd hc2 hd2;have ea:its.toArray ++ its2.toArray=(its ++ its2).toArray:=by simp
 refine concat_meets ⟨_,ho,rfl⟩ ⟨_,ho2,rfl⟩ noFill_list_add seq_list_add PySem.F.slot_list_add PySem.F.entry_list_add (PySem.F.args_list_add_2 _ _) (list_addW l b its.toArray its2.toArray n n2 dd dd2 sl sl2 (by simp only [ao];omega)) ⟨ho,ho2,?_⟩;rw [ea];exact ⟨.ref _,_,I.lnew (t':=s.toks) (r.append r2) (by rw [aP];omega),rfl,q _ I.fresh⟩
def OpR.wk {f:Value->Value->Sem Value} {r r':R2} (h:OpR X f r) (k:∀ x y H Q,r' x y H Q->r x y H Q):OpR X f r':=λ pins s σ H x y v u Q I rx ry q=>h pins s σ H x y v u Q I rx ry (k x y H Q q)
def zam (K:PySem.W.Frag):R2:=λ x y H Q=>match x,y with
 | .int i,.int j=>Q (.int (i + j)) H
 | .str i,.str j=>i.length + j.length<=sizeLine/\Q (.str (i ++ j)) H
 | x,y=>zel K x y H Q
def qq:OpR X (binaryOp .Add) (zam X.K):=(op_add.or (op_add_str.or zf1)).wk λ x y H Q h=>by
 unfold zam at h
 split at h
 ·exact .inl h
 ·exact .inr (.inl ⟨_,_,rfl,rfl,h⟩)
 ·exact .inr (.inr h)
def rT (c:Int->Int->Prop) [∀ i j,Decidable (c i j)]:R2:=λ x y H Q=>iq x λ i=>iq y λ j=>if c i j then Q (.bl true) H else Q (.bl false) H
def zbK {c:Prop} [Decidable c] {Q:VK} {H:Hp} (h:if c then Q (.bl true) H else Q (.bl false) H):Q (.bl (decide c)) H:=by
 by_cases e:c
 ·rw [aq e] at h;rw [aJ e];exact h
 ·rw [am e] at h;rw [aH e];exact h
def zcm {c:Prop} [Decidable c] {Q:VK} {H:Hp} (h:if ¬ c then Q (.bl true) H else Q (.bl false) H):Q (.bl (!decide c)) H:=by
 by_cases e:c
 ·rw [am (λ z=>z e)] at h;rw [aJ e];exact h
 ·rw [aq e] at h;rw [aH e];exact h
def OpR.t {f:Value->Value->Sem Value} {c:Int->Int->Prop} [∀ i j,Decidable (c i j)] (h:OpR X f (rI0 λ i j=>.bl (decide (c i j)))):OpR X f (rT c):=h.wk λ x y H Q q=>by
 obtain ⟨i,j,rfl,rfl,q⟩:=Xw q;exact zbK q
def zez:OpR X (compareOp .Lt) (rT λ i j=>i < j):=op_lt.t
def jZ:OpR X (compareOp .LtE) (rT λ i j=>i<=j):=op_le.t
def Xf:OpR X (compareOp .Gt) (rT λ i j=>j < i):=op_gt.t
def qL:OpR X (compareOp .Is) (λ x y H Q=>nq y (if x=.non then Q (.bl true) H else Q (.bl false) H)):=op_isN.wk λ x y H Q q=>by
 obtain ⟨rfl,q⟩:=zci q;exact zbK q
def wP:OpR X (compareOp .IsNot) (λ x y H Q=>nq y (if ¬ x=.non then Q (.bl true) H else Q (.bl false) H)):=op_notN.wk λ x y H Q q=>by
 obtain ⟨rfl,q⟩:=zci q;exact zcm q
def zbx {op:Operator} {b:Expr} {y:V} {r:R2} (ho:OpR X (binaryOp op) r) (hb:PE X b (tC y)) {ta:TE} {r':V->Hp->VK->Prop} (k:∀ x H Q,r' x H Q->r x y H Q) {pos:Pos} (ha:PE X a ta):PE X (.BinOp a op b pos) (tUn r' ta):=by
 intro pins s σ H Q I h;refine wpAny_BinOp (qz (ha pins s σ H _ I h) λ v s1 x H1 I1 r1 q1=>thn (hb pins s1 σ H1 (λ z H2=>z=y/\H2=H1) I1 ⟨rfl,rfl⟩) λ u s2 ⟨z,H2,I2,r2,e,e2⟩=>?_);subst e e2;exact ho pins s2 σ H2 x z v u Q I2 r1 r2 (k x H2 Q q1)
def Qv {k:Int} {j:Nat} {p2 pos:Pos} {ta:TE} (ha:PE X a ta) (h:decide (0 < k)=true:=by rfl):PE X (.BinOp a .Mod (.Constant (.int k) j p2) pos) (tUn (rU λ i=>.int (i % k)) ta) :=
 zbx jA zd (λ x H Q q=>by obtain ⟨i,rfl,q⟩:=ZZ q;exact ⟨bO h,q⟩) ha
def Qw {k:Int} {j:Nat} {p2 pos:Pos} {ta:TE} (ha:PE X a ta) (h:decide (0 < k/\k < 1073741824)=true:=by rfl):PE X (.BinOp a .FloorDiv (.Constant (.int k) j p2) pos) (tUn (rU λ i=>.int (i / k)) ta) :=
 zbx zf0 zd (λ x H Q q=>by obtain ⟨i,rfl,q⟩:=ZZ q;have z:=bO h;exact ⟨z,q⟩) ha
def zer {b k:Int} {j j2:Nat} {p1 p2 pos:Pos} (h:decide (0<=k/\k<=1000000/\b.natAbs < 2 ^ 64)=true:=by rfl):PE X (.BinOp (.Constant (.int b) j p1) .Pow (.Constant (.int k) j2 p2) pos) (tC (.int (b ^ k.toNat))):=by
 intro pins s σ H Q I q;have z:=bO h;exact zR zhj zd zd pins s σ H Q I ⟨z,q⟩
def Qu {b k:Int} {j j2:Nat} {p1 p2 p3 pos:Pos} {ta:TE} (ha:PE X a ta) (h:decide (0<=k/\k<=1000000/\b.natAbs < 2 ^ 64)=true:=by rfl) (h0:decide (0 < b)=true:=by rfl) :
  PE X (.BinOp a .Mod (.BinOp (.Constant (.int b) j p1) .Pow (.Constant (.int k) j2 p2) p3) pos) (tUn (rU λ i=>.int (i % b ^ k.toNat)) ta) :=
 zbx jA (zer h) (λ x H Q q=>by obtain ⟨i,rfl,q⟩:=ZZ q;exact ⟨Int.pow_pos (bO h0),q⟩) ha
structure MulOk (i j:Int):Prop where
 h:IntMulOk i j
def Vt:OpR X (binaryOp .Mult) (rI MulOk λ i j=>.int (i * j)):=opI λ _ _ _ _ _ _ _ hc q=>mul_int q hc.h
structure CFd (_ j:Int):Prop where
 a:j≠0
 b:j.natAbs.log2 < 9000
def zf3:OpR X (binaryOp .FloorDiv) (rI CFd λ i j=>.int (i.fdiv j)):=opI λ _ _ _ _ _ _ _ hc q=>floordiv_int hc.1 q (.inl (PyProof.noPylong_of_log2 hc.2))
def zib:OpR X (compareOp .Lt) (rI0 λ i j=>.bl (decide (i < j))):=op_lt
def mul_okL {i j:Int} (h1:-(2 ^ 64) < i) (h2:i < 2 ^ 64):MulOk i j:=⟨PySem.IntMulOk.of_left (fh h1 h2)⟩
def mul_okR {i j:Int} (h1:-(2 ^ 64) < j) (h2:j < 2 ^ 64):MulOk i j:=⟨PySem.IntMulOk.of_right (fh h1 h2)⟩
def fd_ok {i j:Int} (h1:0 < j) (h2:j.natAbs < 2 ^ 8999):CFd i j:=⟨by omega,by
 have:=(Nat.log2_lt (n:=j.natAbs) (k:=8999) (by omega)).mpr h2;omega⟩
def fdiv_pos {i j:Int} (h:0 < j):i.fdiv j=i / j:=dY i (cE h)
noncomputable def wc:List V->List V->Bool
 | [],[]=>true
 | x :: xs,y :: ys=>eqV x y && wc xs ys
 | _,_=>false
theorem x9:∀ {xs ys:List V},xs.length≠ys.length->wc xs ys=false
 | [],[],h=>absurd rfl h
 | [],_ :: _,_=>rfl
 | _ :: _,[],_=>rfl
 | x :: xs,y :: ys,h=>by
  have:=x9 (xs:=xs) (ys:=ys) (λ e=>h (by simp [e]));unfold wc;rw [this,cF]
theorem wa:∀ {xs ys:List V},xs.length=ys.length->(List.range xs.length).all (λ j=>eqV (xs.getD j .non) (ys.getD j .non))=wc xs ys
 | [],[],_=>rfl
 | [],_ :: _,h=>by simp at h
 | _ :: _,[],h=>by simp at h
 | x :: xs,y :: ys,h=>by
  have ih:=wa (xs:=xs) (ys:=ys) (by simpa using h);unfold wc;rw [<- ih,bT,List.range_succ_eq_map,all_cons,List.all_map]
  rfl
theorem Vals.getD:∀ {xs:List V} {us:List Value} {j:Nat} (h:j < us.length),Vals xs us->RelV (xs.getD j .non) us[j]
 | _,_,0,_,.cons r _=>r
 | _,_,j + 1,h,.cons _ t=>Vals.getD (j:=j) (by simpa using h) t
theorem jR {xs:List V} (f:xs.all jr=true) (j:Nat):jr (xs.getD j .non)=true:=by
 rw [ae];cases e:xs[j]? with
 | none=>rfl
 | some x=>exact cf.mp f x (af e)
def zfS (K:PySem.W.Frag) (neg:Bool):R2:=λ x y H Q=>∃ a b xs ys,x=.ref a/\y=.ref b/\((SqL K H a xs/\SqL K H b ys)\/(SqT K H a xs/\SqT K H b ys))/\xs.all jr=true/\ys.all jr=true/\Q (.bl (if neg then !wc xs ys else wc xs ys)) H
def zdg (hu:X.A.units < cLine):OpR X (compareOp .Eq) (zfS X.K false):=by
 intro pins s σ H x y v u Q I rx ry h;obtain ⟨a,b,xs,ys,rfl,rfl,hq,fx,fy,q⟩:=h;cases rx;cases ry;have fin:EP X pins σ Q (.bool (wc xs ys)) s:=⟨.bl (wc xs ys),H,I,rfl,q⟩;rcases hq with ⟨h1,h2⟩|⟨h1,h2⟩
 ·obtain ⟨its,r,p,_⟩:=I.list h1;obtain ⟨its2,r2,p2,_⟩:=I.list h2;have e1:=r.length;have e2:=r2.length;by_cases hl:xs.length=ys.length
  ·refine ed (e:=λ j=>eqV (xs.getD j .non) (ys.getD j .non)) p.isList p2.isList (by simp only [ao];omega) hu (λ j h1 h2=>?_) _ _ _ _ ?_
   ·exact ZB (Vals.getD (by simpa using h1) r) (Vals.getD (by simpa using h2) r2) (jR fx j) (jR fy j)
   ·rw [ao,<- e1,wa hl];exact fin
  ·rw [x9 hl] at fin;exact fC p.isList p2.isList (by simp only [ao];simp;omega) hu _ _ _ _ fin
 ·obtain ⟨its,r,p,_⟩:=I.tuple h1;obtain ⟨its2,r2,p2,_⟩:=I.tuple h2;have e1:=r.length;have e2:=r2.length;refine cN (e:=λ j=>eqV (xs.getD j .non) (ys.getD j .non)) p p2 hu (λ j h1 h2=>?_) _ _ _ _ ?_
  ·exact ZB (Vals.getD (by simpa using h1) r) (Vals.getD (by simpa using h2) r2) (jR fx j) (jR fy j)
  ·by_cases hl:xs.length=ys.length
   ·have em:min its.toArray.size its2.toArray.size=xs.length:=by simp only [ao];omega
    have es:(its.toArray.size == its2.toArray.size)=true:=by simp only [ao];rw [bB];omega
    rw [em,es,wa hl,eu];exact fin
   ·have es:(its.toArray.size == its2.toArray.size)=false:=by simp only [ao];rw [a9];omega
    rw [es,cF];rw [x9 hl] at fin;exact fin
def zdf (hu:X.A.units < cLine):OpR X (compareOp .NotEq) (zfS X.K true):=by
 intro pins s σ H x y v u Q I rx ry h;obtain ⟨a,b,xs,ys,rfl,rfl,hq,fx,fy,q⟩:=h;cases rx;cases ry;have fin:EP X pins σ Q (.bool (!wc xs ys)) s:=⟨.bl (!wc xs ys),H,I,rfl,q⟩;rcases hq with ⟨h1,h2⟩|⟨h1,h2⟩
 ·obtain ⟨its,r,p,_⟩:=I.list h1;obtain ⟨its2,r2,p2,_⟩:=I.list h2;have e1:=r.length;have e2:=r2.length;by_cases hl:xs.length=ys.length
  ·refine SeqAt.RcNeAt.lists (e:=λ j=>eqV (xs.getD j .non) (ys.getD j .non)) p.isList p2.isList (by simp only [ao];omega) hu (λ j h1 h2=>?_) _ _ _ _ ?_
   ·exact ZB (Vals.getD (by simpa using h1) r) (Vals.getD (by simpa using h2) r2) (jR fx j) (jR fy j)
   ·rw [ao,<- e1,wa hl];exact fin
  ·rw [x9 hl] at fin;exact SeqAt.RcNeAt.lists_lengths p.isList p2.isList (by simp only [ao];simp;omega) hu _ _ _ _ fin
 ·obtain ⟨its,r,p,_⟩:=I.tuple h1;obtain ⟨its2,r2,p2,_⟩:=I.tuple h2;have e1:=r.length;have e2:=r2.length;refine SeqAt.RcNeAt.tuples (e:=λ j=>eqV (xs.getD j .non) (ys.getD j .non)) p p2 hu (λ j h1 h2=>?_) _ _ _ _ ?_
  ·exact ZB (Vals.getD (by simpa using h1) r) (Vals.getD (by simpa using h2) r2) (jR fx j) (jR fy j)
  ·by_cases hl:xs.length=ys.length
   ·have em:min its.toArray.size its2.toArray.size=xs.length:=by simp only [ao];omega
    have es:(its.toArray.size == its2.toArray.size)=true:=by simp only [ao];rw [bB];omega
    rw [em,es,wa hl,eu];exact fin
   ·have es:(its.toArray.size == its2.toArray.size)=false:=by simp only [ao];rw [a9];omega
    rw [es,cF];rw [x9 hl] at fin;exact fin
inductive DE (K:PySem.W.Frag) (H:Hp):Nat->V->V->Bool->Prop
 | flat {n:Nat} {x y:V}:jr x=true->jr y=true->DE K H n x y (eqV x y)
 | same {n:Nat} {p:Addr}:DE K H n (.ref p) (.ref p) true
 | lists {n:Nat} {p q:Addr} {xs ys:List V} {e:Nat->Bool}:p≠q->SqL K H p xs->SqL K H q ys->xs.length=ys.length->(∀ j x y,xs[j]?=some x->ys[j]?=some y->DE K H n x y (e j))->DE K H (n + 1) (.ref p) (.ref q) ((List.range xs.length).all e)
 | listsL {n:Nat} {p q:Addr} {xs ys:List V}:p≠q->SqL K H p xs->SqL K H q ys->xs.length≠ys.length->DE K H (n + 1) (.ref p) (.ref q) false
 | tuples {n:Nat} {p q:Addr} {xs ys:List V} {e:Nat->Bool}:p≠q->SqT K H p xs->SqT K H q ys->(∀ j x y,xs[j]?=some x->ys[j]?=some y->DE K H n x y (e j))->DE K H (n + 1) (.ref p) (.ref q) ((List.range (min xs.length ys.length)).all e && xs.length == ys.length)
 | nt {n:Nat} {p:Addr} {xs:List V}:SqT K H p xs->DE K H n .non (.ref p) false
 | tn {n:Nat} {p:Addr} {xs:List V}:SqT K H p xs->DE K H n (.ref p) .non false
def Vals.at_ {xs:List V} {us:List Value} (r:Vals xs us) {j:Nat} (h:j < us.toArray.size):∃ x,xs[j]?=some x/\RelV x us.toArray[j]:=by
 have h':j < us.length:=by simpa using h
 have hl:j < xs.length:=by rw [r.length];exact h'
 obtain ⟨u,hu,ru⟩:=r.get (ac hl);have e:us.toArray[j]=u:=by
  have:=aa.mp hu;obtain ⟨_,e⟩:=this;simpa using e
 exact ⟨xs[j],ac hl,e ▸ ru⟩
theorem zcz {pins:List (Addr × Obj)} {s:Shared} {σ:St} {H:Hp} {n:Nat} {x y:V} {b:Bool} (I:Inv X pins σ H s) (h:DE X.K H n x y b):∀ {u v:Value} {A:Around},RelV x u->RelV y v->A.units + n < cLine->SeqAt.EqAt A s u v b:=by
 induction h with
 | flat fx fy=>intro u v A rx ry _;exact ZB rx ry fx fy
 | same=>intro u v A rx ry _;cases rx;cases ry;exact dD _
 | lists hne h1 h2 hl _ ih =>
  intro u v A rx ry hu;cases rx;cases ry;obtain ⟨its,r,p,_⟩:=I.list h1;obtain ⟨its2,r2,p2,_⟩:=I.list h2;have e1:=r.length;have e2:=r2.length;refine cI hne ?_;have:=ed (A:=A) (s:=s) p.isList p2.isList (by simp only [ao];omega) (by omega) (λ j h1 h2=>by
   obtain ⟨x,hx,rx⟩:=r.at_ h1;obtain ⟨y,hy,ry⟩:=r2.at_ h2;exact ih j x y hx hy rx ry (by show A.units + 1 + _ < _;omega))
  rw [ao,<- e1] at this;exact this
 | listsL hne h1 h2 hl =>
  intro u v A rx ry hu;cases rx;cases ry;obtain ⟨its,r,p,_⟩:=I.list h1;obtain ⟨its2,r2,p2,_⟩:=I.list h2;have e1:=r.length;have e2:=r2.length;exact cI hne (fC p.isList p2.isList (by simp only [ao];simp;omega) (by omega))
 | tuples hne h1 h2 _ ih =>
  intro u v A rx ry hu;cases rx;cases ry;obtain ⟨its,r,p,_⟩:=I.tuple h1;obtain ⟨its2,r2,p2,_⟩:=I.tuple h2;have e1:=r.length;have e2:=r2.length;refine cI hne ?_;have:=cN (A:=A) (s:=s) p p2 (by omega) (λ j h1 h2=>by
   obtain ⟨x,hx,rx⟩:=r.at_ h1;obtain ⟨y,hy,ry⟩:=r2.at_ h2;exact ih j x y hx hy rx ry (by show A.units + 1 + _ < _;omega))
  simp only [ao,<- e1,<- e2] at this;exact this
 | nt h1 =>
  intro u v A rx ry hu;cases rx;cases ry;obtain ⟨its,r,p,_⟩:=I.tuple h1;exact SeqAt.EqAt.none_tuple p (by omega)
 | tn h1 =>
  intro u v A rx ry hu;cases rx;cases ry;obtain ⟨its,r,p,_⟩:=I.tuple h1;exact SeqAt.EqAt.tuple_none p (by omega)
def zfT (K:PySem.W.Frag) (neg:Bool):R2:=λ x y H Q=>∃ p q xs ys n e,x=.ref p/\y=.ref q/\n<=8/\(∀ j x y,xs[j]?=some x->ys[j]?=some y->DE K H n x y (e j)) /\
 ((SqL K H p xs/\SqL K H q ys/\xs.length=ys.length/\Q (.bl (if neg then !((List.range xs.length).all e) else (List.range xs.length).all e)) H) \/
   (SqT K H p xs/\SqT K H q ys/\Q (.bl (if neg then !((List.range (min xs.length ys.length)).all e && xs.length == ys.length) else ((List.range (min xs.length ys.length)).all e && xs.length == ys.length))) H))
def zbz (hu:X.A.units + 100 < cLine):OpR X (compareOp .Eq) (zfT X.K false):=by
 intro pins s σ H x y v u Q I rx ry h;obtain ⟨p,q,xs,ys,n,e,rfl,rfl,hn,hde,h⟩:=h;cases rx;cases ry;rcases h with ⟨h1,h2,hl,q⟩|⟨h1,h2,q⟩
 ·obtain ⟨its,r,p,_⟩:=I.list h1;obtain ⟨its2,r2,p2,_⟩:=I.list h2;have e1:=r.length;have e2:=r2.length;refine ed (e:=e) p.isList p2.isList (by simp only [ao];omega) (by omega) (λ j h1 h2=>?_) _ _ _ _ ?_
  ·obtain ⟨x,hx,rx⟩:=r.at_ h1;obtain ⟨y,hy,ry⟩:=r2.at_ h2;exact zcz I (hde j x y hx hy) rx ry (by show X.A.units + 1 + _ < _;omega)
  ·rw [ao,<- e1];exact ⟨.bl _,H,I,rfl,q⟩
 ·obtain ⟨its,r,p,_⟩:=I.tuple h1;obtain ⟨its2,r2,p2,_⟩:=I.tuple h2;have e1:=r.length;have e2:=r2.length;refine cN (e:=e) p p2 (by omega) (λ j h1 h2=>?_) _ _ _ _ ?_
  ·obtain ⟨x,hx,rx⟩:=r.at_ h1;obtain ⟨y,hy,ry⟩:=r2.at_ h2;exact zcz I (hde j x y hx hy) rx ry (by show X.A.units + 1 + _ < _;omega)
  ·simp only [ao,<- e1,<- e2];exact ⟨.bl _,H,I,rfl,q⟩
def zby (hu:X.A.units + 100 < cLine):OpR X (compareOp .NotEq) (zfT X.K true):=by
 intro pins s σ H x y v u Q I rx ry h;obtain ⟨p,q,xs,ys,n,e,rfl,rfl,hn,hde,h⟩:=h;cases rx;cases ry;rcases h with ⟨h1,h2,hl,q⟩|⟨h1,h2,q⟩
 ·obtain ⟨its,r,p,_⟩:=I.list h1;obtain ⟨its2,r2,p2,_⟩:=I.list h2;have e1:=r.length;have e2:=r2.length;refine SeqAt.RcNeAt.lists (e:=e) p.isList p2.isList (by simp only [ao];omega) (by omega) (λ j h1 h2=>?_) _ _ _ _ ?_
  ·obtain ⟨x,hx,rx⟩:=r.at_ h1;obtain ⟨y,hy,ry⟩:=r2.at_ h2;exact zcz I (hde j x y hx hy) rx ry (by show X.A.units + 1 + _ < _;omega)
  ·rw [ao,<- e1];exact ⟨.bl _,H,I,rfl,q⟩
 ·obtain ⟨its,r,p,_⟩:=I.tuple h1;obtain ⟨its2,r2,p2,_⟩:=I.tuple h2;have e1:=r.length;have e2:=r2.length;refine SeqAt.RcNeAt.tuples (e:=e) p p2 (by omega) (λ j h1 h2=>?_) _ _ _ _ ?_
  ·obtain ⟨x,hx,rx⟩:=r.at_ h1;obtain ⟨y,hy,ry⟩:=r2.at_ h2;exact zcz I (hde j x y hx hy) rx ry (by show X.A.units + 1 + _ < _;omega)
  ·simp only [ao,<- e1,<- e2];exact ⟨.bl _,H,I,rfl,q⟩
def zbv (K:PySem.W.Frag):R2:=λ x y H Q=>match x,y with
 | .int i,.int j=>Q (.bl (decide (i=j))) H
 | .str i,.str j=>Q (.bl (decide (i=j))) H
 | .bl i,.bl j=>Q (.bl (decide (i=j))) H
 | x,y=>rEq x y H Q\/zfS K false x y H Q\/zfT K false x y H Q
def zc6 (K:PySem.W.Frag):R2:=λ x y H Q=>match x,y with
 | .int i,.int j=>Q (.bl (!decide (i=j))) H
 | .str i,.str j=>Q (.bl (!decide (i=j))) H
 | .bl i,.bl j=>Q (.bl (!decide (i=j))) H
 | x,y=>rNe x y H Q\/zfS K true x y H Q\/zfT K true x y H Q
def zc7 (K:PySem.W.Frag):R2:=λ x y H Q=>match x,y with
 | .int i,.int j=>if i=j then Q (.bl true) H else Q (.bl false) H
 | .str i,.str j=>if i=j then Q (.bl true) H else Q (.bl false) H
 | .bl i,.bl j=>if i=j then Q (.bl true) H else Q (.bl false) H
 | x,y=>zbv K x y H Q
def zc5 (K:PySem.W.Frag):R2:=λ x y H Q=>match x,y with
 | .int i,.int j=>if ¬ i=j then Q (.bl true) H else Q (.bl false) H
 | .str i,.str j=>if ¬ i=j then Q (.bl true) H else Q (.bl false) H
 | .bl i,.bl j=>if ¬ i=j then Q (.bl true) H else Q (.bl false) H
 | x,y=>zc6 K x y H Q
def Ws (hu:X.A.units + 100 < cLine):OpR X (compareOp .Eq) (zbv X.K):=(op_eq.or ((zdg (by omega)).or (zbz hu))).wk λ x y H Q h=>by
 unfold zbv at h
 split at h <;> first|exact h|exact .inl ⟨rfl,by simpa using h⟩
def zia (hu:X.A.units + 100 < cLine):OpR X (compareOp .NotEq) (zc6 X.K):=(op_ne.or ((zdf (by omega)).or (zby hu))).wk λ x y H Q h=>by
 unfold zc6 at h
 split at h <;> first|exact h|exact .inl ⟨rfl,by simpa using h⟩
def j5 (hu:X.A.units + 100 < cLine):OpR X (compareOp .Eq) (zc7 X.K):=(Ws hu).wk λ x y H Q h=>by
 unfold zc7 at h
 split at h <;> first|exact h|exact zbK (Q:=Q) h
def vZ (hu:X.A.units + 100 < cLine):OpR X (compareOp .NotEq) (zc5 X.K):=(zia hu).wk λ x y H Q h=>by
 unfold zc5 at h
 split at h <;> first|exact h|exact zcm (Q:=Q) h
def Room.units1 {k:Nat} {A:Around} (r:Room k A):A.units + 100 < cLine:=by have:=r.un;omega
noncomputable def zgr:V->Option Value
 | .ty n=>some (.type n)
 | .ref a=>some (.ref a)
 | _=>none
def zQ:bootBuiltins "len"=some (.builtin "len"):=by decide +kernel
def zB:bootBuiltins "isinstance"=some (.builtin "isinstance"):=by decide +kernel
def zfn:bootBuiltins "max"=some (.builtin "max"):=by decide +kernel
def zdP:bootBuiltins "sorted"=some (.builtin "sorted"):=by decide +kernel
def zfo:bootBuiltins "int"=some (.type "int"):=by decide +kernel
def xN:bootBuiltins "list"=some (.type "list"):=by decide +kernel
def vJ:bootBuiltins "tuple"=some (.type "tuple"):=by decide +kernel
def zcG:bootBuiltins "bool"=some (.type "bool"):=by decide +kernel
def QQ {K:PySem.W.Frag}:PySem.W.kitOne K (.type "int") (.type "int")=some true:=by rfl
def ZV {K:PySem.W.Frag}:PySem.W.kitOne K (.type "int") (.type "bool")=some false:=by rfl
def Zc {K:PySem.W.Frag}:PySem.W.kitOne K (.type "bool") (.type "bool")=some true:=by rfl
def QP {K:PySem.W.Frag}:PySem.W.kitOne K (.type "str") (.type "str")=some true:=by rfl
def zaI {K:PySem.W.Frag}:PySem.W.kitOne K (.type "tuple") (.type "tuple")=some true:=by rfl
def zhD:IxR X (rIx X.K):=zhC
def zS:CallR X (.builtin "len") (λ xs H Q=>lq xs λ x=>∃ n,ziv X.K x H n/\Q (.int n) H):=λ pins s σ H xs us Q I r h=>let ⟨x,e,n,h⟩:=zeK h;zff pins s σ H xs us Q I r ⟨x,n,e,h⟩
def zhr {xs:List V} {P:Int->Prop} (h:lq xs λ v=>iq v P):∃ i,xs=[.int i]/\P i:=by
 obtain ⟨v,rfl,h⟩:=zeK h;obtain ⟨i,rfl,h⟩:=ZZ h;exact ⟨i,rfl,h⟩
end
end L2
namespace L2
open PySem PySem.Spec PyProof.Rows
abbrev bmV:List Value:=[.type "ValueError",.type "Exception",.type "BaseException",.type "object"]
structure XC (K:PySem.W.Frag) (C:Addr):Prop where
 q:excIn K C bmV "ValueError.__new__"=true
def zgT {K:PySem.W.Frag} {C:Addr} {h₀:Heap} (X:K.In h₀) (x:XC K C):∃ bm N nm q bs hdct sn sub ab col dd k0 k1 k2 k3 k5 mN,h₀.get? C=some (excClassObj nm q C N bs bm hdct sn sub ab col dd k0 k1 k2 k3 k5 "ValueError.__new__")/\h₀.Ns N mN/\mN "__init__"=none/\OwnTail h₀ bmV bm:=by
 have q:=x.q;unfold excIn at q
 split at q
 ·rename_i dd cd sl ho
  split at q
  ·rename_i C' bm k0 k1 k2 k3 n k5 hm hs;simp only [cg,bB,Bool.not_eq_true'] at q;obtain ⟨⟨⟨⟨⟨rfl,rfl⟩,hdel⟩,ht⟩,hok⟩,hni⟩:=q;obtain ⟨nm,bs,mro,ns,qn,hd,sn,sub,ab,col,del⟩:=cd;dsimp only at hm hdel hok hni;subst hm hdel;have hsl:sl=#[k0,k1,k2,k3,some (.builtin "ValueError.__new__"),k5]:=by
    obtain ⟨l⟩:=sl;simp only at hs;rw [hs]
   subst hsl;exact ⟨bm,ns,nm,qn,bs,hd,sn,sub,ab,col,dd,k0,k1,k2,k3,k5,_,X _ _ ho,.of_isNs (PySem.W.isNs_of_in X hok),PySem.W.nsMap_none_of_in X hok hni,PySem.W.tail_of_in X ht⟩
  ·cases q
 ·cases q
section
variable {X:Cx} {G:GK} {x n:Str} {np cpos pos hpos:Pos} {e₀:Expr} {es:List Expr} {t:TA}
def tRaise (X:Cx) (x:Str) (G:GK) (t:TA):TS:=λ _ σ H=>∃ C,X.mg x=some (.ref C)/\XC X.K C/\t σ H λ vs H1=>szl vs (G (.ref C) σ H1)
def qP (B:Bod X) (hc:X.calm=true) (ha:PA (X.exg G) (e₀ :: es) t) (hg:Gl X x:=by rfl) (hdb:(x == ("__debug__":Str))=false:=by decide)
  (he:starEach (e₀ :: es) X.env=(false,eval e₀ X.env) :: starEach es X.env:=by rfl) (hpl:(backTo cpos (starEach es X.env)).any (·.1)=false:=by rfl) :
  PS (X.exg G) (.Raise (some (.Call (.Name x np) (e₀ :: es) [] cpos)) none pos) (tRaise X x G t):=by
 intro pins s σ H D I h;obtain ⟨C,hm,xc,h⟩:=h;obtain ⟨tl,N,nm,q,bs,hdct,sn,sub,ab,col,dd,k0,k1,k2,k3,k5,mN,hC,hN,hni,T⟩:=zgT I.ok.mod.kin xc;refine wpAny_Raise_call_subT (C:=C) (nm:=nm) (q:=q) (N:=N) (bs:=bs) (bm:=tl) (hdct:=hdct) (sn:=sn) (sub:=sub) (ab:=ab) (col:=col) (dd:=dd) (k0:=k0) (k1:=k1) (k2:=k2) (k3:=k3) (k5:=k5)
  F.excBase_ValueError (mN:=mN) (T.hasType F.excBase_ValueError.hasBase) (I.ok.hd hc) (by rw [he];show (false || (backTo cpos (starEach es X.env)).any (·.1))=false;rw [hpl];rfl) hni (xh I hg hm ⟨rfl,?_⟩ hdb)
 have hA:=ha cpos pins s σ H _ I h;rw [he] at hA ⊢;refine Calls.evalArgs_plain (thn hA λ us s2 ⟨vs,H2,I2,r,g⟩=>?_);obtain ⟨hl,g⟩:=za5 g;exact ⟨rfl,by rw [<- r.length];exact hl,I2.bk _ _ hC,hN.keeps I2.bk,T.keeps I2.bk,λ h' a hm=>zaY B I2.unwish hm g⟩
end
noncomputable def zdA (a:Addr) (cls:Value):HO:=.ext λ h=>∃ o vs,h.get? a=some o/\o.cls=cls/\o.dict=none/\o.data=.fields vs
def Exc.obj {g h:Heap} {H:Hp} {pn:List (Addr × Obj)} {a:Addr} {cls:Value} (x:Exc g h H pn a cls):∃ o vs,h.get? a=some o/\o.cls=cls/\o.dict=none/\o.data=.fields vs:=by
 obtain ⟨oe,vs,_,_,_,h1,h2,h3,h4,_⟩:=x.ex;exact ⟨oe,vs,h1,h2,h3,h4⟩
section
variable {X:Cx} {pins:List (Addr × Obj)} {σ:St} {H:Hp} {s:Shared}
def Inv.track {a:Addr} {u:HO} (I:Inv X pins σ H s) (Ha:H a=none) (ga:X.s₀.heap.get? a=none) (hrec:∃ o vs,s.heap.get? a=some o/\o.data=.fields vs) (pa:∀ p∈X.pn ++ pins,p.1≠a)
  (new:ObjOk X.prog X.w (upd H a u) s.heap a u):Inv X pins σ (upd H a u) s:=by
 obtain ⟨o,vs,ho,hd⟩:=hrec;have neL:X.env.locals≠a:=λ z=>by
  obtain ⟨m,⟨o',es,ep,ho',hd',_⟩,_⟩:=I.loc;rw [z,ho] at ho';cases ho';rw [hd'] at hd;cases hd
 have neC:∀ x c,X.env.cells.lookup x=some c->c≠a:=λ x c e z=>by
  obtain ⟨v,o',ho',hd'⟩:=I.cell x c e;rw [z,ho] at ho';cases ho';rw [hd'] at hd;cases hd
 have keep:∀ b v,H b=some v->upd H a u b=some v:=λ b v e=>by
  rw [upd_ne (ne_of_none e Ha)];exact e
 refine ⟨I.ok,I.os,I.bare,⟨I.base.keep,I.base.slot,λ b o' e n hx=>?_,I.base.there,λ b xs e=>keep b _ (I.base.tups b xs e),λ b o' v e=>keep b _ (I.base.frzs b o' v e),λ b ps e=>?_⟩,I.loc,I.cell,?_,λ x c e=>?_,λ p hp=>?_,λ b v e=>?_,I.len⟩
 ·have:b≠a:=λ z=>by rw [z,ga] at e;cases e
  rw [upd_ne this];exact I.base.free b o' e n hx
 ·obtain ⟨more,q⟩:=I.base.tbls b ps e;exact ⟨more,keep b _ q⟩
 ·rw [upd_ne neL];exact I.free
 ·rw [upd_ne (neC x c e)];exact I.freeC x c e
 ·obtain ⟨e,n,ne,nf,d⟩:=I.pin p hp;exact ⟨e,by rw [upd_ne (pa p hp)];exact n,ne,nf,d⟩
 ·by_cases hb:b=a
  ·subst hb;rw [upd_same] at e;cases e;exact new
  ·rw [upd_ne hb] at e;exact (I.hok b v e).stay (λ _ _ _ q=>q) (λ c q=>keep c _ q) λ c xs q=>keep c _ q
def zgk {a:Addr} {cls:Value} {h:Heap} (x:∃ o vs,h.get? a=some o/\o.cls=cls/\o.dict=none/\o.data=.fields vs) {P:Program} {w:World} {H:Hp}:ObjOk P w H h a (zdA a cls):=by
 refine ⟨x,let ⟨o,_,e,_⟩:=x;⟨o,e⟩,λ h1 h2 p k=>?_⟩;obtain ⟨o,vs,e,r⟩:=p;exact ⟨o,vs,k o e,r⟩
def XA {M:Model} {A:Around} {E:Value->Shared->Prop} {a:Addr} {cls:Value} {Q:Unit->Shared->Prop} (I:Inv X pins σ H s) (x:Exc X.s₀.heap s.heap H (X.pn ++ pins) a cls)
  (hQ:∀ s',Inv X pins σ H s'->Exc X.s₀.heap s'.heap H (X.pn ++ pins) a cls->Q () s'):wpAny M A (setFlight (.ref a) none) Q E s:=by
 obtain ⟨⟨oe,vs,T,oT,ts,h1,h2,h3,h4,h5,h6,h7,h8,h9,h10,h11,h12⟩,ga,Ha,pa⟩:=x;have h3s:3 < ts.size:=(bJ.mp h9).1;refine wpAny_setFlight_none h1 h4 h5 h7 h8 h3s ?_;have hT:=bS (Obj.mapFields (·.setIfInBounds 3 Value.none)) h7 (b8 (bj h8 _));have other:∀ b,b≠T->(s.heap.update T (Obj.mapFields (·.setIfInBounds 3 Value.none))).get? b=s.heap.get? b:=λ b hb=>bd _ _ (aZ hb);refine hQ _ (I.stepx (ch:=[T]) (λ b hb=>?_) (λ b hb=>?_) (λ b o _ hc q=>(other b (λ z=>hc (by simp [z]))).trans q) (λ b o hc q=>⟨o.slots,(other b (λ z=>hc (by simp [z]))).trans q⟩) λ b hb=>?_)
  ⟨⟨oe,vs,T,_,_,(other a (aZ h6)).trans h1,h2,h3,h4,h5,h6,hT,bj h8 _,by simp [h3s],h10,h11,h12⟩,ga,Ha,pa⟩
 ·obtain rfl:b=T:=by simpa using hb
  exact ⟨h10,h11,h12⟩
 ·obtain rfl:b=T:=by simpa using hb
  exact ⟨oT,ts,h7,h8⟩
 ·obtain rfl:b=T:=by simpa using hb
  exact ⟨_,hT⟩
end
noncomputable abbrev Cx.suite (X:Cx) (pn:List (Addr × Obj)) (a:Addr):Cx:={ X with pn:=pn,A:=X.A.mark (some (.ref a)),calm:=false,xe:=λ _ _=>False }
noncomputable abbrev Cx.pinned (X:Cx) (pn:List (Addr × Obj)):Cx:={ X with pn:=pn }
section
variable {X:Cx} {pins:List (Addr × Obj)} {σ:St} {H:Hp} {s:Shared}
def Inv.topn (I:Inv X pins σ H s):Inv (X.pinned (X.pn ++ pins)) [] σ H s :=
 ⟨⟨I.ok.mod,I.ok.kind,I.ok.glob,I.ok.blt,I.ok.above,I.ok.inj,I.ok.has,I.ok.cab,I.ok.hd,I.ok.frames,I.ok.stk,I.ok.exf,I.ok.bs,I.ok.bsz,I.ok.noex,I.ok.exfs,I.ok.funs,I.ok.frf⟩,
  I.os,I.bare,I.base,I.loc,I.cell,I.free,I.freeC,λ p hp=>I.pin p (by rwa [cn] at hp),I.hok,I.len⟩
def Inv.ofpn (I:Inv (X.pinned (X.pn ++ pins)) [] σ H s):Inv X pins σ H s :=
 ⟨⟨I.ok.mod,I.ok.kind,I.ok.glob,I.ok.blt,I.ok.above,I.ok.inj,I.ok.has,I.ok.cab,I.ok.hd,I.ok.frames,I.ok.stk,I.ok.exf,I.ok.bs,I.ok.bsz,I.ok.noex,I.ok.exfs,I.ok.funs,I.ok.frf⟩,
  I.os,I.bare,I.base,I.loc,I.cell,I.free,I.freeC,λ p hp=>I.pin p (by rw [cn];exact hp),I.hok,I.len⟩
def Inv.tosuite {pn:List (Addr × Obj)} {a:Addr} (I:Inv (X.pinned pn) [] σ H s):Inv (X.suite pn a) [] σ H s :=
 ⟨⟨I.ok.mod,I.ok.kind,I.ok.glob,I.ok.blt,I.ok.above,I.ok.inj,I.ok.has,I.ok.cab,λ h=>Bool.noConfusion h,I.ok.frames,I.ok.stk,I.ok.exf,I.ok.bs,I.ok.bsz,I.ok.noex,I.ok.exfs,I.ok.funs,I.ok.frf⟩,
  I.os,I.bare,I.base,I.loc,I.cell,I.free,I.freeC,I.pin,I.hok,I.len⟩
def Inv.ofsuite {pn:List (Addr × Obj)} {a:Addr} (hd:X.calm=true->X.A.handled=none) (I:Inv (X.suite pn a) [] σ H s):Inv (X.pinned pn) [] σ H s :=
 ⟨⟨I.ok.mod,I.ok.kind,I.ok.glob,I.ok.blt,I.ok.above,I.ok.inj,I.ok.has,I.ok.cab,hd,I.ok.frames,I.ok.stk,I.ok.exf,I.ok.bs,I.ok.bsz,I.ok.noex,I.ok.exfs,I.ok.funs,I.ok.frf⟩,
  I.os,I.bare,I.base,I.loc,I.cell,I.free,I.freeC,I.pin,I.hok,I.len⟩
def vQ {M:Model} {A:Around} {E:Value->Shared->Prop} {i:Nat} {n:Str} {pos:Pos} {Q:Unit->Shared->Prop} (I:Inv X pins σ H s) (hN:X.N.Nodup) (hi:X.N[i]?=some n) (hlo:X.env.kindOf n=some .local)
  (hQ:∀ s',Inv X pins (σ.set i none) H s'->Q () s'):wpAny M A (do bindName X.env n .none;unbindBehindTheSuite X.env n pos) Q E s:=by
 obtain ⟨m,hn,hl⟩:=id I.loc;have hcls:(X.env.scope.kind == .class || (X.env.scope.kind == .module && X.env.locals != X.env.globals))=false:=by rw [I.ok.kind];rfl
 refine wpAny_nameGoes_keeps hlo hn hcls λ h' v hn' hs=>?_;have iσ:i < σ.length:=by rw [I.len];exact (aa.mp hi).1
 obtain ⟨oL,_,_,hoL,_⟩:=id hn;have cne:=I.cne;refine hQ _ ⟨I.ok,I.os,I.bare,⟨λ b o e n hb hx=>?_,λ b o e n hb hx=>?_,I.base.free,λ b o e hx=>?_,I.base.tups,I.base.frzs,I.base.tbls⟩,⟨_,hn',λ j y v' e1 e2 e3=>?_⟩,λ y c e=>?_,I.free,I.freeC,λ p hp=>?_,λ b ob e=>?_,by simpa using I.len⟩
 ·exact (hs.2 b (aF (aE (au e) I.ok.above))).trans (I.base.keep b o e n hb hx)
 ·obtain ⟨sl,e1⟩:=I.base.slot b o e n hb hx;exact ⟨sl,(hs.2 b (aF (aE (au e) I.ok.above))).trans e1⟩
 ·obtain ⟨o',e1⟩:=I.base.there b o e hx;exact ⟨o',(hs.2 b (aF (aE (au e) I.ok.above))).trans e1⟩
 ·by_cases hj:j=i
  ·subst hj;rw [aN iσ] at e2;cases e2
  ·rw [bg (aZ hj)] at e2;obtain ⟨u',r',q⟩:=hl j y v' e1 e2 e3;refine ⟨u',r',?_⟩;rcases q with ⟨k,e⟩|⟨k,c,e,z⟩
   ·refine .inl ⟨k,?_⟩;have:y≠n:=λ e=>hj (Xj hN e1 (e ▸ hi));simp [this,e]
   ·exact .inr ⟨k,c,e,z.sameBut hs (cne y c e)⟩
 ·obtain ⟨w',z⟩:=I.cell y c e;exact ⟨w',z.sameBut hs (cne y c e)⟩
 ·obtain ⟨e,n,ne,nf,d⟩:=I.pin p hp;exact ⟨(hs.2 p.1 ne).trans e,n,ne,nf,d⟩
 ·refine (I.hok b ob e).stay (λ c w' hc q=>(hs.2 c ?_).trans q) (λ _ q=>q) λ _ _ q=>q;rintro rfl;rcases hc with z|hc
  ·rw [<- z] at e;rw [I.free] at e;cases e
  ·rw [I.free] at hc;cases hc
end
def QT {K:PySem.W.Frag} {M:Model} {A:Around} {E:Value->Shared->Prop} {s:Shared} {e C D:Addr} {oe:Obj} {b:Bool} {Q:Bool->Shared->Prop} (X:K.In s.heap) (he:s.heap.get? e=some oe) (hcls:oe.cls=.ref C)
  (k1:PySem.W.kitCls K (.ref C) (.ref D)=some b) (k2:PySem.W.subIn K (.ref D) (.type "BaseException")=some true) (hq:Q b s):wpAny M A (excMatches (.ref e) (.ref D)) Q E s:=by
 obtain ⟨L1,L2,L3⟩:=PySem.W.kit_cls (M:=M) X k1;have L4:=fk (M:=M) X k2;have f:=tc_notTuple;obtain ⟨hp,g,d,tk,os⟩:=s;unfold excMatches
 repeat (first|(with_reducible refine wpAny_loadPart_at he ?_;rw [hcls])|with_reducible refine L1.at ?_|with_reducible refine L2.at ?_|with_reducible refine L3.at ?_|with_reducible refine L4.at ?_|wp_step)
 cases b
 ·wp_walk
  exact hq
 ·wp_walk
  exact hq
section
variable {X:Cx} {G:GK} {x n:Str} {np pos hpos:Pos} {i:Nat} {body suite:List Stmt} {b₀:Stmt} {tb:List (Addr × Obj)->GK->TS} {th:List (Addr × Obj)->Addr->TS}
def tTryAs (X:Cx) (i:Nat) (x:Str) (tb:List (Addr × Obj)->GK->TS) (th:List (Addr × Obj)->Addr->TS):TS:=λ D σ H=>∃ Dc,X.mg x=some (.ref Dc)/\PySem.W.subIn X.K (.ref Dc) (.type "BaseException")=some true /\
 ∀ pn,tb pn (λ cls σ' H'=>∃ C,cls=.ref C/\PySem.W.kitCls X.K (.ref C) (.ref Dc)=some true/\∀ a,H' a=none ->
  th pn a { nx:=λ σ2 H2=>D.nx (σ2.set i none) H2,rt:=D.rt,bk:=λ σ2 H2=>D.bk (σ2.set i none) H2,ct:=λ σ2 H2=>D.ct (σ2.set i none) H2 } (σ'.set i (some (.ref a))) (upd H' a (zdA a (.ref C)))) D σ H
theorem zc8 (B:Bod X) (hc:X.calm=true) (hN:X.N.Nodup) (hi:X.N[i]?=some n) (hlo:X.env.kindOf n=some .local)
  (hb:∀ pn G',PSs ((X.pinned pn).exg G') body (tb pn G')) (hs:∀ pn a,PSs (X.suite pn a) (b₀ :: suite) (th pn a)) (hg:Gl X x:=by rfl) (hdb:(x == ("__debug__":Str))=false:=by decide) :
  PS (X.exg G) (.Try body [.ExceptHandler (some (.Name x np)) (some n) (b₀ :: suite) hpos] [] [] pos) (tTryAs X i x tb th):=by
 intro pins s σ H D I h;obtain ⟨Dc,hm,hsub,h⟩:=h;have I1:=I.unwish.topn;refine wpAny_Try_except (aO (hb (X.pn ++ pins) _ [] s σ H D (I1.wish _) (h (X.pn ++ pins))) (λ f s1 q=>?_) λ e s1 q=>?_)
 ·cases f with
  | next =>
   obtain ⟨σ',H',J,q⟩:=q;exact cG ⟨σ',H',J.unwish.ofpn.wish _,q⟩
  | brk=>obtain ⟨σ',H',J,q⟩:=q;exact ⟨σ',H',J.unwish.ofpn.wish _,q⟩
  | cont=>obtain ⟨σ',H',J,q⟩:=q;exact ⟨σ',H',J.unwish.ofpn.wish _,q⟩
  | ret u=>obtain ⟨v,σ',H',J,r,q⟩:=q;exact ⟨v,σ',H',J.unwish.ofpn.wish _,r,q⟩
 ·refine aO (show wpAny _ _ _ _ _ _ from q) (λ _ s2 q2=>aO q2 (λ _ s3 q3=>?_) λ _ _ z=>z.elim) λ _ _ z=>z.elim;obtain ⟨a,cls,σ',H',rfl,J,xx,C,rfl,hk,hth⟩:=q3;have J2:Inv (X.suite (X.pn ++ pins) a) [] σ' H' s3:=J.tosuite;obtain ⟨oe,vs,he,hcls,_,_⟩:=xx.obj;refine wpAny_handleBy_cons (codeAny_handlers_test (xh J2 hg hm (QT J2.kIn he hcls hk hsub ?_) hdb)) (by intro z;cases z);refine codeAny_handlers_suite_as ?_;refine XA J2 (xx.less λ p hp=>by rwa [cn] at hp) λ s4 J4 x4=>?_;have J5:=J4.track (u:=zdA a (.ref C)) x4.Ha x4.ga (let ⟨o,vs,e,_,_,d⟩:=x4.obj;⟨o,vs,e,d⟩) x4.pa (zgk x4.obj);refine JB (X:=X.suite (X.pn ++ pins) a) (v:=.ref a) J5 hN hi (Or.inl hlo) rfl (λ s5 J6=>?_) (Or.inr hlo);refine aO (hs (X.pn ++ pins) a [] s5 _ _ _ J6 (hth a xx.Ha)) (λ f s6 q6=>?_) λ _ _ z=>False.elim z;cases f with
  | next =>
   obtain ⟨σ7,H7,J7,q7⟩:=q6;exact vQ (X:=X.suite (X.pn ++ pins) a) J7 hN hi hlo λ s8 J8=>⟨_,H7,(J8.ofsuite I.ok.hd).ofpn.wish _,q7⟩
  | brk =>
   obtain ⟨σ7,H7,J7,q7⟩:=q6;exact vQ (X:=X.suite (X.pn ++ pins) a) J7 hN hi hlo λ s8 J8=>⟨_,H7,(J8.ofsuite I.ok.hd).ofpn.wish _,q7⟩
  | cont =>
   obtain ⟨σ7,H7,J7,q7⟩:=q6;exact vQ (X:=X.suite (X.pn ++ pins) a) J7 hN hi hlo λ s8 J8=>⟨_,H7,(J8.ofsuite I.ok.hd).ofpn.wish _,q7⟩
  | ret u =>
   obtain ⟨v,σ7,H7,J7,r7,q7⟩:=q6;exact vQ (X:=X.suite (X.pn ++ pins) a) J7 hN hi hlo λ s8 J8=>⟨v,_,H7,(J8.ofsuite I.ok.hd).ofpn.wish _,r7,q7⟩
end
structure FA (K:PySem.W.Frag) (mg:Str->Option Value) (x:Str) (st:Stmt) (ps:List Str):Prop where
 ex:∃ f fd,Fun K x x st f fd/\mg x=some (.ref f)/\Binds K fd ps []
def FA.cal {P:Program} {w:World} {K:PySem.W.Frag} {mg:Str->Option Value} {base:Heap} {x:Str} {st:Stmt} {ps:List Str} {k:Nat} {sp:Sp} (h:FA K mg x st ps) (ok:∀ {f fd},Fun K x x st f fd->FnOk P w K mg base (CXr P w) k f fd ps sp) :
  Cal P w K mg base x k ps [] sp:=by
 obtain ⟨f,fd,F,m,b⟩:=h.ex;exact ⟨f,fd,[],ok F,m,F.kp,b,.nil⟩
def zim {K:PySem.W.Frag} {mg:Str->Option Value} {h:Heap} {x:Str} {st:Stmt} {ps:List Str} {f:Addr} {oc:Value} {od an:Option Addr} {osl:Array (Option Value)} {kV doc pm cdv ct:Value} (X:K.In h) (G:h.Ns mainGlobals mg)
  (a:PySem.W.nsIn K mainGlobals x=some (some (.ref f))) (l:K.lookup f=some ⟨oc,od,.func (PySem.W.fnOf x x (zW st) (zN st) (zf st) .none kV doc pm an cdv ct),osl⟩)
  (c:PySem.W.codeIn K cdv x=true) (k:PySem.W.keepIn K (.ref f)=true)
  (hb:∀ (kV doc pm:Value) (an:Option Addr) (cdv ct:Value) (us:List Value),us.length=ps.length->bindArgs (PySem.W.fnOf x x (zW st) (zN st) (zf st) .none kV doc pm an cdv ct) ⟨us,[]⟩=pure (ps.zip us)):FA K mg x st ps :=
 ⟨f,_,wU l c k,cj X G a,(wU l c k).binds hb⟩
def zdC {P:Program} {w:World} {H:Hp} {s:Shared} {e:Value} {s':Shared} (h:CXr P w [] H s (λ _ _ _=>False) e s'):False:=by
 obtain ⟨_,_,_,_,_,_,_,_,_,z⟩:=h;exact z
end L2
namespace L2
open PySem PySem.Spec PySem.Calls PyProof.Rows
structure XI (K:PySem.W.Frag) (C:Addr):Prop where
 ga:PySem.W.findIn K (.ref C) "__getattribute__"=some (some (.builtin "BaseException.__getattribute__"))
 gt:PySem.W.findIn K (.ref C) "__getattr__"=some none
 cl:PySem.W.findIn K (.ref C) "__class__"=some (some (.builtin "object.__class__"))
 hd:PySem.W.hasDictIn K C=true
 gn:PySem.W.specialIn K (.builtin "object.__class__") "__get__"=some (some (.builtin "getset_descriptor.__get__"))
 tk:PySem.W.takesIn K (.builtin "object.__class__")=some true
 mo:mroIn K C (.type "object")=some true
 mb:PySem.W.subIn K (.ref C) (.type "BaseException")=some true
section
variable {prog:Program} {w:World} {A:Around} {E:Value->Shared->Prop} {s:Shared} {K:PySem.W.Frag} {a C:Addr} {o:Obj} {vs:Array Value}
def zaM {hp:Heap} (hx:hp.get? a=some o) (hc:o.cls=.ref C) (hd:o.dict=none) (hv:o.data=.fields vs):PySem.W.InstAt hp a o C none:=by
 refine ⟨hx,hc,?_,?_⟩
 ·obtain ⟨c,d,dt,sl⟩:=o;simp only at hv;subst hv
  rfl
 ·rw [hd]
  trivial
def zdz {Q:Option Value->Shared->Prop} (X:K.In s.heap) (f:XI K C) (hx:s.heap.get? a=some o) (hc:o.cls=.ref C) (hd:o.dict=none) (hv:o.data=.fields vs)
  (h:Q (some (.ref C)) { s with toks:=s.toks + 1 }):wpAny (model prog w) A (getAttr? (.ref a) "__class__") Q E s:=by
 have I:=zaM hx hc hd hv;have hf:PySem.W.findObj K C none "__class__"=some (.bind (.builtin "getset_descriptor.__get__") (.builtin "object.__class__")):=by
   obtain ⟨cd,hcd,_⟩:=fB f.hd;simp [PySem.W.findObj,hcd,f.cl,f.gn,f.tk]
 obtain ⟨hh,g,d,t,os⟩:=s;have T0:=I.type (M:=model prog w);have T1:=looks_findIn (M:=model prog w) X f.ga;have T2:=PySem.W.looks_find (M:=model prog w) X I hf;have T3:=looks_findIn (M:=model prog w) X f.gt;have T4:=fk (M:=model prog w) X f.mb;have f3:=F.attr_ValueError.ga.bind (.ref a);unfold getAttr? getAttrBy? getAttrBy;refine ad (wpAny_mkText (ad (fz (cS (ad (T0.at (ad (T1.at ?_))))))));dsimp only;have nga:(onTheHeap (Value.ref C) && Value.builtin "BaseException.__getattribute__" == Value.builtin "object.__getattribute__")=false:=by
  have z:(Value.builtin "BaseException.__getattribute__" == Value.builtin "object.__getattribute__")=false:=by decide +kernel
  rw [z,cF]
 rw [nga,am az];unfold getAttrByItsOwn
 repeat (any_goals (first|assumption|with_reducible refine T0.at ?_|with_reducible refine T3.at ?_|with_reducible refine T1.at ?_|wp_step))
 refine codeAny_call_builtin F.attr_ValueError.ga.plain F.entry_bexc_ga ?_;have hk:builtinKind "BaseException.__getattribute__"=some .slot:=by decide +kernel
 have hsp:splitId "BaseException.__getattribute__"=some ("BaseException","__getattribute__"):=by decide +kernel
 have hav:=F.args_bexc_ga (.ref a) (Value.str (Str.ofString "__class__") t);simp only [checkBuiltinCall,hk,hsp];refine ad ?_;unfold isInstance
 repeat (first|with_reducible refine T2.at ?_|with_reducible refine T0.at ?_|with_reducible refine T4.at ?_|wp_step)
 refine PySem.W.class_get (s:=⟨hh,g,d,t + 1,os⟩) (ox:=o) (od:=none) X I f.mo ?_;refine aw ?_;refine PySem.W.handed_on rfl ?_;exact aw h
def zeR {vs:Array Value} (f:XI K C):PySem.W.KitX K (.ref a) (.ref C) (λ h=>∃ o vs,h.get? a=some o/\o.cls=.ref C/\o.dict=none/\o.data=.fields vs) where
 ty:=λ M h _ ⟨o,vs,e,c,d,v⟩=>(zaM e c d v).type
 it:=λ _ _ X _=>by
  obtain ⟨cd,hcd,_⟩:=fB f.hd;unfold PySem.W.clsIn at hcd
  split at hcd
  ·rename_i c' d' cd' sl' ho;intro A' Q' E' s' k q;unfold isType loadHead;exact ad (wpAny_loadPart (k _ _ (X _ _ ho)) (aw q))
  ·cases hcd
 ne:=λ h tp dd its n sl X htp=>by
  obtain ⟨cd,hcd,_⟩:=fB f.hd;refine Bool.eq_false_iff.mpr λ q=>?_;have e:C=tp:=Value.ref.inj (bB.mp q);subst e;unfold PySem.W.clsIn at hcd
  split at hcd
  ·rename_i ho;have z:=(X _ _ ho).symm.trans htp;cases z
  ·cases hcd
 ca:=λ X ⟨o,vs,e,c,d,v⟩ k=>zdz X f e c d v k
end
inductive TyX (K:PySem.W.Frag) (H:Hp):V->Value->Prop where
 | old {x:V} {t:Value} (h:TyOf K H x t):TyX K H x t
 | exc {a C:Addr} (h:H a=some (zdA a (.ref C))) (f:XI K C):TyX K H (.ref a) (.ref C)
noncomputable def zcD:List V->Option (List Value)
 | []=>some []
 | c :: r=>match zgr c,zcD r with
  | some u,some us=>some (u :: us)
  | _,_=>none
theorem zcE {c:V} {u v:Value} (h:zgr c=some u) (r:RelV c v):v=u:=by
 cases c with
 | ty n=>cases r;exact aI h
 | ref a=>cases r;exact aI h
 | _=>cases h
theorem zaR:∀ {cs:List V} {us vs:List Value},zcD cs=some us->Vals cs vs->vs=us
 | [],_,_,h,.nil=>aI h
 | c :: r,us,v :: vs,h,.cons rc rr=>by
  unfold zcD at h
  split at h
  ·rename_i u us' h1 h2;cases h;rw [zcE h1 rc,zaR h2 rr]
  ·cases h
theorem zhv {X:Cx} {pins:List (Addr × Obj)} {σ:St} {H:Hp} {s:Shared} {x:V} {u t:Value} (I:Inv X pins σ H s) (rx:RelV x u) (ty:TyX X.K H x t) :
  ∃ Hx:Heap->Prop,PySem.W.KitX X.K u t Hx/\Hx s.heap/\u≠.builtin "__main__.__loader__#opaque":=by
 cases ty with
 | @exc a C ea f =>
  cases (show u=Value.ref a from rx);obtain ⟨p,_⟩:=(show ObjOk X.prog X.w H s.heap a (zdA a (.ref C)) from I.hok a _ ea);exact ⟨_,zeR (vs:=#[]) f,p,λ z=>nomatch z⟩
 | old ty =>
  cases ty with
  | non=>cases (show u=Value.none from rx);exact ⟨_,PySem.W.kitx_none,True.intro,λ z=>nomatch z⟩
  | bl y=>cases (show u=Value.bool y from rx);exact ⟨_,PySem.W.kitx_bool,True.intro,λ z=>nomatch z⟩
  | int i=>obtain ⟨t,q⟩:=(show ∃ t,u=Value.int i t from rx);cases q;exact ⟨_,PySem.W.kitx_int,True.intro,λ z=>nomatch z⟩
  | str y=>obtain ⟨t,q⟩:=(show ∃ t,u=Value.str y t from rx);cases q;exact ⟨_,PySem.W.kitx_str,True.intro,λ z=>nomatch z⟩
  | flt y=>obtain ⟨t,q⟩:=(show ∃ t,u=Value.float y t from rx);cases q;exact ⟨_,PySem.W.kitx_float,True.intro,λ z=>nomatch z⟩
  | @lst a xs ea =>
   cases (show u=Value.ref a from rx);obtain ⟨_,_,n,_,h1⟩:=(show ObjOk X.prog X.w H s.heap a (.lst xs) from I.hok a _ ea);exact ⟨_,PySem.W.kitx_list,⟨_,h1,rfl⟩,λ z=>nomatch z⟩
  | @frz a ob xs ea =>
   cases (show u=Value.ref a from rx);obtain ⟨_,_,_,n,_,h1⟩:=(show ObjOk X.prog X.w H s.heap a (.frz ob (.lst xs)) from I.hok a _ ea);exact ⟨_,PySem.W.kitx_list,⟨_,h1,rfl⟩,λ z=>nomatch z⟩
  | @tup a xs ea =>
   cases (show u=Value.ref a from rx);obtain ⟨_,_,_,p⟩:=(show ObjOk X.prog X.w H s.heap a (.tup xs) from I.hok a _ ea);obtain ⟨o,h1,h2,_⟩:=p;exact ⟨_,PySem.W.kitx_tuple,⟨o,h1,h2⟩,λ z=>nomatch z⟩
  | @dK a kvs ea =>
   cases (show u=Value.ref a from rx);obtain ⟨_,_,vs,_,p⟩:=(show ObjOk X.prog X.w H s.heap a (.dK kvs) from I.hok a _ ea);obtain ⟨o,es,ep,h1,h2,_⟩:=p;exact ⟨_,PySem.W.kitx_dict,⟨o,h1,h2.1⟩,λ z=>nomatch z⟩
  | @dT a kvs ea =>
   cases (show u=Value.ref a from rx);obtain ⟨_,_,xs,_,o,es,ep,h1,h2,_⟩:=(show ObjOk X.prog X.w H s.heap a (.dT kvs) from I.hok a _ ea);exact ⟨_,PySem.W.kitx_dict,⟨o,h1,h2.1⟩,λ z=>nomatch z⟩
  | @ins a C dx fs ea cl ha hn htk hm =>
   cases (show u=Value.ref a from rx);obtain ⟨mA,O,_⟩:=Jq I.hok ea;obtain ⟨od,J,_⟩:=O.look;exact ⟨_,PySem.W.kitx_own (cl.get _) cl.hd ha hn htk hm,J,λ z=>nomatch z⟩
def zal (K:PySem.W.Frag):List V->Hp->VK->Prop:=λ xs H Q=>∃ x c t b,xs=[x,c]/\TyX K H x t/\((∃ u,zgr c=some u/\PySem.W.kitOne K t u=some b)\/(∃ p cs us,c=.ref p/\H p=some (.tup cs)/\zcD cs=some us/\PySem.W.kitAny K t us=some b))/\Q (.bl b) H
def qU {X:Cx}:CallR X (.builtin "isinstance") (zal X.K):=by
 intro pins s σ H xs us Q I r h;obtain ⟨x,c,t,b,rfl,ty,hc,q⟩:=h;obtain ⟨v,v2,rfl,rx,rc⟩:=r.two;obtain ⟨Hx,Z,p,nx⟩:=zhv I rx ty;rcases hc with ⟨u,hu,e⟩|⟨pt,cs,us,rfl,hp,hu,e⟩
 ·obtain rfl:=zcE hu rc;exact PySem.W.kia_one Z I.kIn p e nx λ tk=>⟨.bl b,H,I.tok tk,rfl,q⟩
 ·cases rc;obtain ⟨_,its,rv,o,h1,h2,n,h3⟩:=(show ObjOk X.prog X.w H s.heap pt (.tup cs) from I.hok pt _ hp);obtain rfl:=zaR hu rv;obtain ⟨cl,dd,dt,sl⟩:=o;simp only at h2 h3;subst h2 h3;exact PySem.W.kia_tup Z I.kIn p h1 e nx λ tk=>⟨.bl b,H,I.tok tk,rfl,q⟩
def QB {K:PySem.W.Frag} {t:Value} {D:Addr} {b:Bool} (h1:PySem.W.hasDictIn K D=true) (h2:PySem.W.typeIn K (.ref D)=some (.type "type")) (h3:PySem.W.subIn K t (.ref D)=some b):PySem.W.kitCls K t (.ref D)=some b:=by
 obtain ⟨cd,hcd,_⟩:=fB h1;simp [PySem.W.kitCls,hcd,h2,h3]
structure FK (K:PySem.W.Frag) (C:Addr) (qual:Str) (st:Stmt) (ps:List Str):Prop where
 ex:∃ f fd,Fun K "__init__" qual st f fd/\Mk K C f/\Binds K fd ps []
structure FM (K:PySem.W.Frag) (C:Addr) (m qual:Str) (st:Stmt) (ps:List Str):Prop where
 ex:∃ f fd,Fun K m qual st f fd/\Meth K C m f/\Binds K fd ps []
def FK.cal {P:Program} {w:World} {K:PySem.W.Frag} {mg:Str->Option Value} {base:Heap} {x:Str} {C:Addr} {qual:Str} {st:Stmt} {ps:List Str} {k:Nat} {sp:Sp} (h:FK K C qual st ps) (gl:mg x=some (.ref C))
  (ok:∀ {f fd},Fun K "__init__" qual st f fd->FnOk P w K mg base (CXr P w) k f fd ps sp):KCal P w K mg base x C k ps [] sp:=by
 obtain ⟨f,fd,F,m,b⟩:=h.ex;exact ⟨gl,f,fd,[],ok F,m,b,.nil⟩
def FM.cal {P:Program} {w:World} {K:PySem.W.Frag} {mg:Str->Option Value} {base:Heap} {C:Addr} {m qual:Str} {st:Stmt} {ps:List Str} {k:Nat} {sp:Sp} (h:FM K C m qual st ps) (cl:Cls K C)
  (ok:∀ {f fd},Fun K m qual st f fd->FnOk P w K mg base (CXr P w) k f fd ps sp):MCal P w K mg base C m k ps [] sp:=by
 obtain ⟨f,fd,F,mm,b⟩:=h.ex;exact ⟨cl,f,fd,[],ok F,mm,b,.nil⟩
def zij {K:PySem.W.Frag} {C:Addr} {qual:Str} {st:Stmt} {ps:List Str} {f:Addr} {oc:Value} {od an:Option Addr} {osl:Array (Option Value)} {kV doc pm cdv ct:Value} (mk:PySem.W.makesIn K C=true) (kc:PySem.W.keepIn K (.ref C)=true)
  (a:PySem.W.findIn K (.ref C) "__init__"=some (some (.ref f))) (i:PySem.W.isFn K (.ref f)=true) (l:K.lookup f=some ⟨oc,od,.func (PySem.W.fnOf "__init__" qual (zW st) (zN st) (zf st) .none kV doc pm an cdv ct),osl⟩)
  (c:PySem.W.codeIn K cdv qual=true) (k:PySem.W.keepIn K (.ref f)=true)
  (hb:∀ (kV doc pm:Value) (an:Option Addr) (cdv ct:Value) (us:List Value),us.length=ps.length->bindArgs (PySem.W.fnOf "__init__" qual (zW st) (zN st) (zf st) .none kV doc pm an cdv ct) ⟨us,[]⟩=pure (ps.zip us)):FK K C qual st ps :=
 ⟨f,_,wU l c k,⟨mk,a,i,kc⟩,(wU l c k).binds hb⟩
def zii {K:PySem.W.Frag} {C:Addr} {m qual:Str} {st:Stmt} {ps:List Str} {f:Addr} {oc:Value} {od an:Option Addr} {osl:Array (Option Value)} {kV doc pm cdv ct:Value}
  (a:PySem.W.findIn K (.ref C) m=some (some (.ref f))) (i:PySem.W.isFn K (.ref f)=true) (l:K.lookup f=some ⟨oc,od,.func (PySem.W.fnOf m qual (zW st) (zN st) (zf st) .none kV doc pm an cdv ct),osl⟩)
  (c:PySem.W.codeIn K cdv qual=true) (k:PySem.W.keepIn K (.ref f)=true)
  (hb:∀ (kV doc pm:Value) (an:Option Addr) (cdv ct:Value) (us:List Value),us.length=ps.length->bindArgs (PySem.W.fnOf m qual (zW st) (zN st) (zf st) .none kV doc pm an cdv ct) ⟨us,[]⟩=pure (ps.zip us)):FM K C m qual st ps :=
 ⟨f,_,wU l c k,⟨a,i,k⟩,(wU l c k).binds hb⟩
structure WI (K:PySem.W.Frag) (C:Addr):Prop where
 c:PySem.W.findIn K (.ref C) "__class__"=some (some (.builtin "object.__class__"))
 m:mroIn K C (.type "object")=some true
 g:PySem.W.specialIn K (.builtin "object.__class__") "__get__"=some (some (.builtin "getset_descriptor.__get__"))
 t:PySem.W.takesIn K (.builtin "object.__class__")=some true
def WI.ty {K:PySem.W.Frag} {H:Hp} {a C dx:Addr} {fs:List (Str × V)} (f:WI K C) (cl:Cls K C) (h:H a=some (.ins C dx fs)):TyX K H (.ref a) (.ref C):=.old (.ins h cl f.c f.g f.t f.m)
end L2
namespace L2
open PySem PySem.Spec PySem.Calls PyProof.Rows
section
variable {prog:Program} {w:World} {A:Around} {E:Value->Shared->Prop} {s:Shared}
theorem wz:∀ {ns:List Int} {its:List Value},Vals (ns.map V.int) its->∀ (i:Nat) (v:Value),its[i]?=some v->∃ t,v=.int (ns[i]?.getD 0) t
 | [],_,.nil,i,v,h=>by simp at h
 | n :: ns,_,.cons (b:=y) ⟨t,e⟩ r,0,v,h=>by
  have:y=v:=by simpa using h
  exact ⟨t,by rw [<- this,e];rfl⟩
 | n :: ns,_,.cons _ r,i + 1,v,h=>by
  obtain ⟨t,e⟩:=wz r i v (by simpa using h);exact ⟨t,by simpa using e⟩
end
section
variable {X:Cx} {a e:Expr} {ta:TA} {te:TE} {pos p kp:Pos}
def zbb:SlR X (zg9 X.K):=zfI
def vV:CallR X (.type "list") (λ xs H Q=>∃ p ys,xs=[.ref p]/\(SqL X.K H p ys\/SqT X.K H p ys)/\∀ l,H l=none->Q (.ref l) (upd H l (.lst ys))):=VG
end
end L2
namespace L2
open PySem PySem.Spec PySem.Calls PyProof.Rows
section
variable {X:Cx} {v v1 v2:Expr} {es:List Expr} {te:TE} {pos p:Pos}
def zhU (t u:TS):TS:=λ D σ H=>∃ M:St->Hp->Prop,t { D with nx:=M } σ H/\∀ σ' H',M σ' H'->u D σ' H'
theorem qJ {st:Stmt} {rest:List Stmt} {t u:TS} (h1:PS X st t) (h2:PSs X rest u):PSs X (st :: rest) (zhU t u):=by
 intro pins s σ H D I ⟨M,ht,hu⟩;refine d9 (thn (h1 pins s σ H _ I ht) λ f s1 q=>?_);cases f with
 | next=>exact let ⟨σ',H',I',q⟩:=q;h2 pins s1 σ' H' D I' (hu σ' H' q)
 | _=>exact q
def zgF (t u:TS):TS:=λ D σ H=>tSeq t u D σ H
def zh {st:Stmt} {rest:List Stmt} {t u:TS} (h1:PS X st t) (h2:PSs X rest u):PSs X (st :: rest) (zgF t u):=show PSs X (st :: rest) (tSeq t u) from zi h1 h2
structure Nx (N:St->Hp->Prop) (u:TS) (D:Ends):Prop where
 h:∀ σ H,u D σ H->N σ H
def nxt {t u:TS} {D:Ends} {σ:St} {H:Hp} (k:∀ N,Nx N u D->t { D with nx:=N } σ H):zgF t u D σ H:=k (u D) ⟨λ _ _ h=>h⟩
def useN {N:St->Hp->Prop} {u:TS} {D:Ends} {σ:St} {H:Hp} (n:Nx N u D) (q:u D σ H):N σ H:=n.h σ H q
def cut {t u:TS} {D:Ends} {σ:St} {H:Hp} (M:St->Hp->Prop) (h1:t { D with nx:=M } σ H) (h2:∀ σ' H',M σ' H'->u D σ' H'):zhU t u D σ H:=⟨M,h1,h2⟩
end
end L2
namespace L2
open PySem PySem.Spec PySem.Calls PyProof.Rows
section
variable {X:Cx} {k:Nat} {x m:Str} {p pos apos:Pos} {e o:Expr} {es:List Expr} {ta:TE} {t:TA}
def passF:zb6 (CXr X.prog X.w) X (λ _ _ _=>False):=λ _ _ _ _ _ _ _ h=>let ⟨_,_,_,_,_,_,_,_,_,z⟩:=h;z.elim
def tClN (X:Cx) (k:Nat) (x:Str) (t:TA):TE:=λ σ H Q=>∃ ps dvs sp,Cal X.prog X.w X.K X.mg X.base x k ps dvs sp/\t σ H λ vs H1=>sp (vs ++ dvs) H1 Q (λ _ _ _=>False)
def Zt (hr:Room k X.A) (ha:PA X (e :: es) t) (hg:Gl X x:=by rfl) (hdb:(x == ("__debug__":Str))=false:=by decide)
  (he:starEach (e :: es) X.env=(false,eval e X.env) :: starEach es X.env:=by rfl) (hpl:(backTo pos (starEach es X.env)).any (·.1)=false:=by rfl) :
  PE X (.Call (.Name x p) (e :: es) [] pos) (tClN X k x t):=by
 intro pins s σ H Q I h;obtain ⟨ps,dvs,sp,⟨f,fd,ds,F,hm,hk,hb,hd⟩,h⟩:=h;refine bA (xh I hg hm ?_ hdb);refine dG (h₀:=X.base) I.ok.mod.kin hk (w9 (ha pos pins s σ H _ I h) λ us s1 vs H1 I1 r q=>⟨I1.kIn,?_⟩) he hpl;exact zeg F hr hb hd passF I1 r q
def tMkN (X:Cx) (k:Nat) (x:Str) (t:TA):TE:=λ σ H Q=>∃ C ps dvs sp,KCal X.prog X.w X.K X.mg X.base x C k ps dvs sp/\t σ H λ vs H1=>∀ y dx,H1 y=none->H1 dx=none->dx≠y ->
 sp (.ref y :: (vs ++ dvs)) (upd (upd H1 dx (.own y)) y (.ins C dx [])) (λ v H2=>v=.non/\Q (.ref y) H2) (λ _ _ _=>False)
def zeu (hr:Room (k + 1) X.A) (ha:PA X (e :: es) t) (hg:Gl X x:=by rfl) (hdb:(x == ("__debug__":Str))=false:=by decide)
  (he:starEach (e :: es) X.env=(false,eval e X.env) :: starEach es X.env:=by rfl) (hpl:(backTo pos (starEach es X.env)).any (·.1)=false:=by rfl) :
  PE X (.Call (.Name x p) (e :: es) [] pos) (tMkN X k x t):=by
 intro pins s σ H Q I h;obtain ⟨C,ps,dvs,sp,⟨hm,f,fd,ds,F,M,hb,hd⟩,h⟩:=h;refine bA (xh I hg hm ?_ hdb);refine dG (h₀:=X.base) I.ok.mod.kin M.kp (w9 (ha pos pins s σ H _ I h) λ us s1 vs H1 I1 r q=>⟨I1.kIn,?_⟩) he hpl;exact zef M F hr hb hd passF I1 r q
def tMthN (X:Cx) (k:Nat) (m:Str) (ta:TE) (t:TA):TE:=λ σ H Q=>ta σ H λ y H1=>∃ a C dx fs ps dvs sp,y=.ref a/\H1 a=some (.ins C dx fs)/\fs.lookup m=none /\
 MCal X.prog X.w X.K X.mg X.base C m k ps dvs sp/\t σ H1 λ vs H2=>sp (.ref a :: (vs ++ dvs)) H2 Q (λ _ _ _=>False)
def zet {pl:Sem Bool} (hr:Room k X.A) (he:PE X o ta)
  (ht:eval (.Call (.Attribute o m apos) [] [] pos) X.env=(do
   let ov <- eval o X.env
   standAt apos.atName
   let (f,first) <- holding [ov] (getMethod ov m pl)
   callWith pos f first (backTo pos (starEach [] X.env)) (backToKw pos (keywordEach [] X.env))):=by rfl) :
  PE X (.Call (.Attribute o m apos) [] [] pos) (tMthN X k m ta tNil):=by
 intro pins s σ H Q I h;refine dU (pl:=pl) (thn (he pins s σ H _ I h) λ u s1 hz=>?_) ht;obtain ⟨x,H1,I1,rx,a,C,dx,fs,ps,dvs,sp,ex,ea,l,⟨c,f,fd,ds,F,hm,hb,hd⟩,q⟩:=hz;subst ex;obtain rfl:u=Value.ref a:=rx;refine Zz I1 ea c hm l ?_;exact fm (first:=[.ref a]) I1.kIn hm.kp (zeg (us:=[.ref a]) (vs:=[.ref a]) F hr hb hd passF I1 (.cons rfl .nil) q)
end
noncomputable def ja (cells:List (Str × Addr)):List (Str × NameKind)->List (Str × Addr)->List (Str × Addr)
 | [],cs=>cs
 | (n,k) :: r,cs=>if k=.free then ja cells r ((n,(cells.lookup n).getD 0) :: cs) else ja cells r cs
def zdE (cells:List (Str × Addr)) (ns:List (Str × NameKind)):Prop:=∀ y∈ns,y.2=.free->∃ c,cells.lookup y.1=some c
theorem Ze {scope:Scope} {env:Env} (h:zdE env.cells scope.names):closureFor scope env=pure (ja env.cells scope.names []):=by
 simp only [closureFor];have key:∀ (ns:List (Str × NameKind)) (cs:List (Str × Addr)),zdE env.cells ns ->
   (forIn ns cs λ x r=>if (x.2 == NameKind.free)=true then do let c <- cellOf env x.1;pure (ForInStep.yield ((x.1,c) :: r)) else pure (ForInStep.yield r):Sem (List (Str × Addr)))=pure (ja env.cells ns cs):=by
  intro ns
  induction ns with
  | nil=>intro cs _;rfl
  | cons y r ih =>
   intro cs hc;obtain ⟨n,k⟩:=y;have hr:zdE env.cells r:=λ z hz=>hc z (aG _ hz);rw [eT];by_cases hk:k=.free
   ·subst hk;obtain ⟨c,e⟩:=hc (n,.free) bK rfl;have e':cellOf env n=pure c:=by unfold cellOf;simp only at e;rw [e]
    simp only [beq_self_eq_true,dJ,e',pure_bind];rw [ih _ hr];simp only at e;simp [ja,e]
   ·have hb:(k == NameKind.free)=false:=by simpa using hk
    simp only [hb,cz,dn,pure_bind];rw [ih _ hr];simp [ja,hk]
 have:=key scope.names [] h
 first
  | exact this
  | (simp only [bind_pure] at *;exact this)
theorem ZD {cells:List (Str × Addr)} {x:Str} {c:Addr}:∀ {ns:List (Str × NameKind)} {cs:List (Str × Addr)},zdE cells ns->(∀ c,cs.lookup x=some c->cells.lookup x=some c)->(ja cells ns cs).lookup x=some c->cells.lookup x=some c
 | [],_,_,hs,h=>hs c h
 | (n,k) :: r,cs,hc,hs,h=>by
  have hr:zdE cells r:=λ z hz=>hc z (aG _ hz);unfold ja at h
  split at h
  ·rename_i hk;obtain ⟨d,e⟩:=hc (n,k) bK hk;refine ZD hr (λ c' hc'=>?_) h;rw [cH] at hc'
   split at hc'
   ·rename_i hx;have hx:x=n:=by simpa using hx
    subst hx;simp only at e;rw [e] at hc' ⊢;exact hc'
   ·exact hs c' hc'
  ·exact ZD hr hs h
theorem vI {cells:List (Str × Addr)} {x:Str}:∀ {ns:List (Str × NameKind)} {cs:List (Str × Addr)},(∃ c,cs.lookup x=some c)->∃ c,(ja cells ns cs).lookup x=some c
 | [],_,h=>h
 | (n,k) :: r,cs,h=>by
  unfold ja
  split
  ·refine vI ?_;rw [cH]
   split
   ·exact ⟨_,rfl⟩
   ·exact h
  ·exact vI h
theorem ZC {cells:List (Str × Addr)} {x:Str}:∀ {ns:List (Str × NameKind)} {cs:List (Str × Addr)},(x,NameKind.free)∈ns->∃ c,(ja cells ns cs).lookup x=some c
 | [],_,h=>by simp at h
 | (n,k) :: r,cs,h=>by
  unfold ja;rcases ax.mp h with h|h
  ·cases h;rw [aq rfl];exact vI ⟨(cells.lookup x).getD 0,by rw [cH];simp⟩
  ·split <;> exact ZC h
noncomputable def zej (scope osc:Scope):Scope :=
 { scope with names:=scope.names.map λ (n,k)=>if (k == .free && osc.kind == .function && osc.names.lookup n == some .cell) then (n,.cell) else (n,k) }
def zbt {scope osc:Scope} {x:Str} (hcell:∀ y∈scope.names,y.2≠.cell) (h:(zej scope osc).names.lookup x=some .cell\/(zej scope osc).names.lookup x=some .free):(x,NameKind.free)∈scope.names:=by
 have key:∀ k,(k=.cell\/k=.free)->(zej scope osc).names.lookup x=some k->(x,NameKind.free)∈scope.names:=λ k hk hl=>by
  have hm:=bD hl;obtain ⟨⟨n,k'⟩,hm',e⟩:=aW.mp hm;simp only at e
  split at e
  ·rename_i hc;simp only [cg,bB] at hc;cases e;rw [<- hc.1.1];exact hm'
  ·cases e;rcases hk with rfl|rfl
   ·exact absurd rfl (hcell _ hm')
   ·exact hm'
 rcases h with h|h
 ·exact key _ (.inl rfl) h
 ·exact key _ (.inr rfl) h
noncomputable def cxC (X:Cx) (N:List Str) (scope:Scope) (s:Shared) (H:Hp) (fp:List Addr) (pins:List (Addr × Obj)):Cx where
 prog:=X.prog
 w:=X.w
 K:=X.K
 mg:=X.mg
 base:=X.base
 A:=X.A
 N:=N
 s₀:=s
 H₀:=H
 env:=compEnvC scope (ja X.env.cells scope.names []) s.heap.objs.size X.env
 outer:=X.stack
 stack:=X.stack
 ex:=fp
 fn:=λ _=>false
 calm:=X.calm
 pn:=X.pn ++ pins
 xe:=λ _ _=>False
noncomputable def stC (nv:Nat) (caps:List Nat) (σ:St):St:=List.replicate nv none ++ caps.map λ k=>(σ[k]?).getD none
structure CompOk (osc scope:Scope) (ON:List Str) (vars:List Str) (caps:List Nat):Prop where
 kind:scope.kind=.function
 cell:∀ y∈scope.names,y.2≠.cell
 loc:∀ y∈scope.names,y.2=.local->scope.names.lookup y.1=some .local
 free:∀ y∈scope.names,y.2=.free->osc.names.lookup y.1=some .cell\/osc.names.lookup y.1=some .free
 caps:∀ k∈caps,k < ON.length/\scope.names.lookup (ON.getD k Str.empty)=some .free
noncomputable def zcC (osc scope:Scope) (ON:List Str) (caps:List Nat):Bool :=
 scope.kind == .function && scope.names.all (λ y=>y.2 != .cell) && scope.names.all (λ y=>y.2 != .local || scope.names.lookup y.1 == some .local) &&
 scope.names.all (λ y=>y.2 != .free || (osc.names.lookup y.1 == some .cell || osc.names.lookup y.1 == some .free)) && caps.all λ k=>decide (k < ON.length) && scope.names.lookup (ON.getD k Str.empty) == some .free
def zaP {osc scope:Scope} {ON vars:List Str} {caps:List Nat} (h:zcC osc scope ON caps=true):CompOk osc scope ON vars caps:=by
 simp only [zcC,cg,cf,bB,bne_iff_ne,dS,bZ] at h;obtain ⟨⟨⟨⟨h1,h2⟩,h3⟩,h4⟩,h5⟩:=h;refine ⟨h1,h2,λ y hy e=>(h3 y hy).resolve_left (λ z=>z e),λ y hy e=>(h4 y hy).resolve_left (λ z=>z e),λ k hk=>h5 k hk⟩
theorem J9 {osc:Scope} {x:Str}:∀ {ns:List (Str × NameKind)},ns.lookup x=some .free ->
  (ns.map λ (n,k)=>if (k == NameKind.free && osc.kind == .function && osc.names.lookup n == some .cell) then (n,NameKind.cell) else (n,k)).lookup x=some .cell \/
  (ns.map λ (n,k)=>if (k == NameKind.free && osc.kind == .function && osc.names.lookup n == some .cell) then (n,NameKind.cell) else (n,k)).lookup x=some .free
 | [],h=>by simp at h
 | (n,k) :: r,h=>by
  have ih:=@J9 osc x r;rw [bL];show List.lookup x ((if (k == NameKind.free && osc.kind == .function && osc.names.lookup n == some .cell)=true then (n,NameKind.cell) else (n,k)) :: _)=_\/List.lookup x ((if (k == NameKind.free && osc.kind == .function && osc.names.lookup n == some .cell)=true then (n,NameKind.cell) else (n,k)) :: _)=_
  cases hx:x == n with
  | true =>
   simp only [cH,hx] at h;cases h
   split
   ·exact .inl (by simp [cH,hx])
   ·exact .inr (by simp [cH,hx])
  | false =>
   simp only [cH,hx] at h
   split <;> (simp only [cH,hx];exact ih h)
section
variable {X:Cx} {pins:List (Addr × Obj)} {σ:St} {H:Hp} {s:Shared} {fp:List Addr} {N vars:List Str} {caps:List Nat} {scope osc:Scope}
theorem zeW (I:Inv X pins σ H s) (hosc:X.env.scope=osc) (C:CompOk osc scope X.N vars caps) (hN:N=vars ++ caps.map λ k=>X.N.getD k Str.empty)
  (hf:∀ b∈fp,QK X pins H b) (hfo:∀ b∈fp,∃ o,s.heap.get? b=some o)
  {h':Heap} {tk:Nat} {mm:Str->Option Value} (hns:h'.Ns s.heap.objs.size mm) (hk:∀ b o,s.heap.get? b=some o->h'.get? b=some o) :
  Inv (cxC X N scope s H fp pins) [] (stC vars.length caps σ) H { s with heap:=h',toks:=tk }:=by
 have hkf:∀ y∈scope.names,y.2=.free->X.env.kindOf y.1=some .cell\/X.env.kindOf y.1=some .free:=λ y hy e=>by
  have z:=C.free y hy e;rw [<- hosc] at z;exact z
 have hcl:zdE X.env.cells scope.names:=λ y hy e=>I.ok.has y.1 (hkf y hy e);have get:∀ x c,(ja X.env.cells scope.names []).lookup x=some c->X.env.cells.lookup x=some c:=λ x c h=>ZD hcl (λ c h=>by simp at h) h;refine ⟨⟨I.ok.mod,C.kind,I.ok.glob,I.ok.blt,ar _,λ x y c h1 h2=>I.ok.inj x y c (get x c h1) (get y c h2),λ x hx=>ZC (zbt (osc:=X.env.scope) C.cell hx),λ _ _ h _=>Bool.noConfusion h,I.ok.hd,I.ok.frames,.inl rfl,
   λ b hb=>⟨?_,λ x c h=>(hf b hb).2.2.2.2.1 x c (get x c h)⟩,I.bs,bw I.ok.bsz I.sz,λ b o e hb=>?_,λ b hb z=>(ax.mp (I.stkSub b z)).elim (hf b hb).2.1 (hf b hb).2.2.1,I.stack,I.stkFree⟩,
  rfl,I.bare,Un.kept hk,⟨_,hns,λ i x v e1 e2 e3=>?_⟩,λ x c h=>?_,I.hok.fresh (ar _),λ x c h=>I.freeC x c (get x c h),λ p hp=>?_,I.hok.kept hk,?_⟩
 ·obtain ⟨o,e⟩:=hfo b hb;exact aF (au e)
 ·rcases (hf b hb).2.2.2.1 with z|z
  ·exact I.ok.noex b o e z
  ·exact absurd (aE (au (I.ok.bs b o e).1) z) (cq _)
 ·have hi:¬ i < vars.length:=λ hi=>by
   unfold stC at e2;rw [aQ (by simpa using hi),eG] at e2
   split at e2 <;> cases e2
  have e1':(vars ++ caps.map λ k=>X.N.getD k Str.empty)[i]?=some x:=by rw [<- hN];exact e1
  unfold stC at e2;rw [aM (by simpa using hi),bb,aj] at e2;rw [aM (by omega),aj] at e1';cases ek:caps[i - vars.length]? with
  | none=>rw [ek] at e2;cases e2
  | some k =>
   rw [ek] at e1' e2;obtain ⟨hkl,hlk⟩:=C.caps k (af ek);have ex:X.N.getD k Str.empty=x:=by simpa using e1'
   have es:σ[k]?.getD none=some v:=by simpa using e2
   have es':σ[k]?=some (some v):=by
    cases q:σ[k]? with
    | none=>rw [q] at es;cases es
    | some z=>rw [q] at es;simp only [bt] at es;rw [es]
   have eN:X.N[k]?=some x:=by
    rw [<- ex,ae,ac hkl];rfl
   rw [ex] at hlk;have hm:(x,NameKind.free)∈scope.names:=bD hlk;have hkx:=hkf _ hm rfl;obtain ⟨m,_,hl⟩:=I.loc;obtain ⟨u,r,L⟩:=hl k x v eN es' (hkx.elim (λ z=>.inr (.inl z)) λ z=>.inr (.inr z));refine ⟨u,r,.inr ⟨J9 (osc:=X.env.scope) hlk,?_⟩⟩;obtain ⟨c',ec⟩:=ZC (cells:=X.env.cells) (cs:=[]) hm;rcases L with ⟨z,_⟩|⟨_,c,ec2,o,ho,hd⟩
   ·rcases hkx with y|y <;> (simp only at y;rw [y] at z;cases z)
   ·have z:=get x c' ec;rw [ec2] at z;obtain rfl:c=c':=aI z;exact ⟨c,ec,o,hk _ _ ho,hd⟩
 ·obtain ⟨v,o,ho,hd⟩:=I.cell x c (get x c h);exact ⟨v,o,hk _ _ ho,hd⟩
 ·have hp':p∈X.pn ++ pins:=by simpa [cxC] using hp
  obtain ⟨e,n,ne,nf,d⟩:=I.pin p hp';exact ⟨hk _ _ e,n,aF (au e),λ z=>(ax.mp (I.stkSub _ z)).elim ne nf,d⟩
 ·show (stC vars.length caps σ).length=N.length
  rw [hN];simp [stC]
def zbM {σ':St} {H':Hp} {s':Shared} (I:Inv X pins σ H s) (hf:∀ b∈fp,QK X pins H b) (I':Inv (cxC X N scope s H fp pins) [] σ' H' s'):Inv X pins σ H' s' :=
 I.call' (ch:=fp) I'.os I'.base I'.hok I'.bare λ b hb=>⟨(hf b hb).2.2.2.1,(hf b hb).2.1,(hf b hb).2.2.2.2.1,(hf b hb).2.2.2.2.2⟩
end
section
variable {prog:Program} {w:World} {A:Around} {R:Result->Shared->Prop} {s:Shared}
abbrev NoX:Value->Shared->Prop:=λ _ _=>False
theorem zdD {elt target iter:Expr} {ifs:List Expr} {scope:Scope} {pos:Pos} {it acc:Value} {env:Env} (I:Nat->Shared->Prop)
  (turn:∀ n s,I n s->wpAny (model prog w) A (pyNext it) (λ r s₁=>match r with
   | none=>R (.ok .next) s₁
   | some v=>wpAny (model prog w) A (letOwnedTupleGo target it v) (λ _ s₁'=>wpAny (model prog w) A (assign target env v) (λ _ s₂ =>
     wpAny (model prog w) A (forIn ifs true λ c r=>if r=true then do let ok <- isTrue c env (eval c env);pure (ForInStep.yield ok) else pure (ForInStep.yield r)) (λ ok s₃ =>
      if ok=true then wpAny (model prog w) A (eval elt env) (λ x s₄ =>
       wpAny (model prog w) A (call (.builtin "list.append") [acc,x]) (λ _ s₅=>∃ m,m < n/\I m s₅) NoX s₄) NoX s₃
      else ∃ m,m < n/\I m s₃) NoX s₂) NoX s₁') NoX s₁) NoX s)
  (n:Nat) (h:I n s) :
  codeAny (model prog w) A (.compLoop (.ListComp elt [⟨target,iter,ifs,0⟩] scope pos) 0 it acc env) R s:=by
 refine codeAny_loop rfl I (λ n s hI=>?_) n h;show wpAny _ A ((compTurn (.ListComp elt [⟨target,iter,ifs,0⟩] scope pos) 0 it acc env).onRaise (λ x=>do noteFrame x env;theTreesLotGoes x)) _ _ s
 refine wpAny_noted ?_;rw [compTurn_list];refine ad (ft (ad (aO (turn n s hI) (λ r s₁ h₁=>?_) λ _ _ h'=>h'.elim)));cases r with
 | none=>exact aw h₁
 | some v =>
  refine ad (aO h₁ (λ _ s₁' h₁'=>?_) λ _ _ h'=>h'.elim);refine ad (aO h₁' (λ _ s₂ h₂=>ad (aO h₂ (λ ok s₃ h₃=>?_) λ _ _ h'=>h'.elim)) λ _ _ h'=>h'.elim);cases ok with
  | false=>exact aw ⟨rfl,h₃⟩
  | true =>
   exact ad (ad (aO h₃ (λ x s₄ h₄=>ad (aO h₄ (λ _ s₅ h₅=>aw (aw ⟨rfl,h₅⟩)) λ _ _ h'=>h'.elim)) λ _ _ h'=>h'.elim))
end
def zfu (X:Cx) (ifs:List Expr) (t:TT):Prop :=
 ∀ (pins:List (Addr × Obj)) (s:Shared) (σ:St) (H:Hp) (Q:Bool->Hp->Prop),Inv X pins σ H s->t σ H Q ->
  wpAny (model X.prog X.w) X.A (forIn ifs true λ c r=>if r=true then do let ok <- isTrue c X.env (eval c X.env);pure (ForInStep.yield ok) else pure (ForInStep.yield r)) (TP X pins σ Q) X.xe s
def tYes:TT:=λ _ H Q=>Q true H
def qf {X:Cx}:zfu X [] tYes:=λ _ _ _ H _ I h=>wpAny_tests_nil ⟨H,I,h⟩
def Vj {X:Cx} {c:Expr} {t:TT} (h:PT X c t):zfu X [c] t:=λ pins s σ H Q I hw=>wpAny_tests_one (h pins s σ H Q I hw)
abbrev CB (α:Type):=Shared->Hp->List Addr->List (Addr × Obj)->α
def tLc (wi:TI) (nv:Nat) (caps:List Nat) (g:CB TG) (tt:CB TT) (te:CB TE):TE:=λ σ H Q=>wi σ H λ J H1=>∀ (s3:Shared) (H3:Hp) (fp:List Addr) (pns:List (Addr × Obj)) acc,H1 acc=none ->
 ∃ W:Nat->Nat->St->Hp->Prop,(∃ m,W 0 m (stC nv caps σ) (upd H1 acc (.lst [])))/\∀ i m σ' H',W i m σ' H' ->
  (J.stop i H'/\Q (.ref acc) H')\/(J.go i H'/\∃ N:St->Hp->Prop,(∀ σ'' H'',N σ'' H''->∃ m',m' < m/\W (i + 1) m' σ'' H'')/\∀ x H'',J.yld i H' x H''->g s3 H3 fp pns x σ' H'' λ σ2 H2=>tt s3 H3 fp pns σ2 H2 λ b H5 =>
   if b=true then te s3 H3 fp pns σ2 H5 λ y H4=>∃ ys,H4 acc=some (.lst ys)/\ys.length < sizeLine/\N σ2 (upd H4 acc (.lst (ys ++ [y]))) else N σ2 H5)
section
variable {X:Cx} {elt target iter:Expr} {ifs:List Expr} {scope osc:Scope} {pos:Pos} {wi:TI} {g:CB TG} {tt:CB TT} {te:CB TE} {N vars:List Str} {caps:List Nat}
theorem XE {pins:List (Addr × Obj)} {σ:St} {H2:Hp} {s2:Shared} {it:Addr} {fp:List Addr} {tn:Nat->Heap->Prop} {J:It} {Q:VK} {RR:Value->Addr->Result->Shared->Prop} {E:Value->Shared->Prop}
  (hosc:X.env.scope=osc) (C:CompOk osc scope X.N vars caps) (hN:N=vars ++ caps.map λ k=>X.N.getD k Str.empty) (hc:X.calm=true)
  (hg:∀ s H fp pins,PG (cxC X N scope s H fp pins) target (g s H fp pins)) (ht:∀ s H fp pins,zfu (cxC X N scope s H fp pins) ifs (tt s H fp pins)) (he:∀ s H fp pins,PE (cxC X N scope s H fp pins) elt (te s H fp pins))
  (I2:Inv X pins σ H2 s2) (T:Turn X.prog X.w X.K target J fp it tn) (st2:tn 0 s2.heap) (hf:∀ b∈fp,QK X pins H2 b)
  (h:∀ (s3:Shared) (H3:Hp) (fp:List Addr) (pns:List (Addr × Obj)) acc,H2 acc=none->∃ W:Nat->Nat->St->Hp->Prop,(∃ m,W 0 m (stC vars.length caps σ) (upd H2 acc (.lst [])))/\∀ i m σ' H',W i m σ' H' ->
   (J.stop i H'/\Q (.ref acc) H')\/(J.go i H'/\∃ N:St->Hp->Prop,(∀ σ'' H'',N σ'' H''->∃ m',m' < m/\W (i + 1) m' σ'' H'')/\∀ x H'',J.yld i H' x H''->g s3 H3 fp pns x σ' H'' λ σ2 H2=>tt s3 H3 fp pns σ2 H2 λ b H5 =>
    if b=true then te s3 H3 fp pns σ2 H5 λ y H4=>∃ ys,H4 acc=some (.lst ys)/\ys.length < sizeLine/\N σ2 (upd H4 acc (.lst (ys ++ [y]))) else N σ2 H5))
  (hRR:∀ acc C s' H' m,Inv X pins σ H' s'->Q (.ref acc) H'->s'.heap.Ns C m->H' C=none->C≠X.env.locals->X.s₀.heap.objs.size<=C->(∀ x c,X.env.cells.lookup x=some c->c≠C)->(∀ p∈X.pn ++ pins,p.1≠C)->RR (.ref acc) C (.ok .next) s') :
  wpAny (model X.prog X.w) X.A (newList []) (λ acc s₃=>wpAny (model X.prog X.w) X.A (newFunctionEnv scope X.env.globals (ja X.env.cells scope.names []) [] X.env.qual none .none (some X.env)) (λ cenv s₄ =>
   codeAny (model X.prog X.w) X.A (.compStart (.ListComp elt [⟨target,iter,ifs,0⟩] scope pos) 0 (.ref it) acc { cenv with scope:=relabel scope X.env }) (RR acc cenv.locals) s₄) E s₃) E s2:=by
 refine dg (wpAny_newFunctionEnv C.cell (by intro y hy;simp at hy) (λ h₁ hns₁ hsb₁=>?_) C.kind);obtain ⟨W,⟨m0,w0⟩,turn⟩:=h { s2 with heap:=s2.heap.push { cls:=.type "list",dict:=none,data:=.seq ([]:List Value).toArray } } (upd H2 s2.heap.objs.size (.lst [])) fp pins s2.heap.objs.size I2.fresh;have I3:Inv X pins σ (upd H2 s2.heap.objs.size (.lst [])) { s2 with heap:=s2.heap.push { cls:=.type "list",dict:=none,data:=.seq ([]:List Value).toArray } }:=I2.lnew (its:=[]) (t':=s2.toks) .nil (by decide);dsimp only at hns₁ hsb₁ ⊢;have hfo:∀ b∈fp,∃ o,s2.heap.get? b=some o:=λ b hb=>let ⟨o,e,_⟩:=T.obj _ _ st2 b hb;⟨o,e⟩
 have hf3:∀ b∈fp,QK X pins (upd H2 s2.heap.objs.size (.lst [])) b:=λ b hb=>by
  refine ⟨?_,(hf b hb).2⟩;obtain ⟨o,e⟩:=hfo b hb;rw [upd_ne (aF (au e))];exact (hf b hb).1
 generalize hs3:({ s2 with heap:=s2.heap.push { cls:=.type "list",dict:=none,data:=.seq ([]:List Value).toArray } }:Shared)=s3 at I3 turn;have eh:s2.heap.push { cls:=.type "list",dict:=none,data:=.seq ([]:List Value).toArray }=s3.heap:=by rw [<- hs3]
 have old:∀ b o,s2.heap.get? b=some o->s3.heap.get? b=some o:=λ b o e=>by rw [<- eh];exact ah _ e
 rw [eh] at hns₁ hsb₁ ⊢;have es:({ s2 with heap:=h₁,toks:=s2.toks + ([]:List (Str × Value)).length }:Shared)={ s3 with heap:=h₁,toks:=s2.toks }:=by rw [<- hs3];rfl
 rw [es];generalize hH3:upd H2 s2.heap.objs.size (.lst [])=H3 at *;have hk:∀ b o,s3.heap.get? b=some o->h₁.get? b=some o:=λ b o e=>hsb₁.extBut b o (aF (au e)) (ah _ e);have I4:Inv (cxC X N scope s3 H3 fp pins) [] (stC vars.length caps σ) H3 { s3 with heap:=h₁,toks:=s2.toks }:=zeW I3 hosc C hN hf3 (λ b hb=>let ⟨o,e⟩:=hfo b hb;⟨o,old b o e⟩) hns₁ hk;have st4:tn 0 h₁:=T.keep _ _ _ st2 λ b hb o e=>hk b o (old b o e);have stat:∀ {H':Hp},(∀ b∈fp,H' b=none)->∀ b∈fp,QK (cxC X N scope s3 H3 fp pins) [] H' b:=λ hn b hb =>
  ⟨hn b hb,(I4.ok.exf b hb).1,I4.ok.exfs b hb,.inl hb,(I4.ok.exf b hb).2,λ p hp=>(hf b hb).2.2.2.2.2 p (by simpa [cxC] using hp)⟩
 have loop:∀ s4:Shared,s4={ s3 with heap:=h₁,toks:=s2.toks } ->
   codeAny (model X.prog X.w) X.A (.compLoop (.ListComp elt [⟨target,iter,ifs,0⟩] scope pos) 0 (.ref it) (.ref s2.heap.objs.size) (cxC X N scope s3 H3 fp pins).env) (RR (.ref s2.heap.objs.size) s3.heap.objs.size) s4:=by
  rintro s4 rfl;refine zdD (λ n s'=>∃ i σ' H',Inv (cxC X N scope s3 H3 fp pins) [] σ' H' s'/\tn i s'.heap/\(∀ b∈fp,H' b=none)/\W i n σ' H') ?_ m0 ⟨0,_,H3,I4,st4,λ b hb=>(hf3 b hb).1,w0⟩;rintro n s5 ⟨i,σ5,H5,I5,st5,fr5,w5⟩;rcases turn i n σ5 H5 w5 with ⟨stop,qn⟩|⟨go,NN,hNN,step⟩
  ·refine thn (T.done (cxC X N scope s3 H3 fp pins) rfl rfl rfl hc i [] s5 σ5 H5 NoX I5 (stat fr5) st5 stop) λ r s6 ⟨hr,I6⟩=>?_;subst hr;obtain ⟨m,hn,_⟩:=I6.loc;have hlt:∀ b o,s3.heap.get? b=some o->b≠s3.heap.objs.size:=λ b o e=>aF (au e);obtain ⟨m3,⟨oL,_,_,hoL,_⟩,_⟩:=I3.loc;refine hRR _ _ s6 H5 m (zbM I3 hf3 I6) qn hn I6.free (λ z=>hlt _ _ hoL z.symm) I3.sz (λ x c ec z=>?_) λ p hp z=>hlt _ _ (I3.pin p hp).1 z;obtain ⟨v,o,ho,_⟩:=I3.cell x c ec;exact hlt _ _ ho z
  ·refine thn (T.item (cxC X N scope s3 H3 fp pins) rfl rfl rfl hc i [] s5 σ5 H5 NoX I5 (stat fr5) st5 go) λ r s6 ⟨u,hr,h6⟩=>?_;subst hr;refine thn h6 λ _ s7 ⟨x,H7,I7,r7,y7,st7,fr7⟩=>?_;have I7':=I7.pinned (stat fr7) (T.obj _ _ st7);have again:∀ {σ8:St} {H8:Hp} {s8:Shared},Inv (cxC X N scope s3 H3 fp pins) ([] ++ Xb fp s7.heap) σ8 H8 s8->NN σ8 H8->∃ m,m < n/\∃ i σ' H',Inv (cxC X N scope s3 H3 fp pins) [] σ' H' s8/\tn i s8.heap/\(∀ b∈fp,H' b=none)/\W i m σ' H':=λ {σ8 H8 s8} I8 n8=>by
    obtain ⟨m',hm,w8⟩:=hNN σ8 H8 n8;refine ⟨m',hm,i + 1,σ8,H8,I8.unpinned,T.keep _ _ _ st7 λ b hb o e=>(I8.pin (b,o) (aV _ (aV _ (wQ hb e)))).1,λ b hb=>?_,w8⟩;obtain ⟨o,e,d⟩:=T.obj _ _ st7 b hb;exact (I8.pin (b,o) (aV _ (aV _ (wQ hb e)))).2.1
   refine thn (hg s3 H3 fp pins _ s7 σ5 H7 x u _ I7' r7 (step x H7 y7)) λ _ s8 ⟨σ8,H8,I8,q8⟩=>?_;refine thn (ht s3 H3 fp pins _ s8 σ8 H8 _ I8 q8) λ b s9 ⟨H9,I9,q9⟩=>?_;cases b with
   | false=>exact again I9 q9
   | true =>
    refine qz (he s3 H3 fp pins _ s9 σ8 H9 _ I9 q9) λ v s10 y H10 I10 r10 qq_=>?_;obtain ⟨ys,ea,hz,q10⟩:=qq_;refine thn (zU (X:=cxC X N scope s3 H3 fp pins) _ s10 σ8 H10 (.ref s2.heap.objs.size) [y] (.ref s2.heap.objs.size) [v] (λ _ H'=>NN σ8 H') I10 rfl (.cons r10 .nil) ⟨_,ys,y,rfl,rfl,ea,hz,q10⟩) λ _ s11 ⟨_,H11,I11,_,q11⟩=>?_;exact again I11 q11
 exact codeAny_compStart_list (loop _ rfl) (T.self X.A 0 _ _ _ st4 (loop _ rfl))
def jY {ON:List Str} (hosc:X.env.scope=osc) (hON:X.N=ON) (hB:zcC osc scope ON caps=true) (hN:N=vars ++ caps.map λ k=>ON.getD k Str.empty) (hc:X.calm=true) (hi:PI X target iter wi)
  (hg:∀ s H fp pins,PG (cxC X N scope s H fp pins) target (g s H fp pins)) (ht:∀ s H fp pins,zfu (cxC X N scope s H fp pins) ifs (tt s H fp pins)) (he:∀ s H fp pins,PE (cxC X N scope s H fp pins) elt (te s H fp pins))
  (hs:∀ x,foldedSetIterable iter X.env x=pure x:=by intro _;rfl):PE X (.ListComp elt [⟨target,iter,ifs,0⟩] scope pos) (tLc wi vars.length caps g tt te):=by
 subst hON;intro pins s σ H Q I h;have C:CompOk osc scope X.N vars caps:=zaP hB;have hclos:closureFor scope X.env=pure (ja X.env.cells scope.names []):=Ze λ y hy e=>I.ok.has y.1 (by have z:=C.free y hy e;rw [<- hosc] at z;exact z);rw [eval_ListComp];refine fv (use:=none) rfl hs hclos C.kind C.loc (thn (hi pins s σ H _ I h) λ v s1 h1=>thn h1 λ itv s2 h2=>?_);obtain ⟨it,fp,tn,J,H2,e,I2,T,st2,f2,hw⟩:=h2;subst e;refine XE (N:=N) (RR:=λ acc Cc=>compPost (model X.prog X.w) X.A X.xe none (EP X pins σ Q) acc Cc) hosc C hN hc hg ht he I2 T st2 f2 hw λ acc Cc s' H' m I' q hn hC hL hsz hcc hpp=>?_;refine ⟨m,hn,λ h' hs'=>⟨.ref acc,H',?_,rfl,q⟩⟩;exact I'.turned (t':=s'.toks) (it:=Cc) (λ b o hb e=>(hs'.2 b hb).trans e) hC (λ z=>hL z) (.inr hsz) hcc hpp
def QN {ON:List Str} {i:Nat} {x:Str} {pos' spos:Pos} (hNd:X.N.Nodup) (hix:X.N[i]?=some x) (hx:Loc X.env.scope x)
  (hosc:X.env.scope=osc) (hON:X.N=ON) (hB:zcC osc scope ON caps=true) (hN:N=vars ++ caps.map λ k=>ON.getD k Str.empty) (hc:X.calm=true) (hi:PI X target iter wi)
  (hg:∀ s H fp pins,PG (cxC X N scope s H fp pins) target (g s H fp pins)) (ht:∀ s H fp pins,zfu (cxC X N scope s H fp pins) ifs (tt s H fp pins)) (he:∀ s H fp pins,PE (cxC X N scope s H fp pins) elt (te s H fp pins))
  (hsw:swapsWith (.ListComp elt [⟨target,iter,ifs,0⟩] scope pos) (some (.Name x pos')) spos.line X.env=pure true:=by rfl)
  (hf:X.fn x=true\/X.env.scope.names.lookup x=some .local:=by walk_at "p")
  (hs:∀ x,foldedSetIterable iter X.env x=pure x:=by intro _;rfl):PS X (.Assign [.Name x pos'] (.ListComp elt [⟨target,iter,ifs,0⟩] scope pos) spos) (tAsg (tLc wi vars.length caps g tt te) (gName i)):=by
 subst hON;intro pins s σ H D I h;have C:CompOk osc scope X.N vars caps:=zaP hB;have hclos:closureFor scope X.env=pure (ja X.env.cells scope.names []):=Ze λ y hy e=>I.ok.has y.1 (by have z:=C.free y hy e;rw [<- hosc] at z;exact z);rw [exec_Assign_Name_used _ _ _ _ hsw];refine ad (ft (ad ?_));show wpAny _ X.A (do let _ <- comprehension (.ListComp elt [⟨target,iter,ifs,0⟩] scope pos) scope X.env _ (newList []) false (eval iter X.env) (some (assign (.Name x pos') X.env))) _ _ s
 refine ad (aO (fv (use:=some (assign (.Name x pos') X.env)) (Q:=λ _ s'=>SP X pins D .next s') rfl hs hclos C.kind C.loc (thn (hi pins s σ H _ I h) λ v s1 h1=>thn h1 λ itv s2 h2=>?_)) (λ _ s' hq=>aw (aw hq)) λ _ _ e=>e);obtain ⟨it,fp,tn,J,H2,e,I2,T,st2,f2,hw⟩:=h2;subst e;refine XE (N:=N) (Q:=λ v H1=>gName i v σ H1 D.nx) (RR:=λ acc Cc=>compPost (model X.prog X.w) X.A X.xe (some (assign (.Name x pos') X.env)) (λ _ s'=>SP X pins D .next s') acc Cc) hosc C hN hc hg ht he I2 T st2 f2 hw λ acc Cc s' H' m I' q hn hC hL hsz hcc hpp=>?_;refine wpAny_assign_Name (Wg I' hNd hix hx (v:=.ref acc) rfl (λ s3 I3 ⟨a,sb,ha⟩=>?_) hf);have hne:Cc≠a:=λ z=>by
  rcases ha with e|e
  ·exact hL (z.trans e)
  ·exact hcc x a e z.symm
 refine ⟨m,hn.sameBut sb hne,λ h' hs'=>⟨_,H',?_,q⟩⟩;exact I3.turned (t':=s3.toks) (it:=Cc) (λ b o hb e=>(hs'.2 b hb).trans e) hC (λ z=>hL z) (.inr hsz) hcc hpp
end
end L2
namespace L2
open PySem PySem.Spec PySem.Calls PyProof.Rows
section
variable {X:Cx} {pins:List (Addr × Obj)} {σ:St} {H:Hp} {s:Shared} {h':Heap} {ch:List Addr}
def Inv.turnNew {T:Addr} {o:HO} {t':Nat} (I:Inv X pins σ H s) (hch:∀ b∈ch,QK X pins H b) (hT:s.heap.objs.size<=T) (keep:∀ b o,b ∉ ch->s.heap.get? b=some o->h'.get? b=some o)
  (new:ObjOk X.prog X.w (upd H T o) h' T o):Inv X pins σ (upd H T o) { s with heap:=h',toks:=t' }:=by
 have hn:H T=none:=I.hok.fresh hT;have lt:∀ b u,s.heap.get? b=some u->b≠T:=λ b u e=>aF (aE (au e) hT);have nch:∀ b u,H b=some u->b ∉ ch:=λ b u e z=>by rw [(hch b z).1] at e;cases e
 refine I.step (g':=s.gens) (d':=s.drawn) (ch:=ch) (λ b hb=>⟨(hch b hb).2.2.2.1,(hch b hb).2.1,(hch b hb).2.2.2.2.1,(hch b hb).2.2.2.2.2⟩) (λ b o _ _ hc e _=>keep b o hc e) (λ b o _ _ hc e _=>⟨o.slots,keep b o hc e⟩)
  (λ b o _ e n=>by rw [upd_ne (lt b o e)];exact n) (λ b o hc e=>⟨o,keep b o hc e⟩) (λ b xs e=>by rw [upd_ne (ne_of_none e hn)];exact e) (λ b o u e=>by rw [upd_ne (ne_of_none e hn)];exact e)
  (λ b ps e=>⟨#[],by rw [upd_ne (ne_of_none e hn),e];simp⟩) (λ m hm=>?_) (λ b u e=>?_) I.bare
 ·obtain ⟨o,es,ep,ho,r⟩:=hm;exact ⟨o,es,ep,keep _ o (λ z=>(hch _ z).2.1 rfl) ho,r⟩
 ·by_cases hb:b=T
  ·subst hb;rw [upd_same] at e;cases e;exact new
  ·rw [upd_ne hb] at e;refine (I.hok b u e).stay (λ c v hc q=>keep c v ?_ q) (λ c q=>by rw [upd_ne (ne_of_none q hn)];exact q) λ c xs q=>by rw [upd_ne (ne_of_none q hn)];exact q
   rcases hc with z|z
   ·rw [z];exact nch b u e
   ·exact nch c _ z
def Inv.turnL {t':Nat} (I:Inv X pins σ H s) (hch:∀ b∈ch,QK X pins H b) (keep:∀ b o,b ∉ ch->s.heap.get? b=some o->h'.get? b=some o):Inv X pins σ H { s with heap:=h',toks:=t' }:=by
 have nch:∀ b u,H b=some u->b ∉ ch:=λ b u e z=>by rw [(hch b z).1] at e;cases e
 refine I.step (g':=s.gens) (d':=s.drawn) (ch:=ch) (λ b hb=>⟨(hch b hb).2.2.2.1,(hch b hb).2.1,(hch b hb).2.2.2.2.1,(hch b hb).2.2.2.2.2⟩) (λ b o _ _ hc e _=>keep b o hc e) (λ b o _ _ hc e _=>⟨o.slots,keep b o hc e⟩)
  (λ _ _ _ _ n=>n) (λ b o hc e=>⟨o,keep b o hc e⟩) (λ _ _ e=>e) (λ _ _ _ e=>e) (λ b ps e=>⟨#[],by rw [e];simp⟩) (λ m hm=>?_) (λ b u e=>?_) I.bare
 ·obtain ⟨o,es,ep,ho,r⟩:=hm;exact ⟨o,es,ep,keep _ o (λ z=>(hch _ z).2.1 rfl) ho,r⟩
 ·refine (I.hok b u e).stay (λ c v hc q=>keep c v ?_ q) (λ _ q=>q) λ _ _ q=>q;rcases hc with z|z
  ·rw [z];exact nch b u e
  ·exact nch c _ z
end
noncomputable def Ite (K:PySem.W.Frag) (a:Addr):It :=
 ⟨λ i H=>∃ xs x,SqL K H a xs/\xs[i]?=some x,λ i H v H'=>∃ t x,H t=none/\v=.ref t/\(∀ xs,SqL K H a xs->xs[i]?=some x)/\H'=upd H t (.tup [.int i,x]),λ i H=>∃ xs,SqL K H a xs/\xs.length<=i⟩
def zcM {P:Program} {w:World} {K:PySem.W.Frag} {elts:List Expr} {x1} {pos:Pos} (a e it:Addr) (hne:e≠it) :
  Turn P w K (.Tuple elts x1 pos) (Ite K a) [e,it] e (λ i h=>(∃ old,IsEnum h e it i old)/\h.IsListIter it a i) where
 mem:=by simp
 obj:=λ i h st b hb=>by
  obtain ⟨⟨old,he⟩,o,ho,c,d⟩:=st;rcases ax.mp hb with rfl|hb
  ·exact ⟨_,he,λ v z=>by cases z⟩
  ·obtain rfl:b=it:=by simpa using hb
   exact ⟨o,ho,λ v z=>by rw [d] at z;cases z⟩
 keep:=λ i h h' st k=>by
  obtain ⟨⟨old,he⟩,hi⟩:=st;exact ⟨⟨old,k e (by simp) _ he⟩,hi.at λ o z=>k it (by simp) o z⟩
 item:=by
  intro X hP hw hK hc i pins s σ H E I hf st hg;subst hP hw hK;obtain ⟨⟨old,he⟩,hi⟩:=st;obtain ⟨xs,x,hq,hx⟩:=hg;obtain ⟨its,rv,p,hz⟩:=I.list hq;obtain ⟨u,hu,ru⟩:=rv.get hx;refine wpAny_pyNext_enum_item he hi p.isList (x:=u) (by simpa using hu) hne λ h' he' hi' hT hsz hk=>?_;refine ⟨_,rfl,?_⟩;have I1:Inv X pins σ (upd H s.heap.objs.size (.tup [.int i,x])) { s with heap:=h',toks:=s.toks + 1 }:=I.turnNew hf (ar _) (λ b o hb q=>hk b o (λ z=>hb (by simp [z])) (λ z=>hb (by simp [z])) q)
   ⟨by show 2<=sizeLine;decide,[.int i s.toks,u],.cons ⟨_,rfl⟩ (.cons ru .nil),⟨_,hT,rfl,_,rfl⟩⟩
  have hn:H s.heap.objs.size=none:=I.hok.fresh (ar _);have ne:∀ b∈[e,it],b≠s.heap.objs.size:=λ b hb=>by
   rcases ax.mp hb with rfl|hb
   ·exact aF (au he)
   ·obtain rfl:b=it:=by simpa using hb
    obtain ⟨o,ho,_⟩:=hi;exact aF (au ho)
  have fr:∀ b∈[e,it],(upd H s.heap.objs.size (.tup [.int i,x])) b=none:=λ b hb=>by rw [upd_ne (ne b hb)];exact (hf b hb).1
  refine wpAny_letOwnedTupleGo_enum he' λ h'' he'' hs''=>?_;refine ⟨.ref s.heap.objs.size,_,I1.turnL (t':=s.toks + 1) (ch:=[e]) (λ b hb=>?_) (λ b o hb q=>(hs''.2 b (λ z=>hb (by simp [z]))).trans q),rfl,
   ⟨s.heap.objs.size,x,hn,rfl,λ ys hy=>by rw [I.list_inj hy hq];exact hx,rfl⟩,⟨⟨u,?_⟩,hi'.extBut hs''.extBut (aZ hne)⟩,fr⟩
  ·obtain rfl:b=e:=by simpa using hb
   exact ⟨fr b (by simp),(hf b (by simp)).2⟩
  ·exact he''
 done:=by
  intro X hP hw hK hc i pins s σ H E I hf st hg;subst hP hw hK;obtain ⟨⟨old,he⟩,hi⟩:=st;obtain ⟨xs,hq,hx⟩:=hg;obtain ⟨its,rv,p,hz⟩:=I.list hq;have hl:=rv.length;exact wpAny_pyNext_enum_end (I.ok.hd hc) he hi p.isList (by simp;omega) λ h' eb=>⟨rfl,I.turnL (t':=s.toks) hf λ b o hb q=>eb b o (λ z=>hb (by simp [z])) q⟩
 self:=λ _ _ _ _ _ st h=>by
  obtain ⟨⟨old,he⟩,_⟩:=st;exact wpAny_pyIter_enum he h
def VO:bootBuiltins "enumerate"=some (.type "enumerate"):=by decide +kernel
def zhL:bootBuiltins "zip"=some (.type "zip"):=by decide +kernel
def iEnum (X:Cx) (ta:TA):TI:=λ σ H R=>X.mg "enumerate"=none/\ta σ H λ vs H1=>∃ a xs,vs=[.ref a]/\H1 a=some (.lst xs)/\R (Ite X.K a) H1
def xg {X:Cx} {a:Expr} {elts:List Expr} {x1} {tp p pos:Pos} {ta:TA} (ha:PA X [a] ta) (hg:Gl X "enumerate":=by rfl)
  (hs:starEach [a] X.env=(false,eval a X.env) :: starEach [] X.env:=by rfl) (hpl:(backTo pos (starEach [] X.env)).any (·.1)=false:=by rfl) :
  PI X (.Tuple elts x1 tp) (.Call (.Name "enumerate" p) [a] [] pos) (iEnum X ta):=by
 intro pins s σ H R I h;refine bA (wR I hg h.1 VO ?_);refine ba (w9 (ha pos pins s σ H _ I h.2) λ us s1 vs H1 I1 r1 q1=>?_) hs hpl;obtain ⟨l,xs,rfl,hq,hR⟩:=q1;obtain ⟨u,rfl,rx⟩:=ZG r1;cases rx;obtain ⟨hz,its,n,rv,hl,e⟩:=I1.lstM hq;refine call_enumerate_1 e λ h' he hi hsz hk=>wpAny_pyIter_enum he ?_;refine ⟨s1.heap.objs.size + 1,[s1.heap.objs.size + 1,s1.heap.objs.size],_,_,H1,rfl,I1.kept (t':=s1.toks) hk,zcM l _ _ (Nat.succ_ne_self _),⟨⟨_,he⟩,hi⟩,λ b hb=>?_,hR⟩;rcases ax.mp hb with rfl|hb
 ·exact I1.fpOk (cC _) (I1.hok.fresh (cC _))
 ·obtain rfl:b=s1.heap.objs.size:=by simpa using hb
  exact I1.fpOk (ar _) (I1.hok.fresh (ar _))
def ItAt (b:Bool) (h:Heap) (it a:Addr) (i:Nat):Prop:=if b=true then h.IsListIter it a i else h.IsTupleIter it a i
def SqAt (b:Bool) (h:Heap) (a:Addr) (items:Array Value):Prop:=if b=true then h.IsList a items else h.IsTuple a items
noncomputable def QD (b:Bool):String:=if b=true then "list_iterator" else "tuple_iterator"
def ItAt.at' {b:Bool} {h h':Heap} {it a:Addr} {i:Nat} (x:ItAt b h it a i) (hk:∀ o,h.get? it=some o->h'.get? it=some o):ItAt b h' it a i:=by
 cases b <;> exact let ⟨o,ho,r⟩:=x;⟨o,hk o ho,r⟩
def ItAt.obj {b:Bool} {h:Heap} {it a:Addr} {i:Nat} (x:ItAt b h it a i):∃ o,h.get? it=some o/\∀ v,o.data≠.cell v:=by
 cases b <;> exact let ⟨o,ho,_,hd⟩:=x;⟨o,ho,λ v z=>by rw [hd] at z;cases z⟩
def SqAt.at' {b:Bool} {h h':Heap} {a:Addr} {items:Array Value} (x:SqAt b h a items) (hk:∀ o,h.get? a=some o->h'.get? a=some o):SqAt b h' a items:=by
 cases b <;> exact let ⟨o,ho,r⟩:=x;⟨o,hk o ho,r⟩
section
variable {prog:Program} {w:World} {A:Around} {E:Value->Shared->Prop} {s:Shared}
def ZR {it t:Addr} {i:Nat} {items} {x:Value} {Q:Value->Shared->Prop} (hit:s.heap.IsTupleIter it t i) (ht:s.heap.IsTuple t items) (hx:items[i]?=some x)
  (hQ:∀ h',h'.IsTupleIter it t (i + 1)->Heap.SameBut it s.heap h'->Q x { s with heap:=h' }):wpAny (model prog w) A (Builtin.SmallTypes.nextOf (.ref it)) Q E s:=by
 obtain ⟨o,ho,hc,hd⟩:=id hit;obtain ⟨ol,hol,_,nl,hdl⟩:=ht;unfold Builtin.SmallTypes.nextOf;refine ad (cJ (name:=Str.ofString "__next__") hit.typeIs cr
  (dm cr hit.typeIs eZ ?_ (eQ _)))
 show wpAny _ _ (field (.ref it) 0 >>= _) _ _ s
 refine ad (be ho hd (x:=.ref t) rfl ?_);show wpAny _ _ (if (Value.ref t == Value.none)=true then _ else _) _ _ s
 rw [am (show ¬ ((Value.ref t == Value.none)=true) from az)];show wpAny _ _ (field (.ref it) 1 >>= _) _ _ s
 refine ad (be ho hd (x:=.int i 0) rfl ?_);show wpAny _ _ (seqItems? (.ref t) >>= _) _ _ s
 refine ad (bN hol hdl ?_);simp only [aK,hx];refine ad (cY ho hd (by simp) (aw ⟨x,rfl,aw (hQ _ ?_ (Heap.SameBut.update ..))⟩));exact ⟨_,bS _ ho (b8 (bj hd _)),(Obj.cls_mapFields ..).trans hc,by
  rw [bj hd];simp [rawInt]⟩
def Qy {it t:Addr} {i:Nat} {items} {Q:Value->Shared->Prop} (hh:A.handled=none) (hit:s.heap.IsTupleIter it t i) (ht:s.heap.IsTuple t items) (hx:items[i]?=none)
  (hE:∀ h' e,Heap.ExtBut it s.heap h'->(∃ o,h'.get? e=some o/\o.cls=.type "StopIteration")->E (.ref e) { s with heap:=h' }) :
  wpAny (model prog w) A (Builtin.SmallTypes.nextOf (.ref it)) Q E s:=by
 obtain ⟨o,ho,hc,hd⟩:=id hit;obtain ⟨ol,hol,_,nl,hdl⟩:=ht;unfold Builtin.SmallTypes.nextOf;refine ad (cJ (name:=Str.ofString "__next__") hit.typeIs cr
  (dm cr hit.typeIs eZ ?_ (eQ _)))
 show wpAny _ _ (field (.ref it) 0 >>= _) _ _ s
 refine ad (be ho hd (x:=.ref t) rfl ?_);show wpAny _ _ (if (Value.ref t == Value.none)=true then _ else _) _ _ s
 rw [am (show ¬ ((Value.ref t == Value.none)=true) from az)];show wpAny _ _ (field (.ref it) 1 >>= _) _ _ s
 refine ad (be ho hd (x:=.int i 0) rfl ?_);show wpAny _ _ (seqItems? (.ref t) >>= _) _ _ s
 refine ad (bN hol hdl ?_);simp only [aK,hx];refine ad (wpAny_rule (ad (cY ho hd (by simp) ?_)));show wpAny _ _ (newExc (.type "StopIteration") [] >>= _) _ _ _
 refine ad ?_;simp only [newExc,newTuple];refine ad (dg ?_ (by size_fits));refine ad (m:=firstArgMember _ _) (wpAny_of_eq (a:=Value.none) (by first|rfl|(simp only [firstArgMember];rfl)) ?_);refine dg ?_ (by size_fits);simp only [raiseNew];refine ad (wpAny_handled ?_)
 first|rw [show A.in1.handled=none from hh] | rw [hh]
 refine ad (aw (wpAny_throw ?_));exact hE _ _ (((Heap.SameBut.update ..).extBut.push _).push _) ⟨_,aA _ rfl,rfl⟩
def vz {b:Bool} {it t:Addr} {i:Nat} {items} {x:Value} {Q:Value->Shared->Prop} (hit:ItAt b s.heap it t i) (ht:SqAt b s.heap t items) (hx:items[i]?=some x)
  (hQ:∀ h',ItAt b h' it t (i + 1)->Heap.SameBut it s.heap h'->Q x { s with heap:=h' }):wpAny (model prog w) A (Builtin.SmallTypes.nextOf (.ref it)) Q E s:=by
 cases b
 ·exact ZR hit ht hx hQ
 ·exact wpAny_nextOf_list_item hit ht hx hQ
def Xk {b:Bool} {it t:Addr} {i:Nat} {items} {Q:Value->Shared->Prop} (hh:A.handled=none) (hit:ItAt b s.heap it t i) (ht:SqAt b s.heap t items) (hx:items[i]?=none)
  (hE:∀ h' e,Heap.ExtBut it s.heap h'->(∃ o,h'.get? e=some o/\o.cls=.type "StopIteration")->E (.ref e) { s with heap:=h' }) :
  wpAny (model prog w) A (Builtin.SmallTypes.nextOf (.ref it)) Q E s:=by
 cases b
 ·exact Qy hh hit ht hx hE
 ·exact wpAny_nextOf_list_end hh hit ht hx hE
def Wn {b:Bool} {t:Addr} {items} {Q:Value->Shared->Prop} (ht:SqAt b s.heap t items)
  (hQ:Q (.ref s.heap.objs.size) { s with heap:=s.heap.push { cls:=.type (QD b),data:=.fields #[.ref t,.int 0 0] } }):wpAny (model prog w) A (pyIter (.ref t)) Q E s:=by
 cases b
 ·exact wpAny_pyIter_tuple ht hQ
 ·exact de ht hQ
def zdT {b1 b2:Bool} {z TI TO i1 i2 l1 l2:Addr} {k1 k2:Nat} {xs ys:Array Value} {x y a b:Value} {Q:Value->Shared->Prop} (D:ZipApart z TI TO i1 i2 l1 l2)
  (hz:IsZip s.heap z TI TO .none) (hTI:IsPair s.heap TI (.ref i1) (.ref i2)) (hTO:IsPair s.heap TO a b)
  (h1:ItAt b1 s.heap i1 l1 k1) (h2:ItAt b2 s.heap i2 l2 k2) (hl1:SqAt b1 s.heap l1 xs) (hl2:SqAt b2 s.heap l2 ys) (hx:xs[k1]?=some x) (hy:ys[k2]?=some y)
  (hQ:∀ h',IsZip h' z TI TO (rawInt s.heap.objs.size)->IsPair h' TO x y->ItAt b1 h' i1 l1 (k1 + 1)->ItAt b2 h' i2 l2 (k2 + 1)->IsPair h' s.heap.objs.size x y->h'.objs.size=s.heap.objs.size + 1 ->
   (∀ c o,c≠z->c≠TO->c≠i1->c≠i2->s.heap.get? c=some o->h'.get? c=some o)->Q (.ref s.heap.objs.size) { s with heap:=h' }) :
  wpAny (model prog w) A (Builtin.«zip.__next__» ⟨[.ref z],[]⟩) (λ fin s'=>∃ v,fin=.done (.ret v)/\Q v s') E s:=by
 show wpAny _ _ (field (.ref z) 2 >>= _) _ _ _
 refine ad (be hz rfl (x:=.bool false) rfl ?_);show wpAny _ _ (field (.ref z) 3 >>= _) _ _ _
 refine ad (be hz rfl (x:=.ref TI) rfl ?_);refine ad (bN hTI rfl ?_);show wpAny _ _ (Builtin.SmallTypes.ownedTupleIsFree (.ref z) >>= _) _ _ _
 refine ad ?_;unfold Builtin.SmallTypes.ownedTupleIsFree;refine ad (be hz rfl (x:=.none) rfl (aw ?_));simp only [dJ];refine ad (wpAny_rule ?_);refine ad (be hz rfl (x:=.ref TO) rfl ?_);refine ad (b5 hz (by simp) λ h₁ hz₁ hs₁=>?_);replace hz₁:IsZip h₁ z TI TO .ellipsis:=hz₁;refine ad ?_;simp only [List.zipIdx_cons,List.zipIdx_nil,eT,List.forIn_nil];refine ad (ad (dQ ?_));show wpAny _ _ (Builtin.SmallTypes.nextOf (.ref i1) >>= _) _ _ _
 refine ad (vz (h1.at' λ o e=>hs₁.extBut _ _ D.i1z e) (hl1.at' λ o e=>hs₁.extBut _ _ D.l1z e) hx λ h₂ h1₂ hs₂=>aw ?_);have hTO₂:IsPair h₂ TO a b:=hs₂.extBut _ _ D.TOi1 (hs₁.extBut _ _ D.TOz hTO);refine ad (bN hTO₂ rfl ?_);refine ad (dI hTO₂ λ h₃ hTO₃ hs₃=>?_);replace hTO₃:IsPair h₃ TO x b:=hTO₃;refine ad (wpAny_letGo (aw ?_));refine ad (ad (dQ ?_));show wpAny _ _ (Builtin.SmallTypes.nextOf (.ref i2) >>= _) _ _ _
 refine ad (vz (h2.at' λ o e=>hs₃.extBut _ _ D.TOi2.symm (hs₂.extBut _ _ D.i12.symm (hs₁.extBut _ _ D.i2z e)))
  (hl2.at' λ o e=>hs₃.extBut _ _ D.l2TO (hs₂.extBut _ _ D.l2i1 (hs₁.extBut _ _ D.l2z e))) hy λ h₄ h2₄ hs₄=>aw ?_)
 have hTO₄:IsPair h₄ TO x b:=hs₄.extBut _ _ D.TOi2 hTO₃;refine ad (bN hTO₄ rfl ?_);refine ad (dI hTO₄ λ h₅ hTO₅ hs₅=>?_);replace hTO₅:IsPair h₅ TO x y:=hTO₅;refine ad (wpAny_letGo (aw (aw ?_)));refine ad (bN hTO₅ rfl ?_);refine ad (wpAny_newTuple ?_);have hsz:h₅.objs.size=s.heap.objs.size:=by rw [hs₅.1,hs₄.1,hs₃.1,hs₂.1,hs₁.1]
 have hz₅:IsZip h₅ z TI TO .ellipsis:=hs₅.extBut _ _ D.TOz.symm (hs₄.extBut _ _ D.i2z.symm (hs₃.extBut _ _ D.TOz.symm (hs₂.extBut _ _ D.i1z.symm hz₁)));have hk₅:∀ c o,c≠z->c≠TO->c≠i1->c≠i2->s.heap.get? c=some o->h₅.get? c=some o:=λ c o c1 c2 c3 c4 e =>
  hs₅.extBut _ _ c2 (hs₄.extBut _ _ c4 (hs₃.extBut _ _ c2 (hs₂.extBut _ _ c3 (hs₁.extBut _ _ c1 e))))
 have h1₅:ItAt b1 h₅ i1 l1 (k1 + 1):=h1₂.at' λ o e=>hs₅.extBut _ _ D.TOi1.symm (hs₄.extBut _ _ D.i12 (hs₃.extBut _ _ D.TOi1.symm e));have h2₅:ItAt b2 h₅ i2 l2 (k2 + 1):=h2₄.at' λ o e=>hs₅.extBut _ _ D.TOi2.symm e;have hzlt:z < h₅.objs.size:=au hz₅;show wpAny _ _ (Builtin.SmallTypes.ownedTupleHandOut (.ref z) (.ref h₅.objs.size) >>= _) _ _ _
 refine ad ?_;unfold Builtin.SmallTypes.ownedTupleHandOut;have hz₆:IsZip (h₅.push { cls:=.type "tuple",data:=.seq #[x,y] }) z TI TO .ellipsis:=ah _ hz₅;refine ad (b5 hz₆ (by simp) λ h₇ hz₇ hs₇=>?_);replace hz₇:IsZip h₇ z TI TO (rawInt h₅.objs.size):=hz₇;refine b5 hz₇ (by simp) λ h₈ hz₈ hs₈=>?_;replace hz₈:IsZip h₈ z TI TO (rawInt h₅.objs.size):=hz₈;have up:∀ c o,c≠z->h₅.get? c=some o->h₈.get? c=some o:=λ c o c1 e=>hs₈.extBut _ _ c1 (hs₇.extBut _ _ c1 (ah _ e));have hT₈:IsPair h₈ h₅.objs.size x y:=hs₈.extBut _ _ (cR hzlt) (hs₇.extBut _ _ (cR hzlt) (aA _ rfl));have hz8:h₈.objs.size=h₅.objs.size + 1:=by rw [hs₈.1,hs₇.1,bE]
 rw [hsz] at hz₈ hT₈ hz8;refine aw ⟨_,rfl,?_⟩;show Q (.ref h₅.objs.size) _
 rw [hsz];exact hQ h₈ hz₈ (up _ _ D.TOz hTO₅) (h1₅.at' λ o e=>up _ o D.i1z e) (h2₅.at' λ o e=>up _ o D.i2z e) hT₈ hz8 λ c o c1 c2 c3 c4 e=>up c o c1 (hk₅ c o c1 c2 c3 c4 e)
theorem zfv {b1 b2:Bool} {z TI TO i1 i2 l1 l2:Addr} {k1 k2:Nat} {xs ys:Array Value} {a b:Value} {Q:Fin->Shared->Prop} (hh:A.handled=none) (D:ZipApart z TI TO i1 i2 l1 l2)
  (hz:IsZip s.heap z TI TO .none) (hTI:IsPair s.heap TI (.ref i1) (.ref i2)) (hTO:IsPair s.heap TO a b)
  (h1:ItAt b1 s.heap i1 l1 k1) (h2:ItAt b2 s.heap i2 l2 k2) (hl1:SqAt b1 s.heap l1 xs) (hl2:SqAt b2 s.heap l2 ys) (hend:xs[k1]?=none\/ys[k2]?=none)
  (hE:∀ h' e,(∀ c o,c≠z->c≠TO->c≠i1->c≠i2->s.heap.get? c=some o->h'.get? c=some o)->(∃ o,h'.get? e=some o/\o.cls=.type "StopIteration")->E (.ref e) { s with heap:=h' }) :
  wpAny (model prog w) A (Builtin.«zip.__next__» ⟨[.ref z],[]⟩) Q E s:=by
 show wpAny _ _ (field (.ref z) 2 >>= _) _ _ _
 refine ad (be hz rfl (x:=.bool false) rfl ?_);show wpAny _ _ (field (.ref z) 3 >>= _) _ _ _
 refine ad (be hz rfl (x:=.ref TI) rfl ?_);refine ad (bN hTI rfl ?_);show wpAny _ _ (Builtin.SmallTypes.ownedTupleIsFree (.ref z) >>= _) _ _ _
 refine ad ?_;unfold Builtin.SmallTypes.ownedTupleIsFree;refine ad (be hz rfl (x:=.none) rfl (aw ?_));simp only [dJ];refine ad (wpAny_rule ?_);refine ad (be hz rfl (x:=.ref TO) rfl ?_);refine ad (b5 hz (by simp) λ h₁ hz₁ hs₁=>?_);replace hz₁:IsZip h₁ z TI TO .ellipsis:=hz₁;refine ad ?_;simp only [List.zipIdx_cons,List.zipIdx_nil,eT,List.forIn_nil];refine ad (ad (dQ ?_));show wpAny _ _ (Builtin.SmallTypes.nextOf (.ref i1) >>= _) _ _ _
 cases hx:xs[k1]? with
 | none =>
  refine ad (Xk hh (h1.at' λ o e=>hs₁.extBut _ _ D.i1z e) (hl1.at' λ o e=>hs₁.extBut _ _ D.l1z e) hx λ h₂ e hs₂ he=>?_);obtain ⟨oe,hoe,hce⟩:=he;have hz₂:IsZip h₂ z TI TO .ellipsis:=hs₂ _ _ D.i1z.symm hz₁;have hez:e≠z:=λ x=>by subst x;rw [hz₂] at hoe;cases hoe;simp at hce
  refine b5 hz₂ (by simp) λ h₃ _ hs₃=>hE h₃ e (λ c o c1 _ c3 _ x=>hs₃.extBut _ _ c1 (hs₂ _ _ c3 (hs₁.extBut _ _ c1 x))) ⟨oe,hs₃.extBut _ _ hez hoe,hce⟩
 | some x =>
  have hy:ys[k2]?=none:=by rcases hend with h|h;rw [hx] at h;cases h;exact h
  refine ad (vz (h1.at' λ o e=>hs₁.extBut _ _ D.i1z e) (hl1.at' λ o e=>hs₁.extBut _ _ D.l1z e) hx λ h₂ h1₂ hs₂=>aw ?_);have hTO₂:IsPair h₂ TO a b:=hs₂.extBut _ _ D.TOi1 (hs₁.extBut _ _ D.TOz hTO);refine ad (bN hTO₂ rfl ?_);refine ad (dI hTO₂ λ h₃ hTO₃ hs₃=>?_);refine ad (wpAny_letGo (aw ?_));refine ad (ad (dQ ?_));show wpAny _ _ (Builtin.SmallTypes.nextOf (.ref i2) >>= _) _ _ _
  refine ad (Xk hh (h2.at' λ o e=>hs₃.extBut _ _ D.TOi2.symm (hs₂.extBut _ _ D.i12.symm (hs₁.extBut _ _ D.i2z e)))
   (hl2.at' λ o e=>hs₃.extBut _ _ D.l2TO (hs₂.extBut _ _ D.l2i1 (hs₁.extBut _ _ D.l2z e))) hy λ h₄ e hs₄ he=>?_)
  obtain ⟨oe,hoe,hce⟩:=he;have hz₄:IsZip h₄ z TI TO .ellipsis:=hs₄ _ _ D.i2z.symm (hs₃.extBut _ _ D.TOz.symm (hs₂.extBut _ _ D.i1z.symm hz₁));have hez:e≠z:=λ x=>by subst x;rw [hz₄] at hoe;cases hoe;simp at hce
  refine b5 hz₄ (by simp) λ h₅ _ hs₅=>hE h₅ e (λ c o c1 c2 c3 c4 x=>hs₅.extBut _ _ c1 (hs₄ _ _ c4 (hs₃.extBut _ _ c2 (hs₂.extBut _ _ c3 (hs₁.extBut _ _ c1 x))))) ⟨oe,hs₅.extBut _ _ hez hoe,hce⟩
noncomputable abbrev zH1 (h:Heap) (b1:Bool) (l1:Addr):Heap:=h.push { cls:=.type (QD b1),data:=.fields #[.ref l1,.int 0 0] }
noncomputable abbrev zH2 (h:Heap) (b1 b2:Bool) (l1 l2:Addr):Heap:=(zH1 h b1 l1).push { cls:=.type (QD b2),data:=.fields #[.ref l2,.int 0 0] }
noncomputable abbrev zH3 (h:Heap) (b1 b2:Bool) (l1 l2:Addr):Heap:=(zH2 h b1 b2 l1 l2).push { cls:=.type "tuple",data:=.seq #[.ref h.objs.size,.ref (zH1 h b1 l1).objs.size] }
noncomputable abbrev zH4 (h:Heap) (b1 b2:Bool) (l1 l2:Addr):Heap:=(zH3 h b1 b2 l1 l2).push { cls:=.type "tuple",data:=.seq #[.none,.none] }
noncomputable abbrev zH5 (h:Heap) (b1 b2:Bool) (l1 l2:Addr):Heap:=(zH4 h b1 b2 l1 l2).push { cls:=.type "zip",data:=.fields #[.none,.bool false,.bool false,.ref (zH2 h b1 b2 l1 l2).objs.size,.ref (zH3 h b1 b2 l1 l2).objs.size] }
end
def zdl {b1 b2:Bool} (l1 l2:Addr) (xs ys:Array Value) :
  Meets (Builtin.«zip.__new__» ⟨[.type "zip",.ref l1,.ref l2],[]⟩) (λ _ R s=>SqAt b1 s.heap l1 xs/\SqAt b2 s.heap l2 ys /\
   R (.ok (.ret (.ref (zH4 s.heap b1 b2 l1 l2).objs.size))) { s with heap:=zH5 s.heap b1 b2 l1 l2 }) :=
 .of_wp λ prog w A R s h=>by
  obtain ⟨hp,g,d,tk,os⟩:=s;obtain ⟨hl1,hl2,h⟩:=h;have hsub:=sub_zip;have hL1:SqAt b1 (Shared.heap ⟨hp,g,d,tk,os⟩) l1 xs:=hl1;have hL2:SqAt b2 (Shared.heap ⟨hp.push { cls:=.type (QD b1),data:=.fields #[.ref l1,.int 0 0] },g,d,tk,os⟩) l2 ys:=hl2.at' λ o e=>ah _ e
  wp_walk using Wn hL1,Wn hL2
  exact ⟨_,rfl,h⟩
section
variable {prog:Program} {w:World} {A:Around} {E:Value->Shared->Prop} {s:Shared}
def ItAt.new {b:Bool} {h:Heap} {it l:Addr} (e:h.get? it=some { cls:=.type (QD b),data:=.fields #[.ref l,.int 0 0] }):ItAt b h it l 0:=by
 cases b <;> exact ⟨_,e,rfl,rfl⟩
def zfe {b1 b2:Bool} {l1 l2:Addr} {xs ys:Array Value} {Q:Value->Shared->Prop} (hl1:SqAt b1 s.heap l1 xs) (hl2:SqAt b2 s.heap l2 ys)
  (h:∀ h',IsZip h' (s.heap.objs.size + 4) (s.heap.objs.size + 2) (s.heap.objs.size + 3) .none->IsPair h' (s.heap.objs.size + 2) (.ref s.heap.objs.size) (.ref (s.heap.objs.size + 1)) ->
   IsPair h' (s.heap.objs.size + 3) .none .none->ItAt b1 h' s.heap.objs.size l1 0->ItAt b2 h' (s.heap.objs.size + 1) l2 0->h'.objs.size=s.heap.objs.size + 5 ->
   (∀ c o,s.heap.get? c=some o->h'.get? c=some o)->Q (.ref (s.heap.objs.size + 4)) { s with heap:=h' }) :
  wpAny (model prog w) A (call (.type "zip") [.ref l1,.ref l2]) Q E s:=by
 refine callType_new F.called_zip (by decide) (F.typeCall_zip_2 _ _) (F.newCall_zip_2 _ _) (λ obj=>F.args_object_init_3 obj _ _) F.entry_zip_new
  (zdl (b1:=b1) (b2:=b2) l1 l2 xs ys) ⟨hl1,hl2,?_⟩
 have z1:(zH1 s.heap b1 l1).objs.size=s.heap.objs.size + 1:=bE ..;have z2:(zH2 s.heap b1 b2 l1 l2).objs.size=s.heap.objs.size + 2:=by rw [bE,z1]
 have z3:(zH3 s.heap b1 b2 l1 l2).objs.size=s.heap.objs.size + 3:=by rw [bE,z2]
 have z4:(zH4 s.heap b1 b2 l1 l2).objs.size=s.heap.objs.size + 4:=by rw [bE,z3]
 have z5:(zH5 s.heap b1 b2 l1 l2).objs.size=s.heap.objs.size + 5:=by rw [bE,z4]
 have g5:(zH5 s.heap b1 b2 l1 l2).get? (zH4 s.heap b1 b2 l1 l2).objs.size=some _:=aA _ rfl;have g4:(zH5 s.heap b1 b2 l1 l2).get? (zH3 s.heap b1 b2 l1 l2).objs.size=some _:=ah _ (aA _ rfl);have g3:(zH5 s.heap b1 b2 l1 l2).get? (zH2 s.heap b1 b2 l1 l2).objs.size=some _:=ah _ (ah _ (aA _ rfl));have g2:(zH5 s.heap b1 b2 l1 l2).get? (zH1 s.heap b1 l1).objs.size=some _:=ah _ (ah _ (ah _ (aA _ rfl)));have g1:(zH5 s.heap b1 b2 l1 l2).get? s.heap.objs.size=some _:=ah _ (ah _ (ah _ (ah _ (aA _ rfl))));show _/\_
 rw [z2,z3,z4] at g5;rw [z1,z2] at g3;rw [z3] at g4;rw [z1] at g2;rw [z4];exact ⟨⟨_,g5,rfl⟩,h _ g5 g3 g4 (ItAt.new g1) (ItAt.new g2) z5 λ c o x =>
  ah _ (ah _ (ah _ (ah _ (ah _ x))))⟩
end
def SqB (b:Bool) (K:PySem.W.Frag) (H:Hp) (a:Addr) (xs:List V):Prop:=if b=true then SqL K H a xs else SqT K H a xs
def Inv.sqB {X:Cx} {pins:List (Addr × Obj)} {σ:St} {H:Hp} {s:Shared} {b:Bool} {a:Addr} {xs:List V} (I:Inv X pins σ H s) (h:SqB b X.K H a xs):∃ its:List Value,Vals xs its/\SqAt b s.heap a its.toArray:=by
 cases b
 ·obtain ⟨its,r,p,_⟩:=I.tuple (show SqT X.K H a xs from h);exact ⟨its,r,p⟩
 ·obtain ⟨its,r,p,_⟩:=I.list (show SqL X.K H a xs from h);exact ⟨its,r,p.isList⟩
def Inv.sqB_inj {X:Cx} {pins:List (Addr × Obj)} {σ:St} {H:Hp} {s:Shared} {b:Bool} {a:Addr} {xs ys:List V} (I:Inv X pins σ H s) (h1:SqB b X.K H a xs) (h2:SqB b X.K H a ys):xs=ys:=by
 cases b
 ·exact I.tuple_inj (show SqT X.K H a xs from h1) (show SqT X.K H a ys from h2)
 ·exact I.list_inj (show SqL X.K H a xs from h1) (show SqL X.K H a ys from h2)
noncomputable def Itz (K:PySem.W.Frag) (b1 b2:Bool) (a1 a2:Addr):It :=
 ⟨λ i H=>∃ xs ys x y,SqB b1 K H a1 xs/\SqB b2 K H a2 ys/\xs[i]?=some x/\ys[i]?=some y,
   λ i H v H'=>∃ t x y,H t=none/\v=.ref t/\(∀ xs,SqB b1 K H a1 xs->xs[i]?=some x)/\(∀ ys,SqB b2 K H a2 ys->ys[i]?=some y)/\H'=upd H t (.tup [x,y]),
   λ i H=>∃ xs ys,SqB b1 K H a1 xs/\SqB b2 K H a2 ys/\(xs.length<=i\/ys.length<=i)⟩
def SqB.there {X:Cx} {pins:List (Addr × Obj)} {σ:St} {H:Hp} {s:Shared} {b:Bool} {a:Addr} {xs:List V} (I:Inv X pins σ H s) (h:SqB b X.K H a xs):∃ o,s.heap.get? a=some o/\(o.cls=.type "list"\/o.cls=.type "tuple")/\∃ its n,o.data=.seq its n:=by
 obtain ⟨its,_,p⟩:=I.sqB h;cases b
 ·obtain ⟨o,e,c,n,d⟩:=p;exact ⟨o,e,.inr c,_,n,d⟩
 ·obtain ⟨o,e,c,n,d⟩:=p;exact ⟨o,e,.inl c,_,n,d⟩
def zdY {P:Program} {w:World} {K:PySem.W.Frag} {elts:List Expr} {x1} {pos:Pos} {b1 b2:Bool} (z TI TO i1 i2 l1 l2:Addr) (D:ZipApart z TI TO i1 i2 l1 l2) :
  Turn P w K (.Tuple elts x1 pos) (Itz K b1 b2 l1 l2) [z,TI,TO,i1,i2] z (λ i h=>IsZip h z TI TO .none/\IsPair h TI (.ref i1) (.ref i2)/\(∃ a b,IsPair h TO a b)/\ItAt b1 h i1 l1 i/\ItAt b2 h i2 l2 i) where
 mem:=by simp
 obj:=λ i h st b hb=>by
  obtain ⟨hz,hTI,⟨a,b',hTO⟩,h1,h2⟩:=st;simp only [ax,a8,bz] at hb;rcases hb with rfl|rfl|rfl|rfl|rfl
  ·exact ⟨_,hz,λ v z=>by cases z⟩
  ·exact ⟨_,hTI,λ v z=>by cases z⟩
  ·exact ⟨_,hTO,λ v z=>by cases z⟩
  ·exact h1.obj
  ·exact h2.obj
 keep:=λ i h h' st k=>by
  obtain ⟨hz,hTI,⟨a,b',hTO⟩,h1,h2⟩:=st;exact ⟨k z (by simp) _ hz,k TI (by simp) _ hTI,⟨a,b',k TO (by simp) _ hTO⟩,h1.at' λ o e=>k i1 (by simp) o e,h2.at' λ o e=>k i2 (by simp) o e⟩
 item:=by
  intro X hP hw hK hc i pins s σ H E I hf st hg;subst hP hw hK;obtain ⟨hz,hTI,⟨a,b',hTO⟩,h1,h2⟩:=st;obtain ⟨xs,ys,x,y,q1,q2,hx,hy⟩:=hg;obtain ⟨its1,r1,p1⟩:=I.sqB q1;obtain ⟨its2,r2,p2⟩:=I.sqB q2;obtain ⟨u1,hu1,ru1⟩:=r1.get hx;obtain ⟨u2,hu2,ru2⟩:=r2.get hy;have hT:s.TypeIs (.ref z) "zip":=⟨_,hz,rfl⟩;unfold pyNext;refine ad (fz (cJ (name:=Str.ofString "__next__") hT dE (dm dE hT F.entry_zip_next
   (zdT D hz hTI hTO h1 h2 p1 p2 (x:=u1) (y:=u2) (by simpa using hu1) (by simpa using hu2) λ h' a1 a2 a3 a4 a5 a6 hk=>aw ?_) (F.args_zip_next_1 _))))
  refine ⟨_,rfl,?_⟩;have I1:Inv X pins σ (upd H s.heap.objs.size (.tup [x,y])) { s with heap:=h' }:=I.turnNew (t':=s.toks) hf (ar _) (λ b o hb q=>hk b o (λ z=>hb (by simp [z])) (λ z=>hb (by simp [z])) (λ z=>hb (by simp [z])) (λ z=>hb (by simp [z])) q)
   ⟨by show 2<=sizeLine;decide,[u1,u2],.cons ru1 (.cons ru2 .nil),⟨_,a5,rfl,_,rfl⟩⟩
  have hn:H s.heap.objs.size=none:=I.hok.fresh (ar _);have ne:∀ b∈[z,TI,TO,i1,i2],b≠s.heap.objs.size:=λ b hb=>by
   have:∃ o,s.heap.get? b=some o:=by
    simp only [ax,a8,bz] at hb;rcases hb with rfl|rfl|rfl|rfl|rfl
    ·exact ⟨_,hz⟩
    ·exact ⟨_,hTI⟩
    ·exact ⟨_,hTO⟩
    ·exact let ⟨o,e,_⟩:=h1.obj;⟨o,e⟩
    ·exact let ⟨o,e,_⟩:=h2.obj;⟨o,e⟩
   obtain ⟨o,e⟩:=this;exact aF (au e)
  have fr:∀ b∈[z,TI,TO,i1,i2],(upd H s.heap.objs.size (.tup [x,y])) b=none:=λ b hb=>by rw [upd_ne (ne b hb)];exact (hf b hb).1
  have hTI':IsPair h' TI (.ref i1) (.ref i2):=hk _ _ D.TIz D.TITO D.TIi1 D.TIi2 hTI;refine wpAny_letOwnedTupleGo_zip a1 λ h'' hz'' hs''=>?_;refine ⟨.ref s.heap.objs.size,_,I1.turnL (t':=s.toks) (ch:=[z]) (λ b hb=>?_) (λ b o hb q=>(hs''.2 b (λ z=>hb (by simp [z]))).trans q),rfl,
   ⟨s.heap.objs.size,x,y,hn,rfl,λ zs hy=>by rw [I.sqB_inj hy q1];exact hx,λ zs hz=>by rw [I.sqB_inj hz q2];exact hy,rfl⟩,
   ⟨hz'',hs''.extBut _ _ D.TIz hTI',⟨_,_,hs''.extBut _ _ D.TOz a2⟩,a3.at' λ o e=>hs''.extBut _ _ D.i1z e,a4.at' λ o e=>hs''.extBut _ _ D.i2z e⟩,fr⟩
  obtain rfl:b=z:=by simpa using hb
  exact ⟨fr b (by simp),(hf b (by simp)).2⟩
 done:=by
  intro X hP hw hK hc i pins s σ H E I hf st hg;subst hP hw hK;obtain ⟨hz,hTI,⟨a,b',hTO⟩,h1,h2⟩:=st;obtain ⟨xs,ys,q1,q2,hx⟩:=hg;obtain ⟨its1,r1,p1⟩:=I.sqB q1;obtain ⟨its2,r2,p2⟩:=I.sqB q2;have e1:=r1.length;have e2:=r2.length;have hT:s.TypeIs (.ref z) "zip":=⟨_,hz,rfl⟩;have hend:its1.toArray[i]?=none\/its2.toArray[i]?=none:=by
   rcases hx with h|h
   ·exact .inl (by simp;omega)
   ·exact .inr (by simp;omega)
  unfold pyNext;refine ad (fz (cJ (name:=Str.ofString "__next__") hT dE
   (dm dE hT F.entry_zip_next (zfv (I.ok.hd hc) D hz hTI hTO h1 h2 p1 p2 hend λ h' e hk he=>?_) (F.args_zip_next_1 _))))
  obtain ⟨o,ho,hcl⟩:=he;refine ad (d8 (T:="StopIteration") (b:=true) ⟨o,ho,hcl⟩ isSubtype_stop ?_);exact aw ⟨rfl,I.turnL (t':=s.toks) hf λ b o hb q=>hk b o (λ z=>hb (by simp [z])) (λ z=>hb (by simp [z])) (λ z=>hb (by simp [z])) (λ z=>hb (by simp [z])) q⟩
 self:=λ _ _ _ _ _ st h=>wpAny_pyIter_zip st.1 h
def zcK (n l1 l2:Nat) (h1:l1 < n) (h2:l2 < n):ZipApart (n + 4) (n + 2) (n + 3) n (n + 1) l1 l2:=by
 constructor <;> (show (_:Nat)≠_) <;> omega
def iZip (X:Cx) (ta:TA):TI:=λ σ H R=>X.mg "zip"=none/\ta σ H λ vs H1=>∃ b1 b2 l1 l2 xs ys,vs=[.ref l1,.ref l2]/\SqB b1 X.K H1 l1 xs/\SqB b2 X.K H1 l2 ys/\R (Itz X.K b1 b2 l1 l2) H1
def zhd {X:Cx} {a b:Expr} {elts:List Expr} {x1} {tp p pos:Pos} {ta:TA} (ha:PA X [a,b] ta) (hg:Gl X "zip":=by rfl)
  (hs:starEach [a,b] X.env=(false,eval a X.env) :: starEach [b] X.env:=by rfl) (hpl:(backTo pos (starEach [b] X.env)).any (·.1)=false:=by rfl) :
  PI X (.Tuple elts x1 tp) (.Call (.Name "zip" p) [a,b] [] pos) (iZip X ta):=by
 intro pins s σ H R I h;refine bA (wR I hg h.1 zhL ?_);refine ba (w9 (ha pos pins s σ H _ I h.2) λ us s1 vs H1 I1 r1 q1=>?_) hs hpl;obtain ⟨b1,b2,l1,l2,xs,ys,rfl,q1,q2,hR⟩:=q1;obtain ⟨u1,u2,rfl,rx,ry⟩:=zgD r1;cases rx;cases ry;obtain ⟨its1,rv1,p1⟩:=I1.sqB q1;obtain ⟨its2,rv2,p2⟩:=I1.sqB q2;obtain ⟨o1,e1,_⟩:=SqB.there I1 q1;obtain ⟨o2,e2,_⟩:=SqB.there I1 q2;have n1:=au e1;have n2:=au e2;refine zfe p1 p2 λ h' hz hTI hTO h1 h2 hsz hk=>wpAny_pyIter_zip hz ?_;refine ⟨s1.heap.objs.size + 4,[s1.heap.objs.size + 4,s1.heap.objs.size + 2,s1.heap.objs.size + 3,s1.heap.objs.size,s1.heap.objs.size + 1],_,_,H1,rfl,I1.kept (t':=s1.toks) hk,
  zdY _ _ _ _ _ l1 l2 (zcK _ _ _ n1 n2),⟨hz,hTI,⟨_,_,hTO⟩,h1,h2⟩,λ b hb=>?_,hR⟩
 have ge:s1.heap.objs.size<=b:=by
  simp only [ax,a8,bz] at hb;rcases hb with rfl|rfl|rfl|rfl|rfl
  ·exact c8 _ _
  ·exact c8 _ _
  ·exact c8 _ _
  ·exact ar _
  ·exact c8 _ _
 exact I1.fpOk ge (I1.hok.fresh ge)
section
variable {K:PySem.W.Frag} {σ:St} {H:Hp}
def zcs {a:Addr} {xs:List V} {DN:St->Hp->Prop} {B:(St->Hp->Prop)->V->St->Hp->Prop} (Pv:Nat->St->Hp->Prop) (h0:Pv 0 σ H) (hl:∀ i σ H,i<=xs.length->Pv i σ H->SqL K H a xs)
  (hs:∀ i x t σ H,xs[i]?=some x->H t=none->Pv i σ H->B (Pv (i + 1)) (.ref t) σ (upd H t (.tup [.int i,x]))) (hd:∀ σ H,Pv xs.length σ H->DN σ H) :
  ∃ W:Nat->Nat->St->Hp->Prop,(∃ m,W 0 m σ H)/\∀ i m σ H,W i m σ H ->
   ((Ite K a).stop i H/\DN σ H)\/((Ite K a).go i H/\∃ N:St->Hp->Prop,(∀ σ' H',N σ' H'->∃ m',m' < m/\W (i + 1) m' σ' H')/\∀ x H',(Ite K a).yld i H x H'->B N x σ H'):=by
 refine ⟨λ i m σ H=>m=xs.length - i/\i<=xs.length/\Pv i σ H,⟨xs.length,by simp,bQ _,h0⟩,?_⟩;rintro i m σ H ⟨rfl,hi,p⟩;have q:=hl i σ H hi p;by_cases hlt:i < xs.length
 ·refine .inr ⟨⟨xs,xs[i],q,by simp [hlt]⟩,Pv (i + 1),λ σ' H' p'=>⟨xs.length - (i + 1),by omega,rfl,hlt,p'⟩,λ v H' y=>?_⟩;obtain ⟨t,x,ht,rfl,hx,rfl⟩:=y;exact hs i x t σ _ (hx xs q) ht p
 ·have e:i=xs.length:=by omega
  subst e;exact .inl ⟨⟨xs,q,ar _⟩,hd σ H p⟩
def zif {b1 b2:Bool} {a1 a2:Addr} {xs ys:List V} {DN:St->Hp->Prop} {B:(St->Hp->Prop)->V->St->Hp->Prop} (Pv:Nat->St->Hp->Prop) (h0:Pv 0 σ H) (hl:∀ i σ H,i<=min xs.length ys.length->Pv i σ H->SqB b1 K H a1 xs/\SqB b2 K H a2 ys)
  (hs:∀ i x y t σ H,xs[i]?=some x->ys[i]?=some y->H t=none->Pv i σ H->B (Pv (i + 1)) (.ref t) σ (upd H t (.tup [x,y]))) (hd:∀ σ H,Pv (min xs.length ys.length) σ H->DN σ H) :
  ∃ W:Nat->Nat->St->Hp->Prop,(∃ m,W 0 m σ H)/\∀ i m σ H,W i m σ H ->
   ((Itz K b1 b2 a1 a2).stop i H/\DN σ H)\/((Itz K b1 b2 a1 a2).go i H/\∃ N:St->Hp->Prop,(∀ σ' H',N σ' H'->∃ m',m' < m/\W (i + 1) m' σ' H')/\∀ x H',(Itz K b1 b2 a1 a2).yld i H x H'->B N x σ H'):=by
 refine ⟨λ i m σ H=>m=min xs.length ys.length - i/\i<=min xs.length ys.length/\Pv i σ H,⟨min xs.length ys.length,by simp,bQ _,h0⟩,?_⟩;rintro i m σ H ⟨rfl,hi,p⟩;obtain ⟨q1,q2⟩:=hl i σ H hi p;by_cases hlt:i < min xs.length ys.length
 ·have l1:i < xs.length:=by omega
  have l2:i < ys.length:=by omega
  refine .inr ⟨⟨xs,ys,xs[i],ys[i],q1,q2,by simp [l1],by simp [l2]⟩,Pv (i + 1),λ σ' H' p'=>⟨min xs.length ys.length - (i + 1),by omega,rfl,hlt,p'⟩,λ v H' y=>?_⟩;obtain ⟨t,x,y,ht,rfl,hx,hy,rfl⟩:=y;exact hs i x y t σ _ (hx xs q1) (hy ys q2) ht p
 ·have e:i=min xs.length ys.length:=by omega
  subst e;exact .inl ⟨⟨xs,ys,q1,q2,by omega⟩,hd σ H p⟩
end
section
variable {X:Cx} {N:List Str} {scope:Scope} {s:Shared} {H:Hp} {fp:List Addr} {pins:List (Addr × Obj)}
def cxC_K:(cxC X N scope s H fp pins).K=X.K:=rfl
def cxC_mg:(cxC X N scope s H fp pins).mg=X.mg:=rfl
def cxC_prog:(cxC X N scope s H fp pins).prog=X.prog:=rfl
def cxC_w:(cxC X N scope s H fp pins).w=X.w:=rfl
def cxC_base:(cxC X N scope s H fp pins).base=X.base:=rfl
end
end L2
namespace L2
open PySem PySem.Spec PySem.Calls PyProof.Rows
structure BCal (P:Program) (w:World) (K:PySem.W.Frag) (mg:Str->Option Value) (base:Heap) (x m:Str) (k:Nat) (ps:List Str) (dvs:List V) (sp:Sp):Prop where
 ex:∃ C f fd ds,mg x=some (.ref C)/\PySem.W.specialIn K (.ref C) "__getattribute__"=some (some (.builtin "type.__getattribute__"))/\readsIn K C (.type "type")=true /\
  findCls K (.ref C) (.type "type") m=some (.val (.ref f))/\PySem.W.handedIn (.ref f)=true/\FnOk P w K mg base (CXr P w) k f fd ps sp/\PySem.W.keepIn K (.ref f)=true/\Binds K fd ps ds/\Vals dvs ds
def BCal.mono {P:Program} {w:World} {K:PySem.W.Frag} {mg:Str->Option Value} {base:Heap} {x m:Str} {j k:Nat} {ps:List Str} {dvs:List V} {sp:Sp} (c:BCal P w K mg base x m j ps dvs sp) (h:j<=k:=by decide):BCal P w K mg base x m k ps dvs sp:=by
 obtain ⟨C,f,fd,ds,a,b,c,d,e,g,r⟩:=c.ex;exact ⟨C,f,fd,ds,a,b,c,d,e,g.mono h,r⟩
section
variable {X:Cx} {G:GK} {k:Nat} {x m:Str} {p pos apos:Pos} {e:Expr} {es:List Expr} {t:TA}
def tBase (X:Cx) (k:Nat) (x m:Str) (G:GK) (t:TA):TE:=λ σ H Q=>∃ ps dvs sp,BCal X.prog X.w X.K X.mg X.base x m k ps dvs sp/\t σ H λ vs H1=>sp (vs ++ dvs) H1 Q (λ cls _ H'=>G cls σ H')
def vP {pl:Sem Bool} (B:Bod X) (hr:Room k X.A) (ha:PA (X.exg G) (e :: es) t) (hg:Gl X x:=by rfl) (hdb:(x == ("__debug__":Str))=false:=by decide)
  (hst:starEach (e :: es) X.env=(false,eval e X.env) :: starEach es X.env:=by rfl) (hpl:(backTo pos (starEach es X.env)).any (·.1)=false:=by rfl)
  (ht:eval (.Call (.Attribute (.Name x p) m apos) (e :: es) [] pos) X.env=(do
   let ov <- eval (.Name x p) X.env
   standAt apos.atName
   let (f,first) <- holding [ov] (getMethod ov m pl)
   callWith pos f first (backTo pos (starEach (e :: es) X.env)) (backToKw pos (keywordEach [] X.env))):=by rfl) :
  PE (X.exg G) (.Call (.Attribute (.Name x p) m apos) (e :: es) [] pos) (tBase X k x m G t):=by
 intro pins s σ H Q I h;obtain ⟨ps,dvs,sp,⟨C,f,fd,ds,hm,hga,hrd,hfc,hhd,F,hk,hb,hd⟩,h⟩:=h;refine dU (pl:=pl) (xh I hg hm ?_ hdb) ht;refine PySem.W.method_cls I.kIn hga (PySem.W.cls_value I.kIn hrd hfc hhd ?_);have I0:=I.tok (s.toks + 1);refine dG (first:=[]) (h₀:=X.base) I.ok.mod.kin hk (w9 (ha pos pins _ σ H _ I0 h) λ us s1 vs H1 I1 r q=>⟨I1.kIn,?_⟩) hst hpl;exact Ji B F hr hb hd I1 r q
end
structure FB (K:PySem.W.Frag) (mg:Str->Option Value) (x m qual:Str) (st:Stmt) (ps:List Str):Prop where
 ex:∃ C f fd,mg x=some (.ref C)/\PySem.W.specialIn K (.ref C) "__getattribute__"=some (some (.builtin "type.__getattribute__"))/\readsIn K C (.type "type")=true /\
  findCls K (.ref C) (.type "type") m=some (.val (.ref f))/\Fun K m qual st f fd/\PySem.W.keepIn K (.ref f)=true/\Binds K fd ps []
def FB.cal {P:Program} {w:World} {K:PySem.W.Frag} {mg:Str->Option Value} {base:Heap} {x m qual:Str} {st:Stmt} {ps:List Str} {k:Nat} {sp:Sp} (h:FB K mg x m qual st ps)
  (ok:∀ {f fd},Fun K m qual st f fd->FnOk P w K mg base (CXr P w) k f fd ps sp):BCal P w K mg base x m k ps [] sp:=by
 obtain ⟨C,f,fd,a,b,c,d,F,kp,bi⟩:=h.ex;exact ⟨C,f,fd,[],a,b,c,d,rfl,ok F,kp,bi,.nil⟩
def zik {K:PySem.W.Frag} {mg:Str->Option Value} {C:Addr} {x m qual:Str} {st:Stmt} {ps:List Str} {f:Addr} {oc:Value} {od an:Option Addr} {osl:Array (Option Value)} {kV doc pm cdv ct:Value} (gl:mg x=some (.ref C))
  (ga:PySem.W.specialIn K (.ref C) "__getattribute__"=some (some (.builtin "type.__getattribute__"))) (rd:readsIn K C (.type "type")=true) (fc:findCls K (.ref C) (.type "type") m=some (.val (.ref f)))
  (l:K.lookup f=some ⟨oc,od,.func (PySem.W.fnOf m qual (zW st) (zN st) (zf st) .none kV doc pm an cdv ct),osl⟩)
  (c:PySem.W.codeIn K cdv qual=true) (k:PySem.W.keepIn K (.ref f)=true)
  (hb:∀ (kV doc pm:Value) (an:Option Addr) (cdv ct:Value) (us:List Value),us.length=ps.length->bindArgs (PySem.W.fnOf m qual (zW st) (zN st) (zf st) .none kV doc pm an cdv ct) ⟨us,[]⟩=pure (ps.zip us)):FB K mg x m qual st ps :=
 ⟨C,f,_,gl,ga,rd,fc,wU l c k,k,(wU l c k).binds hb⟩
section
variable {X:Cx} {a b:Expr} {ta:TA} {p pos lp lpos:Pos}
noncomputable def rgL (lo:Int) (n:Nat):List V:=(List.range n).map λ (i:Nat)=>V.int (lo + (i:Int))
theorem za2 {lo:Int} {n:Nat} {acc:Array Value} (h:ItemsOf (λ i v=>∃ t,v=.int (lo + i * 1) t) acc n):Vals (rgL lo n) acc.toList:=by
 have key:∀ (k:Nat) (l:List Value) (m:Nat),l.length=m->(∀ i v,l[i]?=some v->∃ t,v=Value.int (lo + ((k + i:Nat):Int)) t)->Vals ((List.range' k m).map λ (i:Nat)=>V.int (lo + (i:Int))) l:=by
  intro k l
  induction l generalizing k with
  | nil=>intro m hm _;simp at hm;subst hm;exact .nil
  | cons x r ih =>
   intro m hm hv;obtain ⟨m,rfl⟩:∃ m',m=m' + 1:=⟨r.length,by simpa using hm.symm⟩;rw [List.range'_succ,bL];refine .cons ?_ (ih (k + 1) m (by simpa using hm) λ i v e=>?_)
   ·obtain ⟨t,e⟩:=hv 0 x rfl;exact ⟨t,by simpa using e⟩
   ·obtain ⟨t,e'⟩:=hv (i + 1) v (by simpa using e);exact ⟨t,by rw [e'];congr 2;omega⟩
 have:=key 0 acc.toList n (by simpa using h.1) λ i v e=>by
  obtain ⟨t,e'⟩:=h.2 i v (by simpa using e);exact ⟨t,by rw [e'];simp⟩
 rw [rgL,List.range_eq_range'];exact this
def tRg1 (X:Cx) (ta:TA):TE:=λ σ H Q=>X.mg "range"=none/\ta σ H λ vs H1=>lq vs λ v=>iq v λ j=>∀ p,H1 p=none->Q (.ref p) (upd H1 p (.rng 0 j))
theorem zhh (ha:PA X [a] ta) (hg:Gl X "range":=by rfl) (hs:starEach [a] X.env=[(false,eval a X.env)]:=by rfl):PE X (.Call (.Name "range" p) [a] [] pos) (tRg1 X ta):=by
 intro pins s σ H Q I h;refine Call_ (wR I hg h.1 boot_range (ba (w9 (ha pos pins s σ H _ I h.2) λ us s1 vs H1 I1 r1 q1=>?_) hs rfl));obtain ⟨j,e,q⟩:=zhr q1;subst e;cases r1 with
 | cons r rr =>
  cases rr;obtain ⟨t,rfl⟩:=r;exact call_range_1 ⟨.ref _,_,I1.laid (o:=.rng 0 j) (λ b o e=>ah _ e) (ar _) ⟨_,_,_,aA _ rfl⟩,rfl,q _ I1.fresh⟩
def zbq {lo:Int} {n:Nat}:(rgL lo n).length=n:=by simp [rgL]
def zfm (hc:X.calm=true):CallR X (.type "list") (λ xs H Q=>∃ p lo hi,xs=[.ref p]/\H p=some (.rng lo hi)/\(-(2 ^ 62)<=lo/\lo < 2 ^ 62/\-(2 ^ 62)<=hi/\hi < 2 ^ 62/\(hi - lo).toNat<=1000)/\∀ l,H l=none->Q (.ref l) (upd H l (.lst (rgL lo (hi - lo).toNat)))):=by
 intro pins s σ H xs us Q I r h;obtain ⟨p,lo,hi,rfl,hq,⟨h1,h2,h3,h4,h5⟩,q⟩:=h;obtain ⟨u,rfl,rx⟩:=ZG r;cases rx;obtain ⟨t,u,v,e⟩:=I.hok p _ hq;refine call_list_range (n:=(hi - lo).toNat) (I.ok.hd hc) e (small_one h1 h2 h3 h4) (by rw [rangeSize_one];split <;> omega) (by omega) λ h' tk acc' c' hk hS hit=>?_;exact ⟨.ref _,_,I.laid (o:=.lst (rgL lo (hi - lo).toNat)) (t':=tk) hk (ar _) ⟨by rw [zbq];exact cc (zm h5),acc'.toList,c',za2 hit,by simpa using hS⟩,rfl,q _ I.fresh⟩
end
end L2
namespace L2
open PySem PySem.Spec PyProof.Rows
noncomputable def Itd (lo:Int) (n:Nat):It:=⟨λ i _=>i < n,λ i H x H'=>H'=H/\x=.int (lo - i),λ i _=>n<=i⟩
def zcN {P:Program} {w:World} {K:PySem.W.Frag} {tg:Expr} (it:Addr) (lo:Int) (n:Nat):Turn P w K tg (Itd lo n) [it] it (λ i h=>IsRangeIter h it (lo + (i:Nat) * (-1)) ((n:Int) - (i:Nat)) (-1)) where
 mem:=by simp
 obj:=λ i h st b hb=>by
  have e:b=it:=by simpa using hb
  subst e;exact ⟨_,st,λ v z=>by
   have z':Data.fields _=Data.cell v:=z;cases z'⟩
 keep:=λ i h h' st k=>k it (by simp) _ st
 item:=by
  intro X hP hw hK hc i pins s σ H E I hf st hg;subst hP hw hK;obtain ⟨f0,f1,f2,f3,f4,f5⟩:=hf it (by simp);have W:=Walks.range (prog:=X.prog) (w:=X.w) (I.ok.hd hc) it lo (-1) n;refine W.item i s _ _ hg st λ v h' tk hv st' kk=>?_;obtain ⟨t,rfl⟩:=hv;have I1:Inv X pins σ H { s with heap:=h',toks:=tk }:=I.turned (λ b o hb e=>kk b o (by simpa using hb) e) f0 f1 f3 f4 f5;refine ⟨_,rfl,zco (s:={ s with heap:=h',toks:=tk }) (n:="range_iterator") st' rfl rfl (by decide) ⟨.int (lo - i),H,I1,⟨t,?_⟩,⟨rfl,rfl⟩,st',λ b hb=>(hf b hb).1⟩⟩
  congr 1;omega
 done:=by
  intro X hP hw hK hc i pins s σ H E I hf st hg;subst hP hw hK;obtain ⟨f0,f1,f2,f3,f4,f5⟩:=hf it (by simp);exact wpAny_pyNext_range_end (I.ok.hd hc) st (by have:n<=i:=hg;omega) λ h' eb=>⟨rfl,I.turned (t':=s.toks) (λ b o hb e=>eb b o hb e) f0 f1 f3 f4 f5⟩
 self:=λ _ _ _ _ _ st h=>wpAny_pyIter_rangeiter st h
def vp (a b:Int):Builtin.Range.rangeSize a b (-1)=((a - b).toNat:Int):=by
 unfold Builtin.Range.rangeSize;rw [am (by decide),show (- (-1:Int))=1 from rfl,Int.ediv_one]
 split <;> omega
def zba {a b:Int} (ha:-(2 ^ 62)<=a) (ha':a < 2 ^ 62) (hb:-(2 ^ 62)<=b) (hb':b < 2 ^ 62):Builtin.Range.small a b (-1)=true:=by
 unfold Builtin.Range.small;rw [vp];simp only [Builtin.Range.rangeFitsLong,cg,dS,bZ,bB,show ¬ ((-1:Int) > 0) by decide,dn];omega
section
variable {X:Cx} {tg:Expr}
def zgl {pins:List (Addr × Obj)} {σ:St} {H:Hp} {s:Shared} {R:It->Hp->Prop} {E:Value->Shared->Prop} {lo hi:Int} {t u v:Tok} {tk:Nat} (I:Inv X pins σ H s) (h1:-(2 ^ 62)<=lo) (h2:lo < 2 ^ 62) (h3:-(2 ^ 62)<=hi) (h4:hi < 2 ^ 62)
  (q:R (Itd lo (lo - hi).toNat) H):wpAny (model X.prog X.w) X.A (pyIter (.ref s.heap.objs.size)) (PIE X pins σ tg R) E { s with heap:=s.heap.push { cls:=.type "range",data:=.fields #[.int lo t,.int hi u,.int (-1) v] },toks:=tk }:=by
 refine wpAny_pyIter_range (IsRange.new ..) (zba h1 h2 h3 h4) ?_;have I1:Inv X pins σ H { s with heap:=s.heap.push { cls:=.type "range",data:=.fields #[.int lo t,.int hi u,.int (-1) v] },toks:=tk }:=I.kept λ b o e=>ah _ e;refine ⟨(s.heap.push { cls:=.type "range",data:=.fields #[.int lo t,.int hi u,.int (-1) v] }).objs.size,[(s.heap.push { cls:=.type "range",data:=.fields #[.int lo t,.int hi u,.int (-1) v] }).objs.size],_,_,H,rfl,
  I1.kept (t':=tk) λ b o e=>ah _ e,zcN _ lo (lo - hi).toNat,?_,λ b hb=>?_,q⟩
 ·have e1:lo + ((0:Nat):Int) * (-1)=lo:=by simp
  have e2:(((lo - hi).toNat:Nat):Int) - ((0:Nat):Int)=Builtin.Range.rangeSize lo hi (-1):=by rw [vp];omega
  show IsRangeIter _ _ (lo + ((0:Nat):Int) * (-1)) ((((lo - hi).toNat:Nat):Int) - ((0:Nat):Int)) (-1)
  rw [e1,e2];exact aA _ rfl
 ·have e:b=(s.heap.push { cls:=.type "range",data:=.fields #[.int lo t,.int hi u,.int (-1) v] }).objs.size:=by simpa using hb
  subst e;exact I1.fpOk (ar _) (I1.hok.fresh (ar _))
def iRng3 (X:Cx) (ta:TA):TI:=λ σ H R=>X.mg "range"=none/\ta σ H λ vs H1=>∃ i j:Int,vs=[.int i,.int j,.int (-1)]/\(-1000<=i/\i < 1000/\-1000<=j/\j < 1000)/\R (Itd i (i - j).toNat) H1
theorem zhe {a b c:Expr} {ta:TA} {p pos:Pos} (ha:PA X [a,b,c] ta) (hg:Gl X "range":=by rfl) (hs:starEach [a,b,c] X.env=[(false,eval a X.env),(false,eval b X.env),(false,eval c X.env)]:=by rfl) (hs2:starEach [b,c] X.env=[(false,eval b X.env),(false,eval c X.env)]:=by rfl) :
  PI X tg (.Call (.Name "range" p) [a,b,c] [] pos) (iRng3 X ta):=by
 intro pins s σ H R I h;refine Call_ (wR I hg h.1 boot_range (ba (w9 (ha pos pins s σ H _ I h.2) λ us s1 vs H1 I1 r1 q1=>?_) (by rw [hs,hs2]) (by rw [hs2];rfl)));obtain ⟨i,j,e,⟨q1,q2,q3,q4⟩,q⟩:=q1;subst e;cases r1 with
 | cons r rr =>
  cases rr with
  | cons r' rr =>
   cases rr with
   | cons r'' rr =>
    cases rr;obtain ⟨t,rfl⟩:=r;obtain ⟨t',rfl⟩:=r';obtain ⟨t'',rfl⟩:=r'';exact call_range_3 (by decide) (zgl I1 (by omega) (by omega) (by omega) (by omega) q) (Or.inl (eJ (by omega)))
def zih {K:PySem.W.Frag} {σ:St} {H:Hp} {lo:Int} {n:Nat} {DN:St->Hp->Prop} {B:(St->Hp->Prop)->V->St->Hp->Prop} (Pv:Nat->St->Hp->Prop) (h0:Pv 0 σ H)
  (hs:∀ i σ H,i < n->Pv i σ H->B (Pv (i + 1)) (.int (lo - i)) σ H) (hd:∀ σ H,Pv n σ H->DN σ H) :
  ∃ W:Nat->Nat->St->Hp->Prop,(∃ m,W 0 m σ H)/\∀ i m σ H,W i m σ H ->
   ((Itd lo n).stop i H/\DN σ H)\/((Itd lo n).go i H/\∃ N:St->Hp->Prop,(∀ σ' H',N σ' H'->∃ m',m' < m/\W (i + 1) m' σ' H')/\∀ x H',(Itd lo n).yld i H x H'->B N x σ H'):=by
 refine ⟨λ i m σ H=>m=n - i/\i<=n/\Pv i σ H,⟨n,by simp,bQ _,h0⟩,?_⟩;rintro i m σ H ⟨rfl,hi,p⟩;by_cases hlt:i < n
 ·refine .inr ⟨hlt,Pv (i + 1),λ σ' H' p'=>⟨n - (i + 1),by omega,rfl,hlt,p'⟩,λ x H' y=>?_⟩;obtain ⟨e,y⟩:=y;subst e y;exact hs i σ _ hlt p
 ·have e:i=n:=by omega
  subst e;exact .inl ⟨ar _,hd σ H p⟩
end
end L2
namespace L2
open PySem PySem.Spec PyProof.Rows
section
variable {X:Cx} {tg:Expr}
end
end L2
namespace L2
open PySem PySem.Spec PySem.Calls PyProof.Rows
theorem ZF:∀ {us:List Value} {ns:List Int},IntsAre us ns->Vals (ns.map V.int) us
 | _,_,.nil=>.nil
 | _,_,.cons n t h=>.cons ⟨t,rfl⟩ (ZF h)
section
variable {X:Cx}
def zdQ:CallR X (.builtin "sorted") (λ xs H Q=>∃ p,∃ ns:List Int,xs=[.ref p]/\SqL X.K H p (ns.map V.int)/\ns.length < 64 /\
  ∀ (ms:List Int) l,ms.Perm ns->ms.Pairwise (·<=·)->H l=none->Q (.ref l) (upd H l (.lst (ms.map V.int)))):=by
 intro pins s σ H xs us Q I r h;obtain ⟨p,ns,rfl,hp,h64,q⟩:=h;obtain ⟨u,rfl,rx⟩:=ZG r;cases rx;obtain ⟨its,rv,hl,hz⟩:=I.list hp;have hlen:its.length=ns.length:=by have:=rv.length;rw [ai] at this;exact this.symm
 refine sorted_ints hl.isList (zbN rv) (by omega) λ out ms a1 a2 a3=>?_;obtain ⟨e,he⟩:=sortedAll_at s.heap its out;exact ⟨.ref _,_,I.laid (a:=s.heap.objs.size + 1) (o:=.lst (ms.map V.int)) (t':=s.toks) (λ b o h=>sortedAll_old h) (cC _) ⟨by rw [ai,a2.length_eq];exact cc (zm (by omega)),out.toList,e,ZF a1,by simpa using he⟩,rfl,q ms _ a2 a3 (I.hok.fresh (cC _))⟩
end
structure FunD (K:PySem.W.Frag) (x qual:Str) (st:Stmt) (f:Addr) (fd:FuncData):Prop where
 ex:∃ (oc:Value) (od:Option Addr) (dV kV doc pm:Value) (an:Option Addr) (cdv ct:Value) (osl:Array (Option Value)),
  fd=PySem.W.fnOf x qual (zW st) (zN st) (zf st) dV kV doc pm an cdv ct/\K.lookup f=some ⟨oc,od,.func fd,osl⟩/\PySem.W.codeIn K cdv qual=true
 kp:PySem.W.keepIn K (.ref f)=true
section
variable {P:Program} {w:World} {K:PySem.W.Frag} {mg:Str->Option Value} {base:Heap}
def FunD.okx {x qual:Str} {st:Stmt} {f:Addr} {fd:FuncData} {N ps:List Str} {k:Nat} {sp:Sp} (F:FunD K x qual st f fd) (S:FnScope N ps (zf st)) (len:∀ vs H Q E,sp vs H Q E->vs.length=ps.length)
  (hbody:∀ (cdv:Value) (A:Around) (outer:List Env) (s:Shared) (H:Hp) (vs:List V) (Q:VK) (E:XK),Room k (A.deeper (envOfC qual (zf st) s.heap.objs.size f cdv))->sp vs H Q E ->
   ∃ t,PSs ((cxR P w K mg base N qual (zf st) f cdv A outer s H E).exg λ cls _ H'=>E cls none H') (zN st) t/\t { nx:=λ _ H'=>Q .non H',rt:=Q } (start N vs) H):FnOk P w K mg base (CXr P w) (k + 1) f fd ps sp:=by
 obtain ⟨oc,od,dV,kV,doc,pm,an,cdv,ct,osl,rfl,lk,hcd⟩:=F.ex;refine ze6 lk hcd S len λ A outer s H vs Q E hr hsp=>?_;obtain ⟨t,h,q⟩:=hbody cdv A outer s H vs Q E hr hsp;refine ⟨t,λ pins s σ H' D I hw=>?_,q⟩;refine aO (h pins s σ H' D (I.wish _) hw) (λ _ _ z=>z.unwish) λ e s' z=>?_;refine ad (aO (show wpAny _ _ _ _ _ _ from z) (λ _ s1 y1=>aO y1 (λ _ s'' y=>?_) λ _ _ y=>y.elim) λ _ _ y=>y.elim);obtain ⟨a,cls,σ2,H2,rfl,J,xx,g⟩:=y;exact ⟨a,cls,H2,rfl,J.os,J.bare,J.base,J.hok,xx.less (λ p hp=>absurd hp (by simp)),g⟩
structure FD (K:PySem.W.Frag) (mg:Str->Option Value) (x:Str) (st:Stmt) (ps:List Str) (dvs:List V):Prop where
 ex:∃ f fd ds,FunD K x x st f fd/\mg x=some (.ref f)/\Binds K fd ps []/\Binds K fd ps ds/\Vals dvs ds
def FD.cal {x:Str} {st:Stmt} {ps:List Str} {dvs:List V} {k:Nat} {sp:Sp} (h:FD K mg x st ps dvs) (ok:∀ {f fd},FunD K x x st f fd->FnOk P w K mg base (CXr P w) k f fd ps sp) :
  Cal P w K mg base x k ps [] sp:=by
 obtain ⟨f,fd,_,F,m,b,_⟩:=h.ex;exact ⟨f,fd,[],ok F,m,F.kp,b,.nil⟩
def FD.cald {x:Str} {st:Stmt} {ps:List Str} {dvs:List V} {k:Nat} {sp:Sp} (h:FD K mg x st ps dvs) (ok:∀ {f fd},FunD K x x st f fd->FnOk P w K mg base (CXr P w) k f fd ps sp) :
  Cal P w K mg base x k ps dvs sp:=by
 obtain ⟨f,fd,ds,F,m,_,b,v⟩:=h.ex;exact ⟨f,fd,ds,ok F,m,F.kp,b,v⟩
def zgP {h:Heap} {x:Str} {st:Stmt} {ps:List Str} {dvs:List V} {f dT:Addr} {oc toc:Value} {od an tod:Option Addr} {osl tsl:Array (Option Value)} {items:Array Value} {tn:Nat} {kV doc pm cdv ct:Value} (X:K.In h) (G:h.Ns mainGlobals mg)
  (a:PySem.W.nsIn K mainGlobals x=some (some (.ref f))) (l:K.lookup f=some ⟨oc,od,.func (PySem.W.fnOf x x (zW st) (zN st) (zf st) (.ref dT) kV doc pm an cdv ct),osl⟩)
  (c:PySem.W.codeIn K cdv x=true) (k:PySem.W.keepIn K (.ref f)=true) (lt:K.lookup dT=some ⟨toc,tod,.seq items tn,tsl⟩) (hv:Vals dvs items.toList)
  (hb:∀ (s:Shared) (us:List Value),K.In s.heap->us.length=ps.length->BindsTo s (PySem.W.fnOf x x (zW st) (zN st) (zf st) (.ref dT) kV doc pm an cdv ct) ⟨us,[]⟩ (ps.zip us))
  (hd:∀ (s:Shared) (us:List Value),K.In s.heap->(us ++ items.toList).length=ps.length->BindsTo s (PySem.W.fnOf x x (zW st) (zN st) (zf st) (.ref dT) kV doc pm an cdv ct) ⟨us,[]⟩ (ps.zip (us ++ items.toList))):FD K mg x st ps dvs :=
 ⟨f,_,items.toList,⟨⟨oc,od,.ref dT,kV,doc,pm,an,cdv,ct,osl,rfl,l,c⟩,k⟩,cj X G a,(λ s us hK hl=>by rw [cn] at hl ⊢;exact hb s us hK hl),hd,hv⟩
end
end L2
namespace L2
open PySem PySem.Spec PySem.Calls PyProof.Rows
section
variable {prog:Program} {w:World} {A:Around} {E:Value->Shared->Prop} {s:Shared} {R:Result->Shared->Prop}
end
section
variable {X:Cx} {a:Expr} {ta:TA} {p p2 pos pos2:Pos}
end
section
variable {X:Cx}
def zek:V->List V->Hp->VK->Prop:=λ x vs H Q=>∃ l y xs,∃ j:Nat,x=.ref l/\vs=[y]/\H l=some (.lst xs)/\xs.length < 1000/\jr y=true/\xs.all jr=true/\(∃ z,xs[j]?=some z/\eqV z y=true)/\(∀ m z,m < j->xs[m]?=some z->eqV z y=false)/\Q (.int j) H
def zaz:MtM X "list.index" zek:=by
 intro pins s σ H x vs v us Q I rx rv h;obtain ⟨l,y,xs,j,rfl,rfl,hH,hz,fy,fs,⟨z0,hj,hjy⟩,hno,q⟩:=h;cases rx;obtain ⟨z,its,n,r,hl,e⟩:=I.lstM hH;obtain ⟨u,rfl,ru⟩:=rv.one;have hjl:j < xs.length:=(aa.mp hj).1;have at':∀ m (hm:m < its.toArray.size) zz,xs[m]?=some zz->eqU y its.toArray[m]=eqV zz y:=λ m hm zz hzz=>by
  obtain ⟨w',hw',rw'⟩:=r.get hzz;have e1:its.toArray[m]=w':=by
   have:=(aa.mp hw').2;simpa using this
  rw [e1];exact zbV rw' (cf.mp fs zz (af hzz))
 refine du cZ ⟨_,e,rfl⟩ PySem.F.entry_list_index (PySem.F.args_list_index_2 _ _)
  (SeqAt.list_indexAt l its.toArray n none #[] u (eqU y) j (by rw [ao];omega) (by omega) ?_ ?_) ⟨e,λ w hw=>wn ru fy r fs w (by simpa using hw),?_⟩
 ·rw [at' j _ z0 hj];exact hjy
 ·intro m hm hlt;have hml:m < xs.length:=by omega
  rw [at' m hm _ (ac hml)];exact hno m _ hlt (ac hml)
 ·exact ⟨.int j,H,I.tok _,⟨_,rfl⟩,q⟩
end
end L2
namespace L2
open PySem PySem.Spec PyProof.Rows
inductive D where
 | non|bl (b:Bool)|int (i:Int)|str (x:Str)|lst (xs:List D)|tup (xs:List D)|ob (C:Addr) (fs:List (Str × D))
inductive Rep (H:Hp) (p:Addr->Prop):V->D->Prop where
 | non:Rep H p .non .non
 | bl {b:Bool}:Rep H p (.bl b) (.bl b)
 | int {i:Int}:Rep H p (.int i) (.int i)
 | str {x:Str}:Rep H p (.str x) (.str x)
 | lst {l:Addr} {vs:List V} {ds:List D}:p l->H l=some (.lst vs)->vs.length=ds.length->(∀ (i:Nat) v d,vs[i]?=some v->ds[i]?=some d->Rep H p v d)->Rep H p (.ref l) (.lst ds)
 | tup {l:Addr} {vs:List V} {ds:List D}:p l->H l=some (.tup vs)->vs.length=ds.length->(∀ (i:Nat) v d,vs[i]?=some v->ds[i]?=some d->Rep H p v d)->Rep H p (.ref l) (.tup ds)
 | ob {l C dx:Addr} {fs:List (Str × V)} {ds:List (Str × D)}:p l->H l=some (.ins C dx fs)->fs.map (·.1)=ds.map (·.1)->(∀ (i:Nat) f g,fs[i]?=some f->ds[i]?=some g->Rep H p f.2 g.2)->Rep H p (.ref l) (.ob C ds)
theorem Rep.keep {H H':Hp} {p q:Addr->Prop} (s:∀ b o,p b->H b=some o->q b/\H' b=some o) {v:V} {d:D} (h:Rep H p v d):Rep H' q v d:=by
 induction h with
 | non=>exact .non
 | bl=>exact .bl
 | int=>exact .int
 | str=>exact .str
 | lst pl hl e _ ih=>exact .lst (s _ _ pl hl).1 (s _ _ pl hl).2 e ih
 | tup pl hl e _ ih=>exact .tup (s _ _ pl hl).1 (s _ _ pl hl).2 e ih
 | ob pl hl e _ ih=>exact .ob (s _ _ pl hl).1 (s _ _ pl hl).2 e ih
structure Reps (H:Hp) (p:Addr->Prop) (vs:List V) (ds:List D):Prop where
 len:vs.length=ds.length
 g:∀ (i:Nat) v d,vs[i]?=some v->ds[i]?=some d->Rep H p v d
section
variable {H H':Hp} {p q:Addr->Prop} {vs us:List V} {ds es:List D} {v:V} {d:D}
def Reps.keep (s:∀ b o,p b->H b=some o->q b/\H' b=some o) (h:Reps H p vs ds):Reps H' q vs ds:=⟨h.len,λ i v d a b=>(h.g i v d a b).keep s⟩
def Reps.nil:Reps H p [] []:=⟨rfl,λ i v d h=>by simp at h⟩
theorem Reps.cons (h:Rep H p v d) (k:Reps H p vs ds):Reps H p (v :: vs) (d :: ds):=⟨by simp [k.len],λ i u e a b=>by
 cases i with
 | zero =>
  have a:v=u:=by simpa using a
  have b:d=e:=by simpa using b
  rw [<- a,<- b];exact h
 | succ i=>exact k.g i u e (by simpa using a) (by simpa using b)⟩
def Reps.one (h:Rep H p v d):Reps H p [v] [d]:=.cons h .nil
def Reps.append (h:Reps H p vs ds) (k:Reps H p us es):Reps H p (vs ++ us) (ds ++ es):=by
 refine ⟨by rw [aP,aP,h.len,k.len],λ i v r e1 e2=>?_⟩;by_cases hi:i < vs.length
 ·rw [aQ hi] at e1;rw [aQ (by rw [<- h.len];exact hi)] at e2;exact h.g i v r e1 e2
 ·rw [aM (by omega)] at e1;rw [aM (by rw [<- h.len];omega),<- h.len] at e2;exact k.g _ v r e1 e2
def Reps.at (h:Reps H p vs ds) {i:Nat} (e:vs[i]?=some v):∃ d,ds[i]?=some d/\Rep H p v d:=by
 have hi:=(aa.mp e).1;have e2:ds[i]?=some (ds[i]'(by rw [<- h.len];exact hi)):=ac _;exact ⟨_,e2,h.g i v _ e e2⟩
def Reps.of (h:Reps H p vs ds) {i:Nat} (e:ds[i]?=some d):∃ v,vs[i]?=some v/\Rep H p v d:=by
 have hi:=(aa.mp e).1;have e2:vs[i]?=some (vs[i]'(by rw [h.len];exact hi)):=ac _;exact ⟨_,e2,h.g i _ d e2 e⟩
def Reps.take (h:Reps H p vs ds) (n:Nat):Reps H p (vs.take n) (ds.take n):=⟨by rw [aT,aT,h.len],λ i v d a b=>by
 rw [List.getElem?_take] at a b;by_cases hn:i < n
 ·rw [aq hn] at a b;exact h.g i v d a b
 ·rw [am hn] at a;cases a⟩
def Reps.drop (h:Reps H p vs ds) (n:Nat):Reps H p (vs.drop n) (ds.drop n):=⟨by rw [dH,dH,h.len],λ i v d a b=>by
 rw [List.getElem?_drop] at a b;exact h.g _ v d a b⟩
def Reps.mk' {l:Addr} (h:Reps H p vs ds) (pl:p l) (e:H l=some (.lst vs)):Rep H p (.ref l) (.lst ds):=.lst pl e h.len h.g
def Reps.mkT {l:Addr} (h:Reps H p vs ds) (pl:p l) (e:H l=some (.tup vs)):Rep H p (.ref l) (.tup ds):=.tup pl e h.len h.g
def Rep.lst' (h:Rep H p v (.lst ds)):∃ l us,v=.ref l/\p l/\H l=some (.lst us)/\Reps H p us ds:=by
 cases h with|lst a b c e=>exact ⟨_,_,rfl,a,b,c,e⟩
def Rep.tup' (h:Rep H p v (.tup ds)):∃ l us,v=.ref l/\p l/\H l=some (.tup us)/\Reps H p us ds:=by
 cases h with|tup a b c e=>exact ⟨_,_,rfl,a,b,c,e⟩
theorem Zw {f:Str}:∀ {fs:List (Str × V)} {gs:List (Str × D)},fs.map (·.1)=gs.map (·.1)->(∀ (i:Nat) x y,fs[i]?=some x->gs[i]?=some y->Rep H p x.2 y.2) ->
  (∀ d,gs.lookup f=some d->∃ u,fs.lookup f=some u/\Rep H p u d)/\(gs.lookup f=none->fs.lookup f=none)
 | [],[],_,_=>⟨λ d h=>by simp at h,λ _=>rfl⟩
 | [],_ :: _,e,_=>by simp at e
 | _ :: _,[],e,_=>by simp at e
 | (a,u) :: fs,(b,c) :: gs,e,r=>by
  have e1:a=b:=by simpa using (List.cons.inj e).1
  subst e1;have ih:=Zw (f:=f) (fs:=fs) (gs:=gs) (List.cons.inj e).2 λ i x y hx hy=>r (i + 1) x y (by simpa using hx) (by simpa using hy);by_cases hf:f=a
  ·have hb:(f == a)=true:=bB.mpr hf;refine ⟨λ d h=>?_,λ h=>?_⟩
   ·simp only [List.lookup,hb] at h ⊢;cases h;exact ⟨_,rfl,r 0 (a,u) (a,c) rfl rfl⟩
   ·simp only [List.lookup,hb] at h;cases h
  ·have hb:(f == a)=false:=a9.mpr hf;simp only [List.lookup,hb];exact ih
def Rep.ob' {C:Addr} {gs:List (Str × D)} (h:Rep H p v (.ob C gs)):∃ l dx fs,v=.ref l/\p l/\H l=some (.ins C dx fs)/\(∀ f d,gs.lookup f=some d->∃ u,fs.lookup f=some u/\Rep H p u d)/\(∀ f,gs.lookup f=none->fs.lookup f=none):=by
 cases h with|ob a b c e=>exact ⟨_,_,_,rfl,a,b,λ f=>(Zw c e).1,λ f=>(Zw c e).2⟩
noncomputable abbrev D.ints (ns:List Int):D:=.lst (ns.map D.int)
theorem reps_ints:∀ {ns:List Int},Reps H p (ns.map V.int) (ns.map D.int)
 | []=>.nil
 | _ :: _=>.cons .int reps_ints
theorem Jo:∀ {ns:List Int} {vs:List V},Reps H p vs (ns.map D.int)->vs=ns.map V.int
 | [],[],_=>rfl
 | [],_ :: _,h=>by have:=h.len;simp at this
 | _ :: _,[],h=>by have:=h.len;simp at this
 | n :: ns,v :: vs,h=>by
  have h1:=h.g 0 v (.int n) rfl rfl;have h2:Reps H p vs (ns.map D.int):=⟨by have:=h.len;simpa using this,λ i u d a b=>h.g (i + 1) u d (by simpa using a) (by simpa using b)⟩;cases h1;rw [bL,Jo h2]
def Rep.ints' {ns:List Int} (h:Rep H p v (.ints ns)):∃ l,v=.ref l/\p l/\H l=some (.lst (ns.map V.int)):=by
 obtain ⟨l,us,e,a,b,c⟩:=h.lst';rw [Jo c] at b;exact ⟨l,e,a,b⟩
def qj {l:Addr} {ns:List Int} (pl:p l) (e:H l=some (.lst (ns.map V.int))):Rep H p (.ref l) (.ints ns):=reps_ints.mk' pl e
end
def Off (ms:List Addr):Addr->Prop:=λ b=>b ∉ ms
def Fr (ms:List Addr) (H H':Hp):Prop:=∀ b o,b ∉ ms->H b=some o->H' b=some o
section
variable {H H' H2:Hp} {ms ns:List Addr} {x:Addr} {o:HO} {v:V} {d:D} {vs:List V} {ds:List D}
def Fr.refl:Fr ms H H:=λ _ _ _ h=>h
def Fr.trans (a:Fr ms H H') (b:Fr ms H' H2):Fr ms H H2:=λ c o n h=>b c o n (a c o n h)
def Fr.more (a:Fr ms H H') (s:∀ b,b∈ms->b∈ns):Fr ns H H':=λ b o n h=>a b o (λ z=>n (s b z)) h
def Same.fr (a:Same H H'):Fr ms H H':=λ b o _ h=>a b o h
def jH (h:x∈ms):Fr ms H (upd H x o):=λ b u n hb=>by
 rw [upd_ne (λ z=>n (by rw [z];exact h))];exact hb
def zbS (h:H x=none):Fr ms H (upd H x o):=(same_upd' h).fr where
 same_upd' {H:Hp} {x:Addr} {o:HO} (h:H x=none):Same H (upd H x o):=λ b u hb=>by rw [upd_ne (ne_of_none hb h)];exact hb
def Fr.same (a:Fr ms H H') (h:∀ m∈ms,H m=none):Same H H':=λ b o hb=>a b o (λ z=>by rw [h b z] at hb;cases hb) hb
def Rep.fr (h:Rep H (Off ms) v d) (s:Fr ms H H'):Rep H' (Off ms) v d:=h.keep λ b o pb hb=>⟨pb,s b o pb hb⟩
def Reps.fr (h:Reps H (Off ms) vs ds) (s:Fr ms H H'):Reps H' (Off ms) vs ds:=h.keep λ b o pb hb=>⟨pb,s b o pb hb⟩
def Rep.more (h:Rep H (Off ms) v d) (s:∀ b,b∈ns->b∈ms\/H b=none):Rep H (Off ns) v d:=h.keep λ b o pb hb=>⟨λ z=>(s b z).elim pb (λ q=>by rw [q] at hb;cases hb),hb⟩
def Reps.more (h:Reps H (Off ms) vs ds) (s:∀ b,b∈ns->b∈ms\/H b=none):Reps H (Off ns) vs ds:=h.keep λ b o pb hb=>⟨λ z=>(s b z).elim pb (λ q=>by rw [q] at hb;cases hb),hb⟩
def Rep.same (h:Rep H (Off ms) v d) (s:Same H H'):Rep H' (Off ms) v d:=h.fr s.fr
def Reps.same (h:Reps H (Off ms) vs ds) (s:Same H H'):Reps H' (Off ms) vs ds:=h.fr s.fr
def Rep.ahead (h:Rep H (Off []) v d) (s:Same H H') (n:∀ m∈ms,H m=none):Rep H' (Off ms) v d:=h.keep λ b o _ hb=>⟨(λ z=>nomatch (n b z).symm.trans hb),s b o hb⟩
def Reps.ahead (h:Reps H (Off []) vs ds) (s:Same H H') (n:∀ m∈ms,H m=none):Reps H' (Off ms) vs ds:=h.keep λ b o _ hb=>⟨(λ z=>nomatch (n b z).symm.trans hb),s b o hb⟩
def Rep.all {p:Addr->Prop} (h:Rep H p v d):Rep H (Off []) v d:=h.keep λ b o _ hb=>⟨(λ z=>nomatch z),hb⟩
def Reps.all {p:Addr->Prop} (h:Reps H p vs ds):Reps H (Off []) vs ds:=h.keep λ b o _ hb=>⟨(λ z=>nomatch z),hb⟩
end
def fd_small {i j:Int} (h1:0 < j) (h2:j < 1000000):CFd i j:=fd_ok h1 (aE (show j.natAbs < 2 ^ 20 by omega) (Nat.pow_le_pow_right (by decide) (by decide)))
def Xa {α:Type} {xs:List α} {k:Int} (h0:0<=k) (h1:k < xs.length):seqIndex? k xs.length=some k.toNat:=by
 unfold seqIndex?;have:¬ k < 0:=by omega
 simp [this,h0,h1]
def xZ {K:PySem.W.Frag} {H H':Hp} {l:Addr} {xs:List V} (s:Same H H') (h:SqL K H l xs):SqL K H' l xs:=s.seq h
def zeB {X:Cx}:OpR X (compareOp .In) (rIn X.K false):=Wr
def zeA {X:Cx}:OpR X (compareOp .NotIn) (rIn X.K true):=ZQ
noncomputable def del (H:Hp) (x:Addr):Hp:=λ b=>if b=x then none else H b
section
variable {K:PySem.W.Frag} {H:Hp} {Q:VK} {p:Addr->Prop} {v:V} {d:D} {ds:List D} {f:Str}
def zfQ {C:Addr} {gs:List (Str × D)} {R:V->Prop} (h:Rep H p v (.ob C gs)) (c:Cls K C) (n:NoAttr K C f) (e:gs.lookup f=some d) (q:∀ u,Rep H p u d->R u) :
  ∃ a C dx fs u,v=.ref a/\H a=some (.ins C dx fs)/\Cls K C/\NoAttr K C f/\fs.lookup f=some u/\R u:=by
 obtain ⟨l,dx,fs,rfl,_,a,b,_⟩:=h.ob';obtain ⟨u,e1,r⟩:=b f d e;exact ⟨l,C,dx,fs,u,rfl,a,c,n,e1,q u r⟩
theorem zgS {vs:List V} {i:Int} (h:Reps H p vs ds) (e:atI ds i=some d):∃ u,atI vs i=some u/\Rep H p u d:=by
 unfold atI at e ⊢;rw [h.len];cases z:ixN ds.length i with
 | none=>rw [z] at e;cases e
 | some j=>rw [z] at e;exact h.of (i:=j) e
end
def qY {H H':Hp} {p:Addr->Prop} {v:V} {d:D} (h:Rep H p v d) (s:Same H H'):Rep H' p v d:=h.keep λ b o pb hb=>⟨pb,s b o hb⟩
end L2
namespace L2
open PySem PySem.Spec PyProof.Rows
section
variable {X:Cx}
def zh6 (K:PySem.W.Frag):R2:=λ x y H Q=>∃ p xs i v,x=.ref p/\y=.int i/\SqL K H p xs/\0<=i/\atI xs i=some v/\Q v H
def ze2:zit X (zh6 X.K):=by
 intro pins s σ H x y v u Q I rx ry h;obtain ⟨p,xs,i,z,rfl,rfl,hq,h0,he,q⟩:=h;cases rx;obtain ⟨t,rfl⟩:=ry;obtain ⟨its,r,pl,hz⟩:=I.list hq;obtain ⟨j,h1,h2,h3,h4,h5⟩:=Jt he;obtain ⟨w,ew,rw'⟩:=r.get h2;have hl:=r.length;have hn:=Zx;have hj:i.toNat=j:=by
  rw [eD h0 h5] at h1;exact aI h1
 exact wpAny_getItem_list pl.isList h0 (by omega) (by rw [hj];simpa using ew) ⟨z,H,I,rw',q⟩
end
inductive Hard:D->Prop where
 | non:Hard .non
 | bl {b:Bool}:Hard (.bl b)
 | int {i:Int}:Hard (.int i)
 | str {x:Str}:Hard (.str x)
 | tup {ds:List D}:(∀ (i:Nat) d,ds[i]?=some d->Hard d)->Hard (.tup ds)
theorem Rep.hard {H:Hp} {p q:Addr->Prop} {v:V} {d:D} (h:Rep H p v d) (hd:Hard d) (k:∀ b xs,p b->H b=some (.tup xs)->q b):Rep H q v d:=by
 induction h with
 | non=>exact .non
 | bl=>exact .bl
 | int=>exact .int
 | str=>exact .str
 | lst pl hl e _ ih=>cases hd
 | tup pl hl e _ ih =>
  cases hd with
  | tup hd=>exact .tup (k _ _ pl hl) hl e λ i v d a b=>ih i v d a b (hd i d b)
 | ob pl hl e _ ih=>cases hd
def zeE {as:List Addr} (nd:as.Nodup) {i j:Nat} {b:Addr} (h1:as[i]?=some b) (h2:as[j]?=some b):i=j:=by
 obtain ⟨hi,e1⟩:=aa.mp h1;obtain ⟨hj,e2⟩:=aa.mp h2;have P:=d6.mp nd;rcases bR i j with h|h|h
 ·exact absurd (e1.trans e2.symm) (P i j hi hj h)
 ·exact h
 ·exact absurd (e2.trans e1.symm) (P j i hj hi h)
structure NL (H:Hp) (p:Addr->Prop) (G:Addr) (as:List Addr) (xss:List (List D)):Prop where
 out:H G=some (.lst (as.map V.ref))
 len:as.length=xss.length
 nd:as.Nodup
 nG:G ∉ as
 g:∀ (i:Nat) b xs,as[i]?=some b->xss[i]?=some xs->∃ vs,H b=some (.lst vs)/\Reps H p vs xs
section
variable {H H':Hp} {p q:Addr->Prop} {G:Addr} {as:List Addr} {xss:List (List D)}
def NL.keep (h:NL H p G as xss) (s:∀ b o,(b=G\/b∈as\/p b)->H b=some o->H' b=some o) (sp:∀ b,p b->H b≠none->q b):NL H' q G as xss:=by
 refine ⟨s _ _ (.inl rfl) h.out,h.len,h.nd,h.nG,λ i b xs e1 e2=>?_⟩;obtain ⟨vs,h1,h2⟩:=h.g i b xs e1 e2;exact ⟨vs,s _ _ (.inr (.inl (af e1))) h1,h2.keep λ c o pc hc=>⟨sp c pc (by rw [hc];intro z;cases z),s c o (.inr (.inr pc)) hc⟩⟩
def NL.same (h:NL H p G as xss) (s:Same H H'):NL H' p G as xss:=h.keep (λ b o _ hb=>s b o hb) λ _ hp _=>hp
def NL.at (h:NL H p G as xss) {i:Nat} {xs:List D} (e:xss[i]?=some xs):∃ b vs,as[i]?=some b/\H b=some (.lst vs)/\Reps H p vs xs:=by
 have hi:=(aa.mp e).1;have e2:as[i]?=some (as[i]'(by rw [h.len];exact hi)):=ac _;obtain ⟨vs,h1,h2⟩:=h.g i _ xs e2 e;exact ⟨_,vs,e2,h1,h2⟩
def zbA {H:Hp} {p:Addr->Prop} {G:Addr} (h:H G=some (.lst [])):NL H p G [] []:=⟨h,rfl,List.nodup_nil,by simp,λ i b xs e=>by simp at e⟩
def NL.rep (h:NL H p G as xss):Rep H (Off []) (.ref G) (.lst (xss.map D.lst)):=by
 refine .lst (λ z=>nomatch z) h.out (by rw [ai,ai,h.len]) λ i v d e1 e2=>?_;rw [aj,av] at e1 e2;obtain ⟨b,e1,rfl⟩:=e1;obtain ⟨xs,e2,rfl⟩:=e2;obtain ⟨vs,h1,h2⟩:=h.g i b xs e1 e2;exact h2.all.mk' (λ z=>nomatch z) h1
def NL.put {i:Nat} {b:Addr} {vs:List V} {ys:List D} (h:NL H p G as xss) (e:as[i]?=some b) (np:¬ p b) (r:Reps H p vs ys):NL (upd H b (.lst vs)) p G as (xss.set i ys):=by
 have hb:=af e;have nG:G≠b:=λ z=>h.nG (by rw [z];exact hb);have rk:∀ {us:List V} {zs:List D},Reps H p us zs->Reps (upd H b (.lst vs)) p us zs:=λ r=>r.keep λ c o pc hc=>⟨pc,by rw [upd_ne (λ z=>np (by rw [<- z];exact pc))];exact hc⟩;refine ⟨by rw [upd_ne nG];exact h.out,by rw [ck,h.len],h.nd,h.nG,λ j c xs e1 e2=>?_⟩;by_cases hj:j=i
 ·subst hj;rw [e] at e1;cases e1;have hl:j < xss.length:=by rw [<- h.len];exact (aa.mp e).1
  rw [aN hl] at e2;cases e2;exact ⟨vs,upd_same,rk r⟩
 ·rw [bg (aZ hj)] at e2;have nc:c≠b:=λ z=>by
   subst z;exact hj (zeE h.nd e1 e)
  obtain ⟨us,h1,h2⟩:=h.g j c xs e1 e2;exact ⟨us,by rw [upd_ne nc];exact h1,rk h2⟩
def NL.push {b:Addr} {vs:List V} {ys:List D} (h:NL H p G as xss) (hb:H b=some (.lst vs)) (nb:b ∉ as) (nG:b≠G) (np:¬ p G) (r:Reps H p vs ys):NL (upd H G (.lst (as.map V.ref ++ [.ref b]))) p G (as ++ [b]) (xss ++ [ys]):=by
 have rk:∀ {us:List V} {zs:List D},Reps H p us zs->Reps (upd H G (.lst (as.map V.ref ++ [.ref b]))) p us zs:=λ r=>r.keep λ c o pc hc=>⟨pc,by rw [upd_ne (λ z=>np (by rw [<- z];exact pc))];exact hc⟩;refine ⟨by rw [upd_same,a7];rfl,by simp [h.len],?_,?_,λ j c xs e1 e2=>?_⟩
 ·rw [nodup_append];refine ⟨h.nd,by simp,?_⟩;intro x hx y hy z;rw [ay.mp hy] at z;exact nb (by rw [<- z];exact hx)
 ·intro z;rcases aD.mp z with z|z
  ·exact h.nG z
  ·exact nG (ay.mp z).symm
 ·by_cases hj:j < as.length
  ·rw [aQ hj] at e1;rw [aQ (by rw [<- h.len];exact hj)] at e2;obtain ⟨us,h1,h2⟩:=h.g j c xs e1 e2;have nc:c≠G:=λ z=>h.nG (by rw [<- z];exact af e1);exact ⟨us,by rw [upd_ne nc];exact h1,rk h2⟩
  ·rw [aM (by omega)] at e1;rw [aM (by rw [<- h.len];omega),<- h.len] at e2;have hj0:j - as.length=0:=by have:=(aa.mp e1).1;simp at this;omega
   rw [hj0] at e1 e2;have e1:b=c:=by simpa using e1
   have e2:ys=xs:=by simpa using e2
   subst e1 e2;exact ⟨vs,by rw [upd_ne nG];exact hb,rk r⟩
end
def zT (H:Hp):Addr->Prop:=λ b=>∃ xs,H b=some (.tup xs)
def NL.tup {H H':Hp} {G:Addr} {as:List Addr} {xss:List (List D)} (h:NL H (zT H) G as xss) (s:∀ b o,(b=G\/b∈as\/zT H b)->H b=some o->H' b=some o):NL H' (zT H') G as xss :=
 h.keep s λ b hb _=>by
  obtain ⟨xs,hx⟩:=hb;exact ⟨xs,s b _ (.inr (.inr ⟨xs,hx⟩)) hx⟩
def NL.isl {H:Hp} {G:Addr} {as:List Addr} {p:Addr->Prop} {xss:List (List D)} (h:NL H p G as xss) {b:Addr} (hb:b∈G :: as):∃ vs,H b=some (.lst vs):=by
 rcases ax.mp hb with rfl|hb
 ·exact ⟨_,h.out⟩
 ·obtain ⟨j,hj⟩:=bh hb;obtain ⟨vs,h1,_⟩:=h.g j b _ hj (ac (by rw [<- h.len];exact (aa.mp hj).1));exact ⟨vs,h1⟩
def uc {P:Program} {w:World} {K:PySem.W.Frag} {mg:Str->Option Value} {base:Heap} {x:Str} {k:Nat} {G:List V->Sp->Prop} {ps:List Str} {dvs:List V} {sp:Sp} (c:Cal P w K mg base x k ps dvs sp) (h:G dvs sp):∃ ps dvs sp,Cal P w K mg base x k ps dvs sp/\G dvs sp:=⟨ps,dvs,sp,c,h⟩
def un2 {K:PySem.W.Frag} {H:Hp} {t:Addr} {x y:V} {G:V->V->Prop} (h:H t=some (.tup [x,y])) (q:G x y):∃ a xs,V.ref t=.ref a/\SqT K H a xs/\xs.length=2/\∃ v r,xs=v :: r/\∃ v' r',r=v' :: r'/\r'=[]/\G v v':=⟨t,_,rfl,SqT.of h,rfl,x,_,rfl,y,_,rfl,rfl,q⟩
def ra {K:PySem.W.Frag} {H:Hp} {a C dx:Addr} {fs:List (Str × V)} {v:V} {f:Str} {G:V->Prop} (h:H a=some (.ins C dx fs)) (c:Cls K C) (n:NoAttr K C f) (e:fs.lookup f=some v) (q:G v):∃ a' C dx fs v,V.ref a=.ref a'/\H a'=some (.ins C dx fs)/\Cls K C/\NoAttr K C f/\fs.lookup f=some v/\G v:=⟨a,C,dx,fs,v,rfl,h,c,n,e,q⟩
end L2
namespace L2
open PySem PySem.Spec PyProof.Rows
section
variable {prog:Program} {w:World} {A:Around} {E:Value->Shared->Prop} {s:Shared}
noncomputable abbrev lit (l:Addr):Obj:={ cls:=.type (QD true),data:=.fields #[.ref l,.int 0 0] }
end
section
variable {prog:Program} {w:World} {A:Around} {E:Value->Shared->Prop} {s:Shared}
end
end L2
namespace L2
open PySem PySem.Spec PyProof.Rows
section
variable {X:Cx} {pos pos':Pos} {x:Str}
def zx (i:Nat) {e:Expr} {te:TE} (hN:X.N.Nodup) (he:PE X e te) (hi:X.N[i]?=some x:=by rfl) (hx:Loc X.env.scope x:=by exact Or.inl rfl) (hs:swapsWith e (some (.Name x pos')) pos.line X.env=pure false:=by rfl)
  (hf:Or (X.fn x=true) (X.env.scope.names.lookup x=some .local):=by walk_at "p"):PS X (.Assign [.Name x pos'] e pos) (tAsg te (gName i)):=zen hN hi hx he hs hf
def qk (i:Nat) (hN:X.N.Nodup) (hi:X.N[i]?=some x:=by rfl) (hx:Loc X.env.scope x:=by exact Or.inl rfl) (hf:Or (X.fn x=true) (X.env.scope.names.lookup x=some .local):=by walk_at "p"):PG X (.Name x pos) (gName i):=Vk hN hi hx hf
def zr {a b:Expr} {ta tb:TE} (ha:PE X a ta) (hb:PE X b tb) (hs:zcJ b:=by intro _ _;rfl):PE X (.Subscript a b pos) (tOp (rIx X.K) ta tb):=zh8 zhD ha hb hs
end
end L2
namespace L2
open PySem PySem.Spec PyProof.Rows
section
variable {X:Cx}
end
end L2
namespace L2
open PySem PySem.Spec PyProof.Rows
section
variable {X:Cx} {G:GK} {x y:Str} {np mp pos hpos gpos:Pos} {body su sv:List Stmt} {b₀ c₀:Stmt} {tb:List (Addr × Obj)->GK->TS} {th ti:List (Addr × Obj)->Addr->TS}
end
section
variable {X:Cx}
end
end L2
namespace L2
open PySem PySem.Spec PyProof.Rows
section
variable {X:Cx}
end
end L2
namespace L2
open PySem PySem.Spec PyProof.Rows
section
variable {κ:Type} [DecidableEq κ]
noncomputable def QY (kvs:List (κ × V)) (k:κ):Option V:=(kvs.find? λ kv=>decide (kv.1=k)).map (·.2)
noncomputable def zan (kvs:List (κ × V)) (k:κ) (v:V):List (κ × V) :=
 if (kvs.any λ kv=>decide (kv.1=k))=true then kvs.map (λ kv=>if kv.1=k then (kv.1,v) else kv) else kvs ++ [(k,v)]
noncomputable def zgQ (kvs:List (κ × V)) (k:κ):List (κ × V):=kvs.filter λ kv=>decide (kv.1≠k)
def Jx {p:κ × V} {r:List (κ × V)} {k:κ} (e:p.1=k):QY (p :: r) k=some p.2:=by simp [QY,cm,e]
def Jy {p:κ × V} {r:List (κ × V)} {k:κ} (e:¬ p.1=k):QY (p :: r) k=QY r k:=by simp [QY,cm,e]
theorem VT (k:κ):∀ kvs:List (κ × V),(kvs.any λ kv=>decide (kv.1=k))=(QY kvs k).isSome
 | []=>rfl
 | p :: r=>by
  rw [eW];by_cases e:p.1=k
  ·simp only [Jx e,aJ e,Bool.true_or,Option.isSome_some]
  ·rw [Jy e,aH e,Bool.false_or];exact VT k r
theorem RelO.isSome_eq {o:Option V} {u:Option Value} (r:RelO o u):o.isSome=u.isSome:=by
 cases o with
 | none=>cases u with
  | none=>rfl
  | some _=>exact (show False from r).elim
 | some _=>cases u with
  | none=>exact (show False from r).elim
  | some _=>rfl
theorem RelO.getD {o:Option V} {u:Option Value} {d:V} {d':Value} (r:RelO o u) (rd:RelV d d'):RelV (o.getD d) (u.getD d'):=by
 cases o with
 | none=>cases u with
  | none=>exact rd
  | some _=>exact (show False from r).elim
 | some _=>cases u with
  | none=>exact (show False from r).elim
  | some _=>exact r
theorem KV.val {kvs:List (κ × V)} {vs:List (κ × Value)} (r:KV kvs vs) (k:κ):RelO (QY kvs k) (valueAt vs k):=by
 unfold KV at r
 induction r with
 | nil=>exact True.intro
 | @cons p q ps qs h t ih =>
  obtain ⟨h1,h2⟩:=h;by_cases e:p.1=k
  ·have e':q.1=k:=h1.symm.trans e;have b:valueAt (q :: qs) k=some q.2:=by simp [valueAt,cm,e']
   rw [Jx e,b];exact h2
  ·have e':¬ q.1=k:=λ z=>e (h1.trans z);have b:valueAt (q :: qs) k=valueAt qs k:=by simp [valueAt,cm,e']
   rw [Jy e,b];exact ih
theorem KV.any {kvs:List (κ × V)} {vs:List (κ × Value)} (r:KV kvs vs) (k:κ):(kvs.any λ kv=>decide (kv.1=k))=vs.any λ kv=>decide (kv.1=k):=by
 unfold KV at r
 induction r with
 | nil=>rfl
 | cons h t ih=>rw [eW,eW,ih,h.1]
theorem KV.repl {kvs:List (κ × V)} {vs:List (κ × Value)} (r:KV kvs vs) (k:κ) {y:V} {u:Value} (ry:RelV y u) :
  KV (kvs.map λ kv=>if kv.1=k then (kv.1,y) else kv) (vs.map λ kv=>if kv.1=k then (kv.1,u) else kv):=by
 unfold KV at r ⊢
 induction r with
 | nil=>exact .nil
 | @cons p q ps qs h t ih =>
  rw [bL,bL];refine .cons ?_ ih;obtain ⟨h1,h2⟩:=h;by_cases e:p.1=k
  ·rw [aq e,aq (h1.symm.trans e)];exact ⟨h1,ry⟩
  ·rw [am e,am (λ z=>e (h1.trans z))];exact ⟨h1,h2⟩
def KV.put {kvs:List (κ × V)} {vs:List (κ × Value)} (r:KV kvs vs) (k:κ) {y:V} {u:Value} (ry:RelV y u):KV (zan kvs k y) (stored vs k u):=by
 unfold zan stored;rw [r.any k];by_cases e:(vs.any λ kv=>decide (kv.1=k))=true
 ·rw [aq e,aq e];exact r.repl k ry
 ·rw [am e,am e];exact Paired.snoc r ⟨rfl,ry⟩
theorem KV.drop {kvs:List (κ × V)} {vs:List (κ × Value)} (r:KV kvs vs) (k:κ):KV (zgQ kvs k) (without vs k):=by
 unfold KV at r ⊢;unfold zgQ without
 induction r with
 | nil=>exact .nil
 | @cons p q ps qs h t ih =>
  obtain ⟨h1,h2⟩:=h;rw [List.filter_cons,List.filter_cons];by_cases e:p.1=k
  ·have a:¬ decide (p.1≠k)=true:=by simp [e]
   have b:¬ decide (q.1≠k)=true:=by simp [h1.symm.trans e]
   rw [am a,am b];exact ih
  ·have e':¬ q.1=k:=λ z=>e (h1.trans z);have a:decide (p.1≠k)=true:=by simp [e]
   have b:decide (q.1≠k)=true:=by simp [e']
   rw [aq a,aq b];exact .cons ⟨h1,h2⟩ ih
theorem KV.keys {kvs:List (κ × V)} {vs:List (κ × Value)} (r:KV kvs vs):kvs.map (·.1)=vs.map (·.1):=by
 unfold KV at r
 induction r with
 | nil=>rfl
 | cons h t ih=>rw [bL,bL,ih,h.1]
def KV.length {kvs:List (κ × V)} {vs:List (κ × Value)} (r:KV kvs vs):kvs.length=vs.length:=cT r
end
abbrev KT (H:Hp):List (List Key × V)->List (List Key × Addr × Value)->Prop:=Paired λ p q=>p.1=q.1/\H q.2.1=some (.tup (p.1.map kV))/\RelV p.2 q.2.2
theorem KT.val {H:Hp} {kvs:List (List Key × V)} {xs:List (List Key × Addr × Value)} (r:KT H kvs xs) (k:List Key):RelO (QY kvs k) ((atKey xs k).map (·.2)):=by
 induction r with
 | nil=>exact True.intro
 | @cons p q ps qs h t ih =>
  obtain ⟨h1,_,h2⟩:=h;by_cases e:p.1=k
  ·have e':q.1=k:=h1.symm.trans e;have b:atKey (q :: qs) k=some q.2:=by simp [atKey,cm,e']
   rw [Jx e,b];exact h2
  ·have e':¬ q.1=k:=λ z=>e (h1.trans z);have b:atKey (q :: qs) k=atKey qs k:=by simp [atKey,cm,e']
   rw [Jy e,b];exact ih
theorem KT.repl {H:Hp} {kvs:List (List Key × V)} {xs:List (List Key × Addr × Value)} (r:KT H kvs xs) (k:List Key) {y:V} {u:Value} (ry:RelV y u) :
  KT H (kvs.map λ kv=>if kv.1=k then (kv.1,y) else kv) (xs.map (putAt k u)):=by
 induction r with
 | nil=>exact .nil
 | @cons p q ps qs h t ih =>
  rw [bL,bL];refine .cons ?_ ih;obtain ⟨h1,h2,h3⟩:=h;unfold putAt;by_cases e:p.1=k
  ·rw [aq e,aq (h1.symm.trans e)];exact ⟨h1,h2,ry⟩
  ·rw [am e,am (λ z=>e (h1.trans z))];exact ⟨h1,h2,h3⟩
def KT.put {H:Hp} {kvs:List (List Key × V)} {xs:List (List Key × Addr × Value)} (r:KT H kvs xs) (k:List Key) {b:Addr} {y:V} {u:Value} (hb:H b=some (.tup (k.map kV))) (ry:RelV y u) :
  KT H (zan kvs k y) (storedH xs k b u):=by
 have e:(kvs.any λ kv=>decide (kv.1=k))=(atKey xs k).isSome:=by
  rw [VT,(r.val k).isSome_eq,dL]
 unfold zan storedH;rw [e];by_cases q:(atKey xs k).isSome=true
 ·rw [aq q,aq q];exact r.repl k ry
 ·rw [am q,am q];exact Paired.snoc r ⟨rfl,hb,ry⟩
def KT.keeps {H H':Hp} {kvs:List (List Key × V)} {xs:List (List Key × Addr × Value)} (r:KT H kvs xs) (ht:∀ b ys,H b=some (.tup ys)->H' b=some (.tup ys)):KT H' kvs xs :=
 Paired.mapP r λ _ _ z=>⟨z.1,ht _ _ z.2.1,z.2.2⟩
section
variable {P:Program} {w:World} {H:Hp} {h:Heap} {a:Addr}
end
def DGet (H:Hp) (a:Addr) (y:V) (r:Option V):Prop :=
 (∃ kvs k,Rd H a (.dK kvs)/\y=kV k/\r=QY kvs k)\/∃ kvs k b,Rd H a (.dT kvs)/\y=.ref b/\H b=some (.tup (k.map kV))/\r=QY kvs k
def DPut (H:Hp) (a:Addr) (y v:V) (H':Hp):Prop :=
 (∃ kvs k,H a=some (.dK kvs)/\y=kV k/\kvs.length < sizeLine/\H'=upd H a (.dK (zan kvs k v))) \/
 ∃ kvs k b,H a=some (.dT kvs)/\y=.ref b/\H b=some (.tup (k.map kV))/\kvs.length < sizeLine/\H'=upd H a (.dT (zan kvs k v))
def DGet.k {H:Hp} {a:Addr} {kvs:List (Key × V)} {k:Key} (e:H a=some (.dK kvs)):DGet H a (kV k) (QY kvs k):=.inl ⟨kvs,k,.inl e,rfl,rfl⟩
def DGet.t {H:Hp} {a b:Addr} {kvs:List (List Key × V)} {k:List Key} (e:H a=some (.dT kvs)) (eb:H b=some (.tup (k.map kV))):DGet H a (.ref b) (QY kvs k):=.inr ⟨kvs,k,b,.inl e,rfl,eb,rfl⟩
def DPut.k {H:Hp} {a:Addr} {kvs:List (Key × V)} {k:Key} {v:V} (e:H a=some (.dK kvs)) (hl:kvs.length < sizeLine):DPut H a (kV k) v (upd H a (.dK (zan kvs k v))):=.inl ⟨kvs,k,e,rfl,hl,rfl⟩
def DPut.t {H:Hp} {a b:Addr} {kvs:List (List Key × V)} {k:List Key} {v:V} (e:H a=some (.dT kvs)) (eb:H b=some (.tup (k.map kV))) (hl:kvs.length < sizeLine) :
  DPut H a (.ref b) v (upd H a (.dT (zan kvs k v))):=.inr ⟨kvs,k,b,e,rfl,eb,hl,rfl⟩
section
variable {X:Cx} {pins:List (Addr × Obj)} {σ:St} {H:Hp} {s:Shared} {a:Addr} {y v:V} {u r:Value} {o:Option V} {A:Around} {E:Value->Shared->Prop}
def Inv.big (I:Inv X pins σ H s):sysModules < s.heap.objs.size:=by
 have h:mainGlobals < s.heap.objs.size:=(I.mod.glob.keeps I.bk).lt;exact Nat.lt_trans (by decide) h
def zgo {h':Heap} {t':Nat} {ob:HO} (I:Inv X pins σ H s) (mu:Mut (H a)) (hs:Heap.SameBut a s.heap h') (he:∃ q,h'.get? a=some q) (new:ObjOk X.prog X.w (upd H a ob) h' a ob) :
  Inv X pins σ (upd H a ob) { s with heap:=h',toks:=t' } :=
 I.write (x:=a) (e:=a) mu (.inl rfl) (λ b q hb z=>(hs.2 b hb).trans z) he new
end
section
variable {X:Cx} {pins:List (Addr × Obj)} {σ:St} {H:Hp} {s:Shared} {a:Addr} {kvs:List (Key × V)} {k:Key} {u:Value} {A:Around} {E:Value->Shared->Prop}
end
def ziu (i:Expr):Prop:=∀ ov iv,subscripted i false ov iv=operate [ov,iv] (getItem ov iv)
theorem zfy {prog:Program} {w:World} {A:Around} {E:Value->Shared->Prop} {s:Shared} {env:Env} {value slice:Expr} {pos:Pos} {T id:String} {Q:Value->Shared->Prop}
  (hl:typeLookup (.type T) "__getitem__"=pure (some (.builtin id))) (hs:ziu slice)
  (h:wpAny (model prog w) A (eval value env) (λ o s₁=>wpAny (model prog w) A (eval slice env) (λ i s₂=>s₂.TypeIs o T/\wpAny (model prog w) A (getItem o i) Q E s₂) E s₁) E s) :
  wpAny (model prog w) A (eval (.Subscript value slice pos) env) Q E s:=by
 refine Subscript_ (aO h (λ o s₁ h₁=>aO h₁ (λ i s₂ h₂=>?_) λ _ _ x=>x) λ _ _ x=>x);obtain ⟨hT,h₂⟩:=h₂;unfold subscriptTail;refine ad ?_;rw [getitemInPython_of_ne hT.not_modules];refine ad (wpAny_specialOf hT hl ?_);have fin:wpAny (model prog w) A (subscripted slice false o i) (λ r s₃=>wpAny (model prog w) A (letTemporaryGo value o r >>= λ _=>pure r) Q E s₃) E s₂:=by
  rw [hs o i];exact wpAny_operating (aO h₂ (λ r s₃ h₃=>ad (wpAny_letTemporaryGo (aw h₃))) λ _ _ x=>x)
 first
  | exact aw (ad fin)
  | exact ad (aw (ad fin))
  | exact ad fin
section
variable {X:Cx} {o i e value:Expr} {pos pos' tpos:Pos} {td ty tv:TE}
end
section
variable {X:Cx} {pos:Pos}
end
section
variable {X:Cx} {pins:List (Addr × Obj)} {σ:St} {H:Hp} {s:Shared} {a:Addr} {y d:V} {u r:Value} {o:Option V} {A:Around} {E:Value->Shared->Prop}
end
section
variable {X:Cx} {o e f:Expr} {apos cpos:Pos} {td ty tx:TE}
end
end L2
namespace L2
open PySem PySem.Spec PyProof.Rows
section
variable {κ:Type} [DecidableEq κ]
end
end L2
namespace L2
open PySem PySem.Spec PySem.Calls PyProof.Rows
section
variable {X:Cx}
def zhp {ns:List Int} {i:Nat} (h:i < ns.length):ns[i]?.getD 0∈ns:=by
 rw [ac h];exact br h
def zgu (hc:X.calm=true):CallR X (.builtin "max") (λ xs H Q=>∃ p,∃ ns:List Int,xs=[.ref p]/\SqL X.K H p (ns.map V.int)/\0 < ns.length/\∀ m,m∈ns->(∀ n∈ns,n<=m)->Q (.int m) H):=by
 intro pins s σ H xs us Q I r h;obtain ⟨p,ns,rfl,hp,hne,q⟩:=h;obtain ⟨u,rfl,rx⟩:=ZG r;cases rx;obtain ⟨its,rv,hl,hz⟩:=I.list hp;have hl':=hl.isList;have hlt:p < s.heap.objs.size:=by obtain ⟨_,e,_⟩:=hl';exact au e
 have hlen:its.length=ns.length:=by have:=rv.length;rw [ai] at this;exact this.symm
 refine call_max_walk (de hl' ?_);refine ⟨s.heap.objs.size,[s.heap.objs.size,p],[s.heap.objs.size],its.toArray.size,_,_,_,rfl,Walks.list (A:=X.A.in1) (I.ok.hd hc) _ p (aF hlt) its.toArray,
  ⟨⟨_,aA _ rfl,rfl,rfl⟩,hl'.push _⟩,λ b hb=>?_,by rw [ao,hlen];exact hne,CmpOf.ints_gt (λ i=>ns[i]?.getD 0) (λ i v hP=>wz rv i v (by simpa using hP)),λ v h' tk hP hk=>?_⟩
 ·simp only [ax,a8,bz] at hb;simp only [bE];rcases hb with rfl|rfl
  ·exact b9 _
  ·exact Nat.lt_succ_of_lt hlt
 ·obtain ⟨t,rfl⟩:=wz rv _ v (by simpa using hP);obtain ⟨h1,h2⟩:=argBest_gt (λ i=>ns[i]?.getD 0) (its.toArray.size - 1);have hs:its.toArray.size=ns.length:=by rw [ao,hlen]
  refine ⟨.int _,H,I.kept (t':=tk) (λ b o e=>hk b o (by simpa using aF (au e)) (ah _ e)),⟨_,rfl⟩,q _ (zhp (fD h1 (by omega))) λ n hn=>?_⟩;obtain ⟨j,hj,rfl⟩:=cX hn;have:=h2 j (by omega);simp only [ac hj,bt] at this;exact this
end
end L2
namespace L2
open PySem PySem.Spec PyProof.Rows
section
variable {prog:Program} {w:World} {A:Around} {E:Value->Shared->Prop} {s:Shared} {it d:Addr} {i ep:Nat} {es:Array DictEntry} {od:Obj}
end
theorem we {α β:Type} {F:α->β->Prop}:∀ {l₁:List α} {l₂:List β},Paired F l₁ l₂->∀ {i:Nat} {x:α} {y:β},l₁[i]?=some x->l₂[i]?=some y->F x y
 | _,_,.nil,_,_,_,h,_=>nomatch h
 | _,_,.cons r t,0,_,_,h,h'=>by cases h;cases h';exact r
 | _,_,.cons r t,i + 1,_,_,h,h'=>we t h h'
end L2
namespace L2
open PySem PySem.Spec PyProof.Rows
section
variable {prog:Program} {w:World}
structure KItem (prog:Program) (w:World) (κ:Type) [DecidableEq κ] (d:Nat) where
 is:Heap->κ->Value->Prop
 hash:κ->Int
 draws:κ->Nat
 inj:∀ {h:Heap} {v:Value} {x y:κ},is h x v->is h y v->x=y
 keeps:∀ {h h':Heap} {k:κ} {v:Value} {a:Addr} {o:Obj} {es:Array DictEntry} {ep:Nat},is h k v->h.get? a=some o->o.data=.dict es ep->Heap.SameBut a h h'->is h' k v
 pyHash:∀ {A:Around} {E:Value->Shared->Prop} {s:Shared} {k:κ} {v:Value} {Q:Int->Shared->Prop},A.units + d < cLine->is s.heap k v->Q (hash k) { s with toks:=s.toks + draws k }->wpAny (model prog w) A (PySem.pyHash v) Q E s
 eq:∀ {A:Around} {s:Shared} {x y:κ} {u v:Value},A.units + d < cLine->is s.heap x u->is s.heap y v->SeqAt.EqAt A s u v (decide (x=y))
 quiet:∀ {A:Around} {E:Value->Shared->Prop} {s:Shared} {n:Nat} {k:κ} {v:Value} {Q:Bool->Shared->Prop},d<=n->is s.heap k v->Q true s->wpAny (model prog w) A (eqIsQuiet n v) Q E s
noncomputable def oiV:Option Int->V
 | none=>.non
 | some n=>.int n
def zau (x:Option Int):jr (oiV x)=true:=by cases x <;> rfl
theorem zhn (x y:Option Int):eqV (oiV x) (oiV y)=decide (x=y):=by
 cases x with
 | none=>cases y <;> simp [oiV,eqV]
 | some a =>
  cases y with
  | none=>simp [oiV,eqV]
  | some b =>
   show (a == b)=decide (some a=some b)
   by_cases e:a=b <;> simp [e]
def zf2 {x y:Option Int} {v:Value} (h1:RelV (oiV x) v) (h2:RelV (oiV y) v):x=y:=by
 cases x <;> cases y
 ·rfl
 ·cases h1;obtain ⟨t,e⟩:=h2;cases e
 ·cases h2;obtain ⟨t,e⟩:=h1;cases e
 ·obtain ⟨t,rfl⟩:=h1;obtain ⟨t,e⟩:=h2;cases e;rfl
noncomputable def zie:Option Int->Int
 | none=>reduceHash 0xFCA86420
 | some n=>hashInt n
theorem zav {x:Option Int} {v:Value} (h:RelV (oiV x) v):carriedByValue v=true:=by
 cases x with
 | none=>cases h;rfl
 | some n=>obtain ⟨t,rfl⟩:=h;rfl
noncomputable def jB (prog:Program) (w:World):KItem prog w (Option Int) 0 where
 is:=λ _ k v=>RelV (oiV k) v
 hash:=zie
 draws:=λ _=>1
 inj:=zf2
 keeps:=λ h _ _ _=>h
 pyHash:=by
  intro A E s k v Q hu h q;cases k with
  | none =>
   cases h;exact fj (T:="NoneType") rfl F.slot_NoneType_hash F.entry_NoneType_hash (F.args_NoneType_hash_1 _) (beq_builtin_none _) (.inr (by omega)) (ad (aw (ad (wpAny_mkInt (aw ⟨_,_,rfl,q⟩)))))
  | some n =>
   obtain ⟨t,rfl⟩:=h;exact wpAny_pyHash_int q
 eq:=by
  intro A s x y u v hu h1 h2;rw [<- zhn];exact ZB h1 h2 (zau x) (zau y)
 quiet:=by
  intro A E s n k v Q _ h q;rw [eqIsQuiet_byValue _ (zav h)];exact aw q
inductive HashAll (prog:Program) (w:World) (d:Nat) (hp:Heap):List Value->List (Int × Nat)->Prop
 | nil:HashAll prog w d hp [] []
 | cons {v:Value} {h:Int × Nat} {vs:List Value} {hs:List (Int × Nat)}:(∀ (A:Around) (E:Value->Shared->Prop) (s:Shared) (Q:Int->Shared->Prop),s.heap=hp->A.units + d < cLine->Q h.1 { s with toks:=s.toks + h.2 }->wpAny (model prog w) A (PySem.pyHash v) Q E s)->HashAll prog w d hp vs hs->HashAll prog w d hp (v :: vs) (h :: hs)
theorem WA {d:Nat} {hp:Heap} {A:Around} {E:Value->Shared->Prop} (hu:A.units + d < cLine):∀ {vs:List Value} {hs:List (Int × Nat)} {s:Shared} {b:Array Int} {Q:Array Int->Shared->Prop},HashAll prog w d hp vs hs->s.heap=hp->(∀ b',b'.toList=b.toList ++ hs.map (·.1)->Q b' { s with toks:=s.toks + (hs.map (·.2)).sum }) ->
  wpAny (model prog w) A (forIn vs b λ x r=>do let h <- PySem.pyHash x;pure PUnit.unit;pure (ForInStep.yield (r.push h))) Q E s
 | _,_,s,b,Q,.nil,_,h=>aw (h b (by simp))
 | _,_,s,b,Q,.cons (h:=h0) x r,e,h=>by
  rw [eT];refine ad (ad (x A E s _ e hu ?_));refine ad (aw (aw ?_));refine WA hu r (by exact e) λ b' hb=>?_;have:=h b' (by simp [hb]);simpa [Nat.add_assoc] using this
def zaK {d:Nat} {a:Addr} {items:Array Value} {hs:List (Int × Nat)} {A:Around} {E:Value->Shared->Prop} {s:Shared} {Q:Int->Shared->Prop} (hT:IsTup s.heap a items) (all:HashAll prog w d s.heap items.toList hs) (hu:A.units + (d + 1) < cLine)
  (h:Q (reduceHash (Builtin.Tuple.tupleHashOf (hs.map (·.1)))) { s with toks:=s.toks + ((hs.map (·.2)).sum + 1) }):wpAny (model prog w) A (PySem.pyHash (.ref a)) Q E s:=by
 obtain ⟨o,ho,hc,n,hd⟩:=hT;refine fj (T:="tuple") ⟨_,ho,hc⟩ F.slot_tuple_hash F.entry_tuple_hash (F.args_tuple_hash_1 _) (beq_builtin_none _) (.inr (by omega)) ?_;show wpAny _ _ (Builtin.Tuple.tupleItemsOf (.ref a) >>= _) _ _ s
 refine ad (wpAny_tupleItemsOf ho hd ?_);refine ad ?_;rw [<- fF];refine WA (d:=d) (by simp only [cA];omega) all rfl λ b hb=>?_;show wpAny _ _ (retInt (Builtin.Tuple.tupleHashOf b.toList)) _ _ _
 rw [hb];exact ad (wpAny_mkInt (aw ⟨_,_,rfl,by simpa [Nat.add_assoc] using h⟩))
def Wm {d:Nat} {a:Addr} {items:Array Value} {A:Around} {E:Value->Shared->Prop} {s:Shared} {Q:Bool->Shared->Prop} {n:Nat} (hT:IsTup s.heap a items) (all:∀ v∈items.toList,∀ (A:Around) (E:Value->Shared->Prop) (Q:Bool->Shared->Prop),Q true s->wpAny (model prog w) A (eqIsQuiet n v) Q E s) (h:Q true s):wpAny (model prog w) A (eqIsQuiet (n + 1) (.ref a)) Q E s:=by
 obtain ⟨o,ho,hc,m,hd⟩:=hT;have hT:s.TypeIs (.ref a) "tuple":=⟨o,ho,hc⟩;unfold eqIsQuiet;refine ad (wpAny_specialOf hT F.slot_tuple_eq.lookup ?_);show wpAny _ _ (isInstance (.ref a) (.type "tuple") >>= _) _ _ s
 refine ad (d8 hT isSubtype_tuple_tuple ?_);simp only [dF,cz,dn];refine ad (bN ho hd ?_);refine ad ?_;show wpAny _ _ (forIn items _ _) _ _ s
 rw [<- fF];refine wpAny_forIn_list _ (λ rest r s'=>r.1=none/\s'=s/\∀ v∈rest,v∈items.toList) _ ?_ ?_ _ _ ⟨rfl,rfl,λ v hv=>hv⟩
 ·rintro v rest r s' ⟨hr,rfl,hall⟩;refine ad (all v (hall v bK) _ _ _ ?_);simp only [dF,cz,dn];exact aw ⟨rfl,rfl,λ u hu'=>hall u (aG _ hu')⟩
 ·rintro ⟨r1,r2⟩ s' ⟨hr,rfl,_⟩;simp only at hr;subst hr;exact aw h
def Xu {h h':Heap} {b a:Addr} {items:Array Value} {o:Obj} {es:Array DictEntry} {ep:Nat} (x:IsTup h b items) (ho:h.get? a=some o) (hd:o.data=.dict es ep) (hs:Heap.SameBut a h h'):IsTup h' b items:=by
 obtain ⟨o',h1,h2,n,h3⟩:=x;have ne:b≠a:=λ z=>by
  subst z;rw [ho] at h1;cases h1;rw [hd] at h3;cases h3
 exact ⟨o',(hs.2 b ne).trans h1,h2,n,h3⟩
def vS {h:Heap} {b:Addr} {xs ys:Array Value} (x:IsTup h b xs) (y:IsTup h b ys):xs=ys:=by
 obtain ⟨o,h1,_,n,h3⟩:=x;obtain ⟨o',g1,_,m,g3⟩:=y;rw [h1] at g1;cases g1;rw [h3] at g3;injection g3
def zhO {κ:Type} [DecidableEq κ] {xs ys:List κ}:((List.range (min xs.length ys.length)).all (λ j=>decide (xs[j]?=ys[j]?)) && xs.length == ys.length)=decide (xs=ys):=by
 by_cases e:xs=ys
 ·subst e;simp
 ·rw [aH e];by_cases hl:xs.length=ys.length
  ·have:¬ (List.range (min xs.length ys.length)).all (λ j=>decide (xs[j]?=ys[j]?))=true:=λ z=>e (List.ext_getElem? λ j=>by
    rw [cf] at z;by_cases hj:j < xs.length
    ·exact bO (z j (aY.mpr (by omega)))
    ·rw [d5 (by omega),d5 (by omega)])
   simp only [Bool.not_eq_true] at this;rw [this]
   rfl
  ·have:(xs.length == ys.length)=false:=a9.mpr hl;rw [this,cF]
section
variable {κ:Type} [DecidableEq κ] {d:Nat}
theorem Zu {F:κ->Value->Prop} (f:∀ (x y:κ) (v:Value),F x v->F y v->x=y):∀ {xs ys:List κ} {vs:List Value},Paired F xs vs->Paired F ys vs->xs=ys
 | _,_,_,.nil,h=>by cases h;rfl
 | _,_,_,.cons a t,h=>by
  cases h with
  | cons b u=>rw [f _ _ _ a b,Zu f t u]
noncomputable def vL (I:KItem prog w κ d):KItem prog w (List κ) (d + 1) where
 is:=λ h ks v=>∃ a items,v=.ref a/\IsTup h a items/\Paired (I.is h) ks items.toList
 hash:=λ ks=>reduceHash (Builtin.Tuple.tupleHashOf (ks.map I.hash))
 draws:=λ ks=>(ks.map I.draws).sum + 1
 inj:=by
  rintro h v x y ⟨a,items,rfl,h1,h2⟩ ⟨b,items',e,g1,g2⟩;cases e;have:=vS h1 g1;subst this;exact Zu (F:=I.is h) (λ _ _ _ p q=>I.inj p q) h2 g2
 keeps:=by
  rintro h h' k v a o es ep ⟨b,items,rfl,h1,h2⟩ ho hd hs;exact ⟨b,items,rfl,Xu h1 ho hd hs,Paired.mapP h2 λ p q z=>I.keeps z ho hd hs⟩
 pyHash:=by
  rintro A E s k v Q hu ⟨b,items,rfl,h1,h2⟩ q;have all:∀ {ks:List κ} {vs:List Value},Paired (I.is s.heap) ks vs->HashAll prog w d s.heap vs (ks.map λ k=>(I.hash k,I.draws k)):=by
   intro ks vs p
   induction p with
   | nil=>exact .nil
   | cons z _ ih=>exact .cons (λ A E s' Q e hu q=>I.pyHash hu (by rw [e];exact z) q) ih
  refine zaK h1 (all h2) hu ?_;rw [dW,dW];exact q
 eq:=by
  rintro A s x y u v hu ⟨a,xs,rfl,h1,h2⟩ ⟨b,ys,rfl,g1,g2⟩;by_cases e:a=b
  ·subst e;have:=vS h1 g1;subst this;rw [Zu (F:=I.is s.heap) (λ _ _ _ p q=>I.inj p q) h2 g2,aJ rfl];exact dD _
  ·refine cI e ?_;have l1:x.length=xs.size:=by rw [cT h2,cQ]
   have l2:y.length=ys.size:=by rw [cT g2,cQ]
   have:=cN (A:=A) (s:=s) (e:=λ j=>decide (x[j]?=y[j]?)) h1 g1 (by omega) (λ j hj1 hj2=>by
    obtain ⟨k1,e1⟩:∃ k,x[j]?=some k:=⟨x[j]'(by omega),ac _⟩;obtain ⟨k2,e2⟩:∃ k,y[j]?=some k:=⟨y[j]'(by omega),ac _⟩;have p1:=we h2 e1 (show xs.toList[j]?=some xs[j] by rw [dl,d7 hj1]);have p2:=we g2 e2 (show ys.toList[j]?=some ys[j] by rw [dl,d7 hj2]);rw [e1,e2,show decide (some k1=some k2)=decide (k1=k2) by simp];exact I.eq (by simp only [cA];omega) p1 p2)
   rw [<- l1,<- l2,zhO] at this;exact this
 quiet:=by
  rintro A E s n k v Q hn ⟨b,items,rfl,h1,h2⟩ q;obtain ⟨m,rfl⟩:∃ m,n=m + 1:=⟨n - 1,by omega⟩;refine Wm (d:=d) h1 (λ v hv A E Q q=>?_) q;obtain ⟨j,hj⟩:=List.mem_iff_getElem?.mp hv;have hl:=(aa.mp hj).1;obtain ⟨k1,e1⟩:∃ x,k[j]?=some x:=⟨k[j]'(by rw [cT h2];exact hl),ac _⟩;exact I.quiet (by omega) (we h2 e1 hj) q
end
section
variable {κ1 κ2 κ3 κ4:Type} [DecidableEq κ1] [DecidableEq κ2] [DecidableEq κ3] [DecidableEq κ4] {d1 d2 d3 d4:Nat}
noncomputable def zem (I1:KItem prog w κ1 d1) (I2:KItem prog w κ2 d2) (I3:KItem prog w κ3 d3) (I4:KItem prog w κ4 d4) (d:Nat) (l1:d1<=d) (l2:d2<=d) (l3:d3<=d) (l4:d4<=d):KItem prog w (κ1 × κ2 × κ3 × κ4) (d + 1) where
 is:=λ h k v=>∃ a u1 u2 u3 u4,v=.ref a/\IsTup h a #[u1,u2,u3,u4]/\I1.is h k.1 u1/\I2.is h k.2.1 u2/\I3.is h k.2.2.1 u3/\I4.is h k.2.2.2 u4
 hash:=λ k=>reduceHash (Builtin.Tuple.tupleHashOf [I1.hash k.1,I2.hash k.2.1,I3.hash k.2.2.1,I4.hash k.2.2.2])
 draws:=λ k=>[I1.draws k.1,I2.draws k.2.1,I3.draws k.2.2.1,I4.draws k.2.2.2].sum + 1
 inj:=by
  rintro h v ⟨x1,x2,x3,x4⟩ ⟨y1,y2,y3,y4⟩ ⟨a,u1,u2,u3,u4,rfl,h1,i1,i2,i3,i4⟩ ⟨b,v1,v2,v3,v4,e,g1,j1,j2,j3,j4⟩;cases e;have:=vS h1 g1;cases this;simp only at i1 i2 i3 i4 j1 j2 j3 j4;rw [I1.inj i1 j1,I2.inj i2 j2,I3.inj i3 j3,I4.inj i4 j4]
 keeps:=by
  rintro h h' k v a o es ep ⟨b,u1,u2,u3,u4,rfl,h1,i1,i2,i3,i4⟩ ho hd hs;exact ⟨b,u1,u2,u3,u4,rfl,Xu h1 ho hd hs,I1.keeps i1 ho hd hs,I2.keeps i2 ho hd hs,I3.keeps i3 ho hd hs,I4.keeps i4 ho hd hs⟩
 pyHash:=by
  rintro A E s k v Q hu ⟨b,u1,u2,u3,u4,rfl,h1,i1,i2,i3,i4⟩ q;refine zaK (d:=d) (hs:=[(I1.hash k.1,I1.draws k.1),(I2.hash k.2.1,I2.draws k.2.1),(I3.hash k.2.2.1,I3.draws k.2.2.1),(I4.hash k.2.2.2,I4.draws k.2.2.2)]) h1 ?_ hu q;exact .cons (λ A E s' Q e hu q=>I1.pyHash (by omega) (by rw [e];exact i1) q) (.cons (λ A E s' Q e hu q=>I2.pyHash (by omega) (by rw [e];exact i2) q) (.cons (λ A E s' Q e hu q=>I3.pyHash (by omega) (by rw [e];exact i3) q) (.cons (λ A E s' Q e hu q=>I4.pyHash (by omega) (by rw [e];exact i4) q) .nil)))
 eq:=by
  rintro A s ⟨x1,x2,x3,x4⟩ ⟨y1,y2,y3,y4⟩ u v hu ⟨a,u1,u2,u3,u4,rfl,h1,i1,i2,i3,i4⟩ ⟨b,v1,v2,v3,v4,rfl,g1,j1,j2,j3,j4⟩;simp only at i1 i2 i3 i4 j1 j2 j3 j4;by_cases e:a=b
  ·subst e;have:=vS h1 g1;cases this;rw [I1.inj i1 j1,I2.inj i2 j2,I3.inj i3 j3,I4.inj i4 j4,aJ rfl];exact dD _
  ·refine cI e ?_;have hu':A.in1.units + d < cLine:=by simp only [cA];omega
   have:=cN (A:=A) (s:=s) (e:=λ j=>[decide (x1=y1),decide (x2=y2),decide (x3=y3),decide (x4=y4)].getD j true) h1 g1 (by omega) (λ j hj1 hj2=>by
    match j,hj1,hj2 with
    | 0,_,_=>exact I1.eq (by omega) i1 j1
    | 1,_,_=>exact I2.eq (by omega) i2 j2
    | 2,_,_=>exact I3.eq (by omega) i3 j3
    | 3,_,_=>exact I4.eq (by omega) i4 j4)
   have z:((List.range (min (#[u1,u2,u3,u4]:Array Value).size (#[v1,v2,v3,v4]:Array Value).size)).all (λ j=>[decide (x1=y1),decide (x2=y2),decide (x3=y3),decide (x4=y4)].getD j true) && (#[u1,u2,u3,u4]:Array Value).size == (#[v1,v2,v3,v4]:Array Value).size)=decide ((x1,x2,x3,x4)=(y1,y2,y3,y4)):=by
    show ((List.range 4).all _ && true)=_
    rw [show List.range 4=[0,1,2,3] from rfl];simp only [all_cons,List.all_nil,eu,List.getD_cons_zero,List.getD_cons_succ,Prod.mk.injEq];by_cases a1:x1=y1 <;> by_cases a2:x2=y2 <;> by_cases a3:x3=y3 <;> by_cases a4:x4=y4 <;> simp [a1,a2,a3,a4]
   rw [z] at this;exact this
 quiet:=by
  rintro A E s n k v Q hn ⟨b,u1,u2,u3,u4,rfl,h1,i1,i2,i3,i4⟩ q;obtain ⟨m,rfl⟩:∃ m,n=m + 1:=⟨n - 1,by omega⟩;refine Wm (d:=d) h1 (λ v hv A E Q q=>?_) q;have hv:v=u1\/v=u2\/v=u3\/v=u4:=by simpa using hv
  rcases hv with rfl|rfl|rfl|rfl
  ·exact I1.quiet (by omega) i1 q
  ·exact I2.quiet (by omega) i2 q
  ·exact I3.quiet (by omega) i3 q
  ·exact I4.quiet (by omega) i4 q
end
abbrev ShK:=Option Int × List (List (Option Int)) × List (Option Int) × List (Option Int)
noncomputable def jo (prog:Program) (w:World):KItem prog w ShK 3:=zem (jB prog w) (vL (vL (jB prog w))) (vL (jB prog w)) (vL (jB prog w)) 2 (by decide) (by decide) (by decide) (by decide)
noncomputable def x6 (prog:Program) (w:World):HeapKind prog w ShK where
 is:=λ h k a=>(jo prog w).is h k (.ref a)
 hash:=(jo prog w).hash
 draws:=(jo prog w).draws
 room:=λ A=>A.units + 3 < cLine
 inj:=λ hx hy=>(jo prog w).inj hx hy
 keeps:=λ x ho hd hs=>(jo prog w).keeps x ho hd hs
 pyHash:=λ hu hk h=>(jo prog w).pyHash hu hk h
 eqBool:=λ hu hx hy h=>(jo prog w).eq hu hx hy prog w _ _ h
 quiet:=λ hk h=>(jo prog w).quiet (by decide) hk h
end
noncomputable def oiD:Option Int->D
 | none=>.non
 | some n=>.int n
noncomputable def shD (k:ShK):D:=.tup [oiD k.1,.tup (k.2.1.map λ r=>.tup (r.map oiD)),.tup (k.2.2.1.map oiD),.tup (k.2.2.2.map oiD)]
theorem Wq {α β:Type} {F:α->β->Prop}:∀ {xs:List α} {ys:List β},xs.length=ys.length->(∀ (i:Nat) x y,xs[i]?=some x->ys[i]?=some y->F x y)->Paired F xs ys
 | [],[],_,_=>.nil
 | [],_ :: _,h,_=>by simp at h
 | _ :: _,[],h,_=>by simp at h
 | x :: xs,y :: ys,h,f=>.cons (f 0 x y rfl rfl) (Wq (by simpa using h) λ i a b e1 e2=>f (i + 1) a b e1 e2)
section
variable {P:Program} {w:World} {H:Hp} {h:Heap} {p:Addr->Prop}
theorem Z0 {x:Option Int} {v:V} {u:Value} (r:Rep H p v (oiD x)) (e:RelV v u):(jB P w).is h x u:=by
 cases x with
 | none =>
  have r:Rep H p v .non:=r;cases r;exact e
 | some n =>
  have r:Rep H p v (.int n):=r;cases r;exact e
def Jh {κ:Type} [DecidableEq κ] {d:Nat} (ok:HOk P w H h) {I:KItem P w κ d} {f:κ->D} (hI:∀ x v u,Rep H p v (f x)->RelV v u->I.is h x u) {xs:List κ} {v:V} {u:Value} (r:Rep H p v (.tup (xs.map f))) (e:RelV v u):(vL I).is h xs u:=by
 obtain ⟨t,us,rfl,_,ht,rr⟩:=Rep.tup' r;obtain ⟨_,its,vals,isT⟩:=(show ObjOk P w H h t (.tup us) from ok t _ ht);refine ⟨t,its.toArray,e,isT,Wq ?_ λ i x y e1 e2=>?_⟩
 ·rw [fo,<- vals.length,rr.len,ai]
 ·rw [fo] at e2;obtain ⟨v',hv',rv⟩:=rr.of (i:=i) (d:=f x) (by rw [aj,e1];rfl);exact hI x v' y rv (we vals hv' e2)
theorem zcB {α:Type} {n:Nat}:∀ {us:List α},us.length=n + 1->∃ v w,us=v :: w/\w.length=n
 | v :: w,h=>⟨v,w,rfl,by simpa using h⟩
theorem zcg {v:V} {vs:List V} {us:List Value} (h:Vals (v :: vs) us):∃ u ws,us=u :: ws/\RelV v u/\Vals vs ws:=by
 cases h with
 | cons a b=>exact ⟨_,_,rfl,a,b⟩
def vM (ok:HOk P w H h) {k:ShK} {b:Addr} (r:Rep H p (.ref b) (shD k)):(x6 P w).is h k b:=by
 obtain ⟨t,us,e,_,ht,rr⟩:=Rep.tup' r;cases e;obtain ⟨_,its,vals,isT⟩:=(show ObjOk P w H h b (.tup us) from ok b _ ht);have g:=rr.g;obtain ⟨v1,w1,rfl,l1⟩:=zcB rr.len;obtain ⟨v2,w2,rfl,l2⟩:=zcB l1;obtain ⟨v3,w3,rfl,l3⟩:=zcB l2;obtain ⟨v4,w4,rfl,l4⟩:=zcB l3;cases eF.mp l4;obtain ⟨u1,z1,rfl,q1,vals⟩:=zcg vals;obtain ⟨u2,z2,rfl,q2,vals⟩:=zcg vals;obtain ⟨u3,z3,rfl,q3,vals⟩:=zcg vals;obtain ⟨u4,z4,rfl,q4,vals⟩:=zcg vals;cases vals;have k1:=Z0 (P:=P) (w:=w) (h:=h) (g 0 v1 _ rfl rfl) q1;have k2:=Jh ok (I:=vL (jB P w)) (λ x v u r e=>Jh ok (I:=jB P w) (λ x v u r e=>Z0 r e) r e) (g 1 v2 _ rfl rfl) q2;have k3:=Jh ok (I:=jB P w) (λ x v u r e=>Z0 r e) (g 2 v3 _ rfl rfl) q3;have k4:=Jh ok (I:=jB P w) (λ x v u r e=>Z0 r e) (g 3 v4 _ rfl rfl) q4;exact ⟨b,u1,u2,u3,u4,rfl,isT,k1,k2,k3,k4⟩
end
noncomputable def toV (x:ShK × Addr × Addr):ShK × Addr × Value:=(x.1,x.2.1,.ref x.2.2)
noncomputable def sdO (P:Program) (w:World) (D:Addr) (xs:List (ShK × Addr × Addr)):HO:=.ext λ h=>((D == sysModules)=false/\xs.length<=sizeLine/\(xs.map (·.1)).Nodup)/\∃ o es ep,h.get? D=some o/\o.ExactDict/\o.data=.dict es ep/\es.toList=(xs.map toV).map (entryOfKey (x6 P w))
def keysOk (H:Hp) (xs:List (ShK × Addr × Addr)):Prop:=∀ x∈xs,∃ p:Addr->Prop,Rep H p (.ref x.2.1) (shD x.1)
noncomputable def xI (xs:List (ShK × Addr × Addr)) (k:ShK):Option Addr:=(xs.find? λ x=>decide (x.1=k)).map (·.2.2)
theorem ZU (k:ShK):∀ xs:List (ShK × Addr × Addr),(atKey (xs.map toV) k).map (·.2)=(xI xs k).map Value.ref
 | []=>rfl
 | x :: xs=>by
  have ih:=ZU k xs;unfold atKey xI at ih ⊢;rw [bL,cm,cm];show Option.map _ (Option.map _ (match decide (x.1=k) with|true=>some (toV x)|false=>_))=_
  by_cases e:x.1=k
  ·rw [aJ e];rfl
  ·rw [aH e];exact ih
def keysOk.same {H H':Hp} {xs:List (ShK × Addr × Addr)} (h:keysOk H xs) (s:∀ b ys,H b=some (.tup ys)->H' b=some (.tup ys)) (t:∀ x∈xs,∃ p:Addr->Prop,Rep H p (.ref x.2.1) (shD x.1)/\∀ b o,p b->H b=some o->H' b=some o):keysOk H' xs:=λ x hx=>by
 obtain ⟨p,r,k⟩:=t x hx;exact ⟨p,r.keep λ b o pb hb=>⟨pb,k b o pb hb⟩⟩
def zce {P:Program} {w:World} {H:Hp} {h:Heap} {D:Addr} {xs:List (ShK × Addr × Addr)} (ok:HOk P w H h) (e:H D=some (sdO P w D xs)) (ks:keysOk H xs):(D == sysModules)=false/\xs.length<=sizeLine/\(xs.map (·.1)).Nodup/\h.DictOfH (x6 P w) D (xs.map toV):=by
 obtain ⟨⟨⟨h1,h2,h3⟩,o,es,ep,g1,g2,g3,g4⟩,_,_⟩:=(show ObjOk P w H h D (sdO P w D xs) from ok D _ e);refine ⟨h1,h2,h3,o,es,ep,g1,g2,g3,g4,λ x hx=>?_,by rw [dW];exact h3⟩;obtain ⟨y,hy,rfl⟩:=aW.mp hx;obtain ⟨p,r⟩:=ks y hy;exact vM ok r
def zgI {P:Program} {w:World} {H:Hp} {h:Heap} {D:Addr} {xs:List (ShK × Addr × Addr)} (h1:(D == sysModules)=false) (h2:xs.length<=sizeLine) (h3:(xs.map (·.1)).Nodup) (g:∃ o es ep,h.get? D=some o/\o.ExactDict/\o.data=.dict es ep/\es.toList=(xs.map toV).map (entryOfKey (x6 P w))):ObjOk P w H h D (sdO P w D xs):=by
 refine ⟨⟨⟨h1,h2,h3⟩,g⟩,?_,?_⟩
 ·obtain ⟨o,_,_,g1,_⟩:=g;exact ⟨o,g1⟩
 ·rintro k1 k2 ⟨a,o,es,ep,g1,g2⟩ k;exact ⟨a,o,es,ep,k o g1,g2⟩
section
variable {X:Cx} {pins:List (Addr × Obj)} {σ:St} {H:Hp} {s:Shared} {D b y:Addr} {A:Around} {E:Value->Shared->Prop} {xs:List (ShK × Addr × Addr)} {k:ShK} {p:Addr->Prop}
def Zm (hu:A.units + 100 < cLine):(x6 X.prog X.w).room A.in1:=by
 show A.in1.units + 3 < cLine
 simp only [cA];omega
def ziE {Q:Value->Shared->Prop} (hu:A.units + 100 < cLine) (I:Inv X pins σ H s) (e:H D=some (sdO X.prog X.w D xs)) (ks:keysOk H xs) (r:Rep H p (.ref b) (shD k)) (h:∀ s',Inv X pins σ H s'->Q (.bool (xI xs k).isSome) s'):wpAny (model X.prog X.w) A (compareOp .In (.ref b) (.ref D)) Q E s:=by
 obtain ⟨h1,h2,h3,dd⟩:=zce I.hok e ks;refine wpAny_in_heap (Zm hu) (vM I.hok r) h1 dd ?_;have q:=bP Option.isSome (ZU k xs);rw [dL,dL] at q;rw [q];exact h _ (I.tok _)
def zhZ {Q:Value->Shared->Prop} (hu:A.units + 100 < cLine) (I:Inv X pins σ H s) (e:H D=some (sdO X.prog X.w D xs)) (ks:keysOk H xs) (r:Rep H p (.ref b) (shD k)) (l:xI xs k=some y) (h:∀ s',Inv X pins σ H s'->Q (.ref y) s'):wpAny (model X.prog X.w) A (getItem (.ref D) (.ref b)) Q E s:=by
 obtain ⟨h1,h2,h3,dd⟩:=zce I.hok e ks;have q:=ZU k xs;rw [l] at q;obtain ⟨z,hz,e2⟩:=av.mp q;refine wpAny_getItem_heap (Zm hu) (vM I.hok r) dd hz ?_;rw [e2];exact h _ (I.tok _)
def zhY {Q:Unit->Shared->Prop} (hu:A.units + 100 < cLine) (I:Inv X pins σ H s) (e:H D=some (sdO X.prog X.w D xs)) (ks:keysOk H xs) (r:Rep H p (.ref b) (shD k)) (l:xI xs k=none) (hl:xs.length < sizeLine) (h:∀ s',Inv X pins σ (upd H D (sdO X.prog X.w D (xs ++ [(k,b,y)]))) s'->Q () s'):wpAny (model X.prog X.w) A (setItem (.ref D) (.ref b) (.ref y)) Q E s:=by
 obtain ⟨h1,h2,h3,dd⟩:=zce I.hok e ks;have q:=ZU k xs;rw [l] at q;have q:atKey (xs.map toV) k=none:=by simpa using q
 refine wpAny_setItem_heap (hsz:=by rw [ai];exact h2) (Zm hu) (vM I.hok r) dd λ h' dd' hs=>h _ ?_;rw [storedH_new q] at dd';obtain ⟨o,es,ep,g1,g2,g3,g4,_,g5⟩:=dd';refine zgo I (by rw [e];exact True.intro) hs ⟨o,g1⟩ (zgI h1 (by simp;omega) ?_ ⟨o,es,ep,g1,g2,g3,?_⟩)
 ·have:(xs ++ [(k,b,y)]).map (·.1)=((xs.map toV ++ [(k,b,Value.ref y)]).map (·.1)):=by simp [toV]
  rw [this];exact g5
 ·rw [g4];simp [toV]
end
def tSIn (P:Program) (w:World) (ty td:TE):TE:=λ σ H Q=>ty σ H λ y H1=>td σ H1 λ x H2=>∃ D b xs k p,x=.ref D/\y=.ref b/\H2 D=some (sdO P w D xs)/\keysOk H2 xs/\Rep H2 p (.ref b) (shD k)/\Q (.bl (xI xs k).isSome) H2
def tSGet (P:Program) (w:World) (td ty:TE):TE:=λ σ H Q=>td σ H λ x H1=>ty σ H1 λ y H2=>∃ D b xs k p z,x=.ref D/\y=.ref b/\H2 D=some (sdO P w D xs)/\keysOk H2 xs/\Rep H2 p (.ref b) (shD k)/\xI xs k=some z/\Q (.ref z) H2
def sSPut (P:Program) (w:World) (td ty tv:TE):TS:=λ N σ H=>tv σ H λ v H1=>td σ H1 λ x H2=>ty σ H2 λ y H3=>∃ D b xs k p z,x=.ref D/\y=.ref b/\v=.ref z/\H3 D=some (sdO P w D xs)/\keysOk H3 xs/\Rep H3 p (.ref b) (shD k)/\xI xs k=none/\xs.length < sizeLine/\N.nx σ (upd H3 D (sdO P w D (xs ++ [(k,b,z)])))
def tSNew (P:Program) (w:World):TE:=λ _ H Q=>∀ p,H p=none->Q (.ref p) (upd H p (sdO P w p []))
section
variable {X:Cx} {o i value:Expr} {pos pos':Pos} {td ty tv:TE}
def zhi (hu:X.A.units + 100 < cLine) (hi:PE X i ty) (ho:PE X o td):PC X .In i o (tSIn X.prog X.w ty td):=by
 intro pins s σ H Q I h;refine qz (hi pins s σ H _ I h) λ iv s1 y H1 I1 ry q1=>qz (ho pins s1 σ H1 _ I1 q1) λ u s2 x H2 I2 rx qq_=>?_;obtain ⟨D,b,xs,k,p,ex,ey,e,ks,r,q2⟩:=qq_;subst ex ey;obtain rfl:u=Value.ref D:=rx;obtain rfl:iv=Value.ref b:=ry;exact ziE hu I2 e ks r λ s3 I3=>⟨.bl _,H2,I3,rfl,q2⟩
def zfY (hu:X.A.units + 100 < cLine) (ho:PE X o td) (hi:PE X i ty) (hs:ziu i):PE X (.Subscript o i pos) (tSGet X.prog X.w td ty):=by
 intro pins s σ H Q I h;refine zfy PySem.F.slot_dict_getitem.lookup hs (qz (ho pins s σ H _ I h) λ u s1 x H1 I1 rx q1=>qz (hi pins s1 σ H1 _ I1 q1) λ iv s2 y H2 I2 ry qq_=>?_);obtain ⟨D,b,xs,k,p,z,ex,ey,e,ks,r,l,q2⟩:=qq_;subst ex ey;obtain rfl:u=Value.ref D:=rx;obtain rfl:iv=Value.ref b:=ry;exact ⟨(zce I2.hok e ks).2.2.2.typeIs,zhZ hu I2 e ks r l λ s3 I3=>⟨.ref z,H2,I3,rfl,q2⟩⟩
def zfV (hu:X.A.units + 100 < cLine) (ho:PE X o td) (hi:PE X i ty) (hv:PE X value tv) (hs:swapsWith value (some (.Subscript o i pos')) pos.line X.env=pure false) :
  PS X (.Assign [.Subscript o i pos'] value pos) (sSPut X.prog X.w td ty tv):=by
 intro pins s σ H N I h;refine wpAny_Assign_Subscript (qz (hv pins s σ H _ I h) λ r s1 v H1 I1 rv q1=>qz (ho pins s1 σ H1 _ I1 q1) λ u s2 x H2 I2 rx q2=>qz (hi pins s2 σ H2 _ I2 q2) λ iv s3 y H3 I3 ry qq_=>?_) hs;obtain ⟨D,b,xs,k,p,z,ex,ey,ez,e,ks,r',l,hl,q3⟩:=qq_;subst ex ey ez;obtain rfl:u=Value.ref D:=rx;obtain rfl:iv=Value.ref b:=ry;obtain rfl:r=Value.ref z:=rv;exact zhY hu I3 e ks r' l hl λ s4 I4=>⟨σ,_,I4,q3⟩
def zfX:PE X (.Dict [] [] pos) (tSNew X.prog X.w):=λ pins s σ H Q I h =>
 wpAny_Dict_empty ⟨.ref s.heap.objs.size,_,I.laid (a:=s.heap.objs.size) (o:=sdO X.prog X.w s.heap.objs.size []) (t':=s.toks) (λ _ _ q=>ah _ q) (ar _) (zgI (a9.mpr (aZ (aF I.big))) (bQ _) List.nodup_nil ⟨_,#[],0,aA _ rfl,⟨rfl,rfl,rfl⟩,rfl,rfl⟩),rfl,h _ (I.hok.fresh (ar _))⟩
end
section
variable {X:Cx} {G:GK} {x:Str} {np pos hpos:Pos} {body su:List Stmt} {b₀:Stmt} {tb:List (Addr × Obj)->GK->TS} {th:List (Addr × Obj)->Addr->TS}
def zgE (X:Cx) (x:Str) (tb:List (Addr × Obj)->GK->TS) (th:List (Addr × Obj)->Addr->TS):TS:=λ D σ H=>∃ Dc,X.mg x=some (.ref Dc)/\PySem.W.subIn X.K (.ref Dc) (.type "BaseException")=some true /\
 ∀ pn,tb pn (λ cls σ' H'=>∃ C,cls=.ref C/\PySem.W.kitCls X.K (.ref C) (.ref Dc)=some true/\∀ a,H' a=none->th pn a D σ' H') D σ H
theorem zhc (B:Bod X) (hc:X.calm=true)
  (hb:∀ pn G',PSs ((X.pinned pn).exg G') body (tb pn G')) (hs:∀ pn a,PSs (X.suite pn a) (b₀ :: su) (th pn a)) (hg:Gl X x:=by rfl) (hdb:(x == ("__debug__":Str))=false:=by decide) :
  PS (X.exg G) (.Try body [.ExceptHandler (some (.Name x np)) none (b₀ :: su) hpos] [] [] pos) (zgE X x tb th):=by
 intro pins s σ H D I h;obtain ⟨Dc,hm,hsub,h⟩:=h;have I1:=I.unwish.topn;refine wpAny_Try_except (aO (hb (X.pn ++ pins) _ [] s σ H D (I1.wish _) (h (X.pn ++ pins))) (λ f s1 q=>?_) λ e s1 q=>?_)
 ·cases f with
  | next =>
   obtain ⟨σ',H',J,q⟩:=q;exact cG ⟨σ',H',J.unwish.ofpn.wish _,q⟩
  | brk=>obtain ⟨σ',H',J,q⟩:=q;exact ⟨σ',H',J.unwish.ofpn.wish _,q⟩
  | cont=>obtain ⟨σ',H',J,q⟩:=q;exact ⟨σ',H',J.unwish.ofpn.wish _,q⟩
  | ret u=>obtain ⟨v,σ',H',J,r,q⟩:=q;exact ⟨v,σ',H',J.unwish.ofpn.wish _,r,q⟩
 ·refine aO (show wpAny _ _ _ _ _ _ from q) (λ _ s2 q2=>aO q2 (λ _ s3 q3=>?_) λ _ _ z=>z.elim) λ _ _ z=>z.elim;obtain ⟨a,cls,σ',H',rfl,J,xx,C,rfl,hk,hth⟩:=q3;have J2:Inv (X.suite (X.pn ++ pins) a) [] σ' H' s3:=J.tosuite;obtain ⟨oe,vs,he,hcls,_,_⟩:=xx.obj;refine wpAny_handleBy_cons (codeAny_handlers_test (xh J2 hg hm (QT J2.kIn he hcls hk hsub ?_) hdb)) (by intro z;cases z);refine codeAny_handlers_suite ?_;refine XA J2 (xx.less λ p hp=>by rwa [cn] at hp) λ s4 J4 x4=>?_;refine aO (hs (X.pn ++ pins) a [] s4 _ _ _ J4 (hth a xx.Ha)) (λ f s6 q6=>?_) λ _ _ z=>False.elim z;cases f with
  | next=>obtain ⟨σ7,H7,J7,q7⟩:=q6;exact ⟨σ7,H7,(J7.ofsuite I.ok.hd).ofpn.wish _,q7⟩
  | brk=>obtain ⟨σ7,H7,J7,q7⟩:=q6;exact ⟨σ7,H7,(J7.ofsuite I.ok.hd).ofpn.wish _,q7⟩
  | cont=>obtain ⟨σ7,H7,J7,q7⟩:=q6;exact ⟨σ7,H7,(J7.ofsuite I.ok.hd).ofpn.wish _,q7⟩
  | ret u=>obtain ⟨v,σ7,H7,J7,r7,q7⟩:=q6;exact ⟨v,σ7,H7,(J7.ofsuite I.ok.hd).ofpn.wish _,r7,q7⟩
end
def Z4 {X:Cx}:CallR X (.type "tuple") (λ xs H Q=>∃ p ys,xs=[.ref p]/\((SqL X.K H p ys/\∀ l,H l=none->Q (.ref l) (upd H l (.tup ys)))\/(SqT X.K H p ys/\Q (.ref p) H))):=Wa
end L2
namespace L2
open PySem PySem.Spec PySem.Calls PyProof.Rows
section
variable {X:Cx}
def zhM:bootBuiltins "set"=some (.type "set"):=by decide +kernel
def zh5 (K:PySem.W.Frag) (neg:Bool):R2:=λ x y H Q=>rIn K neg x y H Q\/∃ p xs,x=.non/\y=.ref p/\SqL K H p xs/\(∀ z∈xs,∃ t ts,z=.ref t/\H t=some (.tup ts))/\Q (.bl neg) H
theorem Z8 {pins:List (Addr × Obj)} {s:Shared} {σ:St} {H:Hp} (I:Inv X pins σ H s) {A:Around} (hu:A.units < cLine):∀ {xs:List V} {us:List Value},Vals xs us->(∀ z∈xs,∃ t ts,z=.ref t/\H t=some (.tup ts))->∀ u∈us,SeqAt.EqAt A s u .none false
 | _,_,.nil,_=>λ u hu=>by cases hu
 | y :: xs,u :: us,.cons r t,f=>λ u' hu'=>by
  rcases ax.mp hu' with rfl|hu'
  ·obtain ⟨b,ts,rfl,hb⟩:=f y (bK ..);cases r;obtain ⟨its,_,pl,_⟩:=I.tuple (SqT.of (K:=X.K) hb);exact SeqAt.EqAt.tuple_none pl hu
  ·exact Z8 I hu t (λ z hz=>f z (aG _ hz)) u' hu'
def zho (hu:X.A.units + 100 < cLine):OpR X (compareOp .In) (zh5 X.K false):=by
 intro pins s σ H x y v u Q I rx ry h;rcases h with h|⟨p,xs,rfl,rfl,hq,f,q⟩
 ·exact Wr pins s σ H x y v u Q I rx ry h
 ·cases rx;cases ry;obtain ⟨its,r,pl,hz⟩:=I.list hq;refine SeqAt.in_listAt (λ _=>false) pl.isList (λ w hw=>Z8 I (by simp only [cA];omega) r f w (by simpa using hw)) ⟨.bl _,H,I,rfl,?_⟩;rw [show its.toArray.any (λ _=>false)=false by simp];exact q
def zdi (hu:X.A.units + 100 < cLine):OpR X (compareOp .NotIn) (zh5 X.K true):=by
 intro pins s σ H x y v u Q I rx ry h;rcases h with h|⟨p,xs,rfl,rfl,hq,f,q⟩
 ·exact ZQ pins s σ H x y v u Q I rx ry h
 ·cases rx;cases ry;obtain ⟨its,r,pl,hz⟩:=I.list hq;refine SeqAt.notIn_listAt (λ _=>false) pl.isList (λ w hw=>Z8 I (by simp only [cA];omega) r f w (by simpa using hw)) ⟨.bl _,H,I,rfl,?_⟩;rw [show its.toArray.any (λ _=>false)=false by simp];exact q
end
def Jz (a:Value):checkTypeCall "set" ⟨[a],[]⟩=pure ():=by kernel_rfl
def X7 (a:Value):checkBuiltinCall "set.__new__" ⟨[.type "set",a],[]⟩=pure ():=by kernel_rfl
def vG:entryFor table "set.update.loop"=some Builtin.«set.update.loop»:=entryFor_of_tree (by kernel_rfl)
def xv:plainId "set.update.loop"=true:=by decide +kernel
section
variable {prog:Program} {w:World} {A:Around} {E:Value->Shared->Prop} {s:Shared}
def X9 (a:Value) {Q₁:Value->Shared->Prop}
  (h:∀ led:Bool,Q₁ (.ref s.heap.objs.size) { s with heap:=s.heap.push { cls:=.type "set",dict:=none,data:=.set #[] 0 (.fresh 0 0 led) } }) :
  codeAny (model prog w) A (.call (.builtin "set.__new__") ⟨[.type "set",a],[]⟩) (wants Q₁ E) s:=by
 refine codeAny_of_tree ?_;show wpAny _ A.in1 (do checkBuiltinCall "set.__new__" ⟨[.type "set",a],[]⟩;again (.builtin "set.__new__" ⟨[.type "set",a],[]⟩)) _ _ s
 refine ad (wpAny_of_eq (X7 a) (aw ⟨plainId_quiet F.plain_set_new _,dC F.entry_set_new ?_⟩));rw [dN F.plain_set_new _];unfold Builtin.«set.__new__» Builtin.Frozenset.newClass;have hsub:=sub_set_self;obtain ⟨hp,g,d,tk,os⟩:=s;dsimp only
 wp_walk
 refine wpAny_askSetting (aw ?_);dsimp only;simp only [newObj];refine ad (wpAny_alloc (aw ?_));exact aw (h _)
variable {R:Result->Shared->Prop} {I:Addr} {fp wr:List Addr} {n:Nat} {P:Nat->Value->Prop} {St:Nat->Heap->Prop}
theorem zee (W:Walks prog w A.in1 I fp wr n P St) {S:Addr} (hS:S ∉ fp) {ns:List Int} (hn:n=ns.length) (nd:ns.Nodup) (sm:ns.length < scanBound) (hP:∀ i v,P i v->∃ t,v=.int (ns.getD i 0) t):∀ (k i:Nat) (s:Shared),n - i=k->i<=n->St i s.heap->s.heap.SetOf (intKind prog w) S (λ z=>decide (z∈ns.take i)) i ->
  (∀ h' tk,(∀ b o,b ∉ wr->b≠S->s.heap.get? b=some o->h'.get? b=some o)->h'.SetOf (intKind prog w) S (λ z=>decide (z∈ns)) n->R (.ok (.ret .none)) { s with heap:=h',toks:=tk }) ->
  codeAny (model prog w) A (.builtin "set.update.loop" ⟨[.ref S,.ref I],[]⟩) R s:=by
 intro k
 induction k with
 | zero =>
  intro i s hk hi hst hs hR;have hin:i=n:=by omega
  subst hin;refine dC vG ?_;rw [dN xv _];show wpAny _ A.in1 (pyNext (.ref I) >>= _) _ _ s
  refine ad (W.done s _ _ hst λ h' tk hk'=>?_);refine aw (hR h' tk (λ b o hb _ e=>hk' b o hb e) ?_);rw [hn,aS] at hs;obtain ⟨o,es,ep,t,h1,h2⟩:=hs;exact ⟨o,es,ep,t,hk' S o (λ z=>hS (W.sub S z)) h1,by rw [hn];exact h2⟩
 | succ k ih =>
  intro i s hk hi hst hs hR;have hlt:i < n:=by omega
  refine dC vG ?_;rw [dN xv _];show wpAny _ A.in1 (pyNext (.ref I) >>= _) _ _ s
  refine ad (W.item i s _ _ hlt hst λ v h' tk hPv hst' hk'=>?_);obtain ⟨t,rfl⟩:=hP i v hPv;have hs1:h'.SetOf (intKind prog w) S (λ z=>decide (z∈ns.take i)) i:=by
   obtain ⟨o,es,ep,t,h1,h2⟩:=hs;exact ⟨o,es,ep,t,hk' S o (λ z=>hS (W.sub S z)) h1,h2⟩
  have hil:i < ns.length:=by omega
  have eg:ns.getD i 0=ns[i]:=by rw [ae,ac hil];rfl
  have nin:ns.getD i 0 ∉ ns.take i:=λ z=>by
   obtain ⟨j,hj,e⟩:=cX z;rw [List.getElem_take,eg] at e;rw [aT] at hj;have:=(List.getElem_inj nd).mp e;omega
  refine ad (cS ?_);unfold setAdd;refine cS (ad ((intKind prog w).pyHash (k:=ns.getD i 0) (intKind_is _ _ _ _) ?_));refine wpAny_setAddHashed_of (intKind_is _ _ _ _) rfl hs1 (by omega) λ h'' sb hs2=>?_;refine aw ⟨plainId_quiet xv _,ih (i + 1) _ (by omega) hlt ?_ ?_ ?_⟩
  ·exact W.frame (i + 1) h' h'' hst' λ b hb o e=>by rw [sb.2 b (λ z=>hS (by rw [<- z];exact hb))];exact e
  ·rw [am (by simpa using nin)] at hs2;have e:(λ k'=>decide (k'∈ns.take i) || decide (k'=ns.getD i 0))=λ z=>decide (z∈ns.take (i + 1)):=by
    funext z
    rw [aR,ac hil,eg,cP];simp only [dS,bZ,aD,Option.toList_some,ay]
   rw [e] at hs2;exact hs2
  ·intro h3 tk3 hk3 hs3;refine hR h3 tk3 (λ b o hb nb e=>hk3 b o hb nb ?_) hs3;rw [sb.2 b nb];exact hk' b o hb e
end
section
variable {prog:Program} {w:World} {A:Around} {E:Value->Shared->Prop} {s:Shared}
def Jd {M:Model} {self x:Value} {Q:Unit->Shared->Prop} (hT:s.TypeIs self "set") (hQ:Q () s):wpAny M A (checkBuiltinCall "set.__init__" ⟨[self,x],[]⟩) Q E s:=by
 simp only [checkBuiltinCall,kind_set_init,split_set_init,sig_set_init];refine ad (d8 hT sub_set_self ?_);simp only [dF,cz,dn];unfold Bind.checkArgs;dsimp only;refine ad (m:=Bind.printed "set" true _ _) (PyProof.Rows.printed_name (by decide) ?_);refine ad (m:=Bind.printed "*" false _ _) (PyProof.Rows.printed_star (self:=self) rfl hT λ short=>?_);have hrn:(Manifest.Receiver.self == Manifest.Receiver.none)=false:=by decide
 have hn:(if (Manifest.Receiver.self == Manifest.Receiver.none)=true then [self,x].length else [self,x].length - 1)=1:=by simp [hrn]
 rw [hn];simp only [map_nil];have hc:Bind.check ⟨.positional,"set","*",.self,[⟨"iterable",.posOnly,false⟩]⟩ "set" short 1 []=pure ():=by
  simp +decide [Bind.check,Bind.checkCount,Bind.isPositional]
 rw [hc];exact aw hQ
set_option maxHeartbeats 1000000 in
theorem zbY {x:Value} {Q:Value->Shared->Prop}
  (h:∀ (led:Bool) (s₁:Shared),s₁={ s with heap:=s.heap.push { cls:=.type "set",dict:=none,data:=.set #[] 0 (.fresh 0 0 led) } }->wpAny (model prog w) A.in1.in1 (Builtin.«set.__init__» ⟨[.ref s.heap.objs.size,x],[]⟩) (λ fin s'=>match fin with | .done f=>wants (λ r s₂=>r=.none/\Q (.ref s.heap.objs.size) s₂) E (.ok f) s' | .again c'=>c'.quiet=true/\codeAny (model prog w) A.in1 c' (wants (λ r s₂=>r=.none/\Q (.ref s.heap.objs.size) s₂) E) s') (λ e s'=>wants (λ r s₂=>r=.none/\Q (.ref s.heap.objs.size) s₂) E (.error e) s') s₁) :
  wpAny (model prog w) A (call (.type "set") [x]) Q E s:=by
 obtain ⟨c,tl,hmro⟩:=cy.mro;have hmade:=cy.made;have hsub:=cy.sub;refine dR (codeAny_of_tree ?_);show wpAny _ _ (callAny (.type "set") _) _ _ _
 refine aw ⟨Code.quiet_builtin _ (by decide +kernel),dC F.entry_type_call ?_⟩;rw [Around.under_plain (weight_type_call_type "set" [x] []) rfl];have h1:=cy.notType;have h2:=cy.canCreate;have hct:=Jz x
 repeat (any_goals (first|assumption|wp_step))
 refine cx (X9 x (E:=E) (Q₁:=λ obj s₁=>∃ led:Bool,obj=.ref s.heap.objs.size/\s₁={ s with heap:=s.heap.push { cls:=.type "set",dict:=none,data:=.set #[] 0 (.fresh 0 0 led) } }) λ led=>⟨led,rfl,rfl⟩) λ r s₁ hr=>?_;cases r with
 | error e=>exact hr
 | ok fl =>
  cases fl with
  | ret obj =>
   obtain ⟨led,rfl,rfl⟩:=hr;have hS:(s.heap.push { cls:=.type "set",dict:=none,data:=.set #[] 0 (.fresh 0 0 led) }).get? s.heap.objs.size=some { cls:=.type "set",dict:=none,data:=.set #[] 0 (.fresh 0 0 led) }:=aA _ rfl;have hT:Shared.TypeIs { s with heap:=s.heap.push { cls:=.type "set",dict:=none,data:=.set #[] 0 (.fresh 0 0 led) } } (.ref s.heap.objs.size) "set":=⟨_,hS,rfl⟩;have hli:=cy.init.lookup;have hbi:=cy.init.bind (.ref s.heap.objs.size)
   repeat (any_goals (first|assumption|wp_step))
   refine cx (codeAny_call_builtin (R:=wants (λ r s₂=>r=.none/\Q (.ref s.heap.objs.size) s₂) E) cy.init.plain F.entry_set_init (Jd hT (h led _ rfl))) λ r₂ s₂ hr₂=>?_;cases r₂ with
   | error e=>exact hr₂
   | ok fl₂ =>
    cases fl₂ with
    | ret r =>
     obtain ⟨rfl,hq⟩:=hr₂
     repeat (any_goals (first|assumption|wp_step))
    | _=>exact hr₂.elim
  | _=>exact hr.elim
end
section
variable {X:Cx}
def zhK (hc:X.calm=true):CallR X (.type "set") (λ xs H Q=>∃ p,∃ ns:List Int,xs=[.ref p]/\SqL X.K H p (ns.map V.int)/\ns.Nodup/\ns.length < 1000/\∀ l,H l=none->Q (.ref l) (upd H l (.set (λ z=>decide (z∈ns)) ns.length))):=by
 intro pins s σ H xs us Q I r h;obtain ⟨p,ns,rfl,hp,nd,sm,q⟩:=h;obtain ⟨u,rfl,rx⟩:=ZG r;cases rx;obtain ⟨its,rv,hl,hz⟩:=I.list hp;have hl':=hl.isList;have hlt:p < s.heap.objs.size:=by obtain ⟨_,e,_⟩:=hl';exact au e
 have hlen:its.length=ns.length:=by have:=rv.length;rw [ai] at this;exact this.symm
 refine zbY λ led s₁ e₁=>?_;subst e₁;have hl2:=hl'.push { cls:=.type "set",dict:=none,data:=.set #[] 0 (.fresh 0 0 led) };have hSo:(s.heap.push { cls:=.type "set",dict:=none,data:=.set #[] 0 (.fresh 0 0 led) }).get? s.heap.objs.size=some { cls:=.type "set",dict:=none,data:=.set #[] 0 (.fresh 0 0 led) }:=aA _ rfl;have hT:Shared.TypeIs { s with heap:=s.heap.push { cls:=.type "set",dict:=none,data:=.set #[] 0 (.fresh 0 0 led) } } (.ref p) "list":=by obtain ⟨o,h1,h2,_⟩:=hl2;exact ⟨o,h1,h2⟩
 have f1:=F.sub_list_set;have f2:=F.sub_list_frozenset;unfold Builtin.«set.__init__» noKeywords
 wp_walk using de hl2
 have e0:its.toArray.size=ns.length:=by rw [ao,hlen]
 have hS1:(s.heap.push { cls:=.type "set",dict:=none,data:=.set #[] 0 (.fresh 0 0 led) }).objs.size=s.heap.objs.size + 1:=bE ..;refine zee (A:=X.A.in1.in1) (S:=s.heap.objs.size) (ns:=ns) (n:=its.toArray.size) (Walks.list (A:=X.A.in1.in1.in1) (I.ok.hd hc) _ p (λ z=>?_) its.toArray) (λ z=>?_) (by rw [ao,hlen]) nd (Nat.lt_trans sm (by decide)) (λ i v hP=>?_) _ 0 _ rfl (bQ _) ⟨⟨_,aA _ rfl,rfl,rfl⟩,hl2.push _⟩ ?_ λ h' tk hk hs=>?_
 ·rw [hS1] at z;exact absurd z (aF (Nat.lt_succ_of_lt hlt))
 ·simp only [ax,a8,bz] at z;rcases z with z|z
  ·rw [hS1] at z;exact absurd z (aF (b9 _))
  ·exact absurd z (cR hlt)
 ·obtain ⟨t,rfl⟩:=wz rv i v (by simpa using hP);exact ⟨t,by rw [ae]⟩
 ·exact ⟨_,#[],0,_,ah _ hSo,⟨rfl,rfl,rfl⟩,rfl,λ e he=>by simp at he,λ k=>by simp,by decide,by rfl,rfl⟩
 ·refine aw (aw ⟨rfl,.ref s.heap.objs.size,_,I.laid (a:=s.heap.objs.size) (o:=.set (λ z=>decide (z∈ns)) ns.length) (t':=tk) (λ b u e=>?_) (ar _) (by rw [e0] at hs;exact hs),rfl,q _ (I.hok.fresh (ar _))⟩);have hb:=au e;exact hk b u (λ z=>by rw [ay.mp z,hS1] at hb;exact absurd hb (Nat.not_lt.mpr (cC _))) (aF hb) (ah _ (ah _ e))
def zgv:CallR X (.builtin "len") (λ xs H Q=>∃ p S n,xs=[.ref p]/\H p=some (.set S n)/\Q (.int n) H):=by
 intro pins s σ H xs us Q I r h;obtain ⟨p,S,n,rfl,hp,q⟩:=h;obtain ⟨u,rfl,rx⟩:=ZG r;cases rx;obtain ⟨o,es,ep,t,h1,h2,h3,_,_,h4,h5,h6⟩:=(show s.heap.SetOf (intKind X.prog X.w) p S n from I.hok p _ hp);refine call_len_set h1 h2 h3 h5 ?_ ⟨.int n,H,I.tok _,⟨_,by rw [h6]⟩,q⟩;have:es.size < 4096:=h4;omega
end
end L2
namespace L2
section
variable {G:Prop} {A B C D E F H I:Type}
def iE2 {k:A->B->Prop} (a:A) (b:B) (p:k a b):∃ a b,k a b:=⟨a,b,p⟩
def iE3 {k:A->B->C->Prop} (a:A) (b:B) (c:C) (p:k a b c):∃ a b c,k a b c:=⟨a,b,c,p⟩
def iE4 {k:A->B->C->D->Prop} (a:A) (b:B) (c:C) (d:D) (p:k a b c d):∃ a b c d,k a b c d:=⟨a,b,c,d,p⟩
def iE5 {k:A->B->C->D->E->Prop} (a:A) (b:B) (c:C) (d:D) (e:E) (p:k a b c d e):∃ a b c d e,k a b c d e:=⟨a,b,c,d,e,p⟩
def iE6 {k:A->B->C->D->E->F->Prop} (a:A) (b:B) (c:C) (d:D) (e:E) (f:F) (p:k a b c d e f):∃ a b c d e f,k a b c d e f:=⟨a,b,c,d,e,f,p⟩
def iE7 {k:A->B->C->D->E->F->H->Prop} (a:A) (b:B) (c:C) (d:D) (e:E) (f:F) (g:H) (p:k a b c d e f g):∃ a b c d e f g,k a b c d e f g:=⟨a,b,c,d,e,f,g,p⟩
def iE8 {k:A->B->C->D->E->F->H->I->Prop} (a:A) (b:B) (c:C) (d:D) (e:E) (f:F) (g:H) (i:I) (p:k a b c d e f g i):∃ a b c d e f g i,k a b c d e f g i:=⟨a,b,c,d,e,f,g,i,p⟩
def oE1 {k:A->Prop} (h:∃ a,k a) (w:∀ a,k a->G):G:=by obtain ⟨a,p⟩:=h;exact w a p
def oE2 {k:A->B->Prop} (h:∃ a b,k a b) (w:∀ a b,k a b->G):G:=by obtain ⟨a,b,p⟩:=h;exact w a b p
def oE3 {k:A->B->C->Prop} (h:∃ a b c,k a b c) (w:∀ a b c,k a b c->G):G:=by obtain ⟨a,b,c,p⟩:=h;exact w a b c p
def oE4 {k:A->B->C->D->Prop} (h:∃ a b c d,k a b c d) (w:∀ a b c d,k a b c d->G):G:=by obtain ⟨a,b,c,d,p⟩:=h;exact w a b c d p
def oE5 {k:A->B->C->D->E->Prop} (h:∃ a b c d e,k a b c d e) (w:∀ a b c d e,k a b c d e->G):G:=by obtain ⟨a,b,c,d,e,p⟩:=h;exact w a b c d e p
def oE6 {k:A->B->C->D->E->F->Prop} (h:∃ a b c d e f,k a b c d e f) (w:∀ a b c d e f,k a b c d e f->G):G:=by obtain ⟨a,b,c,d,e,f,p⟩:=h;exact w a b c d e f p
def oE7 {k:A->B->C->D->E->F->H->Prop} (h:∃ a b c d e f g,k a b c d e f g) (w:∀ a b c d e f g,k a b c d e f g->G):G:=by obtain ⟨a,b,c,d,e,f,g,p⟩:=h;exact w a b c d e f g p
def oE8 {k:A->B->C->D->E->F->H->I->Prop} (h:∃ a b c d e f g i,k a b c d e f g i) (w:∀ a b c d e f g i,k a b c d e f g i->G):G:=by obtain ⟨a,b,c,d,e,f,g,i,p⟩:=h;exact w a b c d e f g i p
end
section
variable {G A B C D E F H I J:Prop}
def iA3 (a:A) (b:B) (c:C):A/\B/\C:=⟨a,b,c⟩
def iA4 (a:A) (b:B) (c:C) (d:D):A/\B/\C/\D:=⟨a,b,c,d⟩
def iA5 (a:A) (b:B) (c:C) (d:D) (e:E):A/\B/\C/\D/\E:=⟨a,b,c,d,e⟩
def iA6 (a:A) (b:B) (c:C) (d:D) (e:E) (f:F):A/\B/\C/\D/\E/\F:=⟨a,b,c,d,e,f⟩
def iA7 (a:A) (b:B) (c:C) (d:D) (e:E) (f:F) (g:H):A/\B/\C/\D/\E/\F/\H:=⟨a,b,c,d,e,f,g⟩
def iA8 (a:A) (b:B) (c:C) (d:D) (e:E) (f:F) (g:H) (i:I):A/\B/\C/\D/\E/\F/\H/\I:=⟨a,b,c,d,e,f,g,i⟩
def iA9 (a:A) (b:B) (c:C) (d:D) (e:E) (f:F) (g:H) (i:I) (j:J):A/\B/\C/\D/\E/\F/\H/\I/\J:=⟨a,b,c,d,e,f,g,i,j⟩
def oA2 (h:A/\B) (k:A->B->G):G:=by obtain ⟨a,b⟩:=h;exact k a b
def oA3 (h:A/\B/\C) (k:A->B->C->G):G:=by obtain ⟨a,b,c⟩:=h;exact k a b c
def oA4 (h:A/\B/\C/\D) (k:A->B->C->D->G):G:=by obtain ⟨a,b,c,d⟩:=h;exact k a b c d
def oA5 (h:A/\B/\C/\D/\E) (k:A->B->C->D->E->G):G:=by obtain ⟨a,b,c,d,e⟩:=h;exact k a b c d e
def oA6 (h:A/\B/\C/\D/\E/\F) (k:A->B->C->D->E->F->G):G:=by obtain ⟨a,b,c,d,e,f⟩:=h;exact k a b c d e f
def oA7 (h:A/\B/\C/\D/\E/\F/\H) (k:A->B->C->D->E->F->H->G):G:=by obtain ⟨a,b,c,d,e,f,g⟩:=h;exact k a b c d e f g
def oA8 (h:A/\B/\C/\D/\E/\F/\H/\I) (k:A->B->C->D->E->F->H->I->G):G:=by obtain ⟨a,b,c,d,e,f,g,i⟩:=h;exact k a b c d e f g i
def oA9 (h:A/\B/\C/\D/\E/\F/\H/\I/\J) (k:A->B->C->D->E->F->H->I->J->G):G:=by obtain ⟨a,b,c,d,e,f,g,i,j⟩:=h;exact k a b c d e f g i j
end
end L2
namespace Mine
def ze3 {p r:Int} (hp:0<=p) (hr:0 < r):Int.gcd r (p % r)=Int.gcd p r:=by
 have e:(p % r).natAbs=p.natAbs % r.natAbs:=by
  have h1:p=(p.natAbs:Int):=by omega
  have h2:r=(r.natAbs:Int):=by omega
  rw [h1,h2,<- Int.natCast_emod,bI,bI,bI]
 show Nat.gcd r.natAbs (p % r).natAbs=Nat.gcd p.natAbs r.natAbs
 rw [e,Nat.gcd_comm p.natAbs,Nat.gcd_rec r.natAbs p.natAbs,Nat.gcd_comm]
def zgj {p:Int} (hp:0<=p):(Int.gcd p 0:Int)=p:=by
 rw [Int.gcd_zero_right];omega
def zcp {a b:Int} (h:¬ (a=0/\b=0)):1<=(Int.gcd a b:Int):=by
 have:0 < Int.gcd a b:=Int.gcd_pos_iff.mpr (by omega);omega
end Mine
namespace Mine
structure IsLcm (ns:List Int) (l:Int):Prop where
 pos:0 < l
 dv:∀ n∈ns,n ∣ l
 least:∀ m:Int,(∀ n∈ns,n ∣ m)->l ∣ m
def IsLcm.nil:IsLcm [] 1:=⟨by decide,(λ _ h=>nomatch h),λ m _=>Int.one_dvd m⟩
def zhu {a b:Int} (ha:0 < a) (hb:0 < b):a / (Int.gcd a b:Int) * b=(Nat.lcm a.natAbs b.natAbs:Int):=by
 have g:(Int.gcd a b:Int) ∣ a:=Int.gcd_dvd_left ..;obtain ⟨k,hk⟩:=g;have gp:0 < (Int.gcd a b:Int):=by have:=zcp (a:=a) (b:=b) (by omega);omega
 have e1:a / (Int.gcd a b:Int)=k:=by
  conv=>lhs;rw [hk]
  have hk':=hk;rw [Int.mul_comm (Int.gcd a b:Int) k];have e2:Int.gcd (k * (Int.gcd a b:Int)) b=Int.gcd a b:=by rw [Int.mul_comm,<- hk]
  rw [e2];exact Int.mul_ediv_cancel _ (by omega)
 have hkn:0 < k:=by
  rcases (by omega:k<=0\/0 < k) with h|h
  ·have:=Int.mul_nonpos_of_nonneg_of_nonpos (cE gp) h;omega
  ·exact h
 have hg:Nat.gcd a.natAbs b.natAbs * Nat.lcm a.natAbs b.natAbs=a.natAbs * b.natAbs:=Nat.gcd_mul_lcm ..;have ea:a.natAbs=Nat.gcd a.natAbs b.natAbs * k.natAbs:=by
  have:=bP Int.natAbs hk;rw [Int.natAbs_mul,bI] at this;exact this
 have gp':0 < Nat.gcd a.natAbs b.natAbs:=by
  have:(Nat.gcd a.natAbs b.natAbs:Int)=(Int.gcd a b:Int):=rfl;omega
 have e3:Nat.lcm a.natAbs b.natAbs=k.natAbs * b.natAbs:=by
  apply Nat.eq_of_mul_eq_mul_left gp';rw [hg,<- Nat.mul_assoc,<- ea]
 rw [e1,e3];rw [Int.natCast_mul];have h1:k=(k.natAbs:Int):=by omega
 have h2:b=(b.natAbs:Int):=by omega
 rw [<- h1,<- h2]
def Za {a b:Int} (h:a ∣ b):a.natAbs ∣ b.natAbs:=cK.mpr h
def IsLcm.step {ns:List Int} {l p:Int} (x:IsLcm ns l) (hp:0 < p):IsLcm (ns ++ [p]) (l / (Int.gcd l p:Int) * p):=by
 rw [zhu x.pos hp];have lp:0 < l.natAbs:=by have:=x.pos;omega
 have pp:0 < p.natAbs:=by omega
 refine ⟨?_,λ n hn=>?_,λ m hm=>?_⟩
 ·have:=Nat.lcm_pos lp pp;omega
 ·rcases aD.mp hn with h|h
  ·have h1:=x.dv n h;refine Int.dvd_trans h1 ?_;rw [<- cK,bI];exact Nat.dvd_lcm_left ..
  ·rw [ay.mp h,<- cK,bI];exact Nat.dvd_lcm_right ..
 ·have h1:=x.least m λ n hn=>hm n (bH _ hn);have h2:=hm p (aV _ (ay.mpr rfl));rw [<- cK,bI];exact Nat.lcm_dvd (Za h1) (Za h2)
def VB {a b:Int} (hb:0 < b):(Int.gcd a b:Int)<=b:=Int.le_of_dvd hb (Int.gcd_dvd_right ..)
end Mine
namespace L2
open PySem PySem.Spec PyProof.Rows
section
variable {X:Cx} {K:PySem.W.Frag} {σ:St} {H:Hp} {Q:VK} {D:Ends}
def rd_iq {i:Int} {P:Int->Prop}:iq (.int i) P=P i:=rfl
def rd_bq {b:Bool} {P:Bool->Prop}:bq (.bl b) P=P b:=rfl
def rd_nq {P:Prop}:nq .non P=P:=rfl
def rd_lq {v:V} {P:V->Prop}:lq [v] P=P v:=rfl
def rd_vq {v:V} {P:V->Prop}:vq (some (some v)) P=P v:=rfl
def rd_addI {i j:Int}:zam K (.int i) (.int j) H Q=Q (.int (i + j)) H:=rfl
def rd_addS {i j:Str}:zam K (.str i) (.str j) H Q=(i.length + j.length<=sizeLine/\Q (.str (i ++ j)) H):=rfl
def rd_mc {α β:Type} {f:α->β} {a:α} {l:List α}:List.map f (a :: l)=f a :: List.map f l:=rfl
def rd_mn {α β:Type} {f:α->β}:List.map f []=[]:=rfl
def rd_itT {A B:Prop}:(if true=true then A else B)=A:=rfl
def rd_itF {A B:Prop}:(if false=true then A else B)=B:=rfl
def rd_is0 {A B:Prop}:(if V.non=V.non then A else B)=A:=rfl
def rd_is1 {a:Addr} {A B:Prop}:(if V.ref a=V.non then A else B)=B:=rfl
def rd_is2 {a:Int} {A B:Prop}:(if V.int a=V.non then A else B)=B:=rfl
def rd_in0 {A B:Prop}:(if ¬ V.non=V.non then A else B)=B:=rfl
def rd_in1 {a:Addr} {A B:Prop}:(if ¬ V.ref a=V.non then A else B)=A:=rfl
def rd_in2 {a:Int} {A B:Prop}:(if ¬ V.int a=V.non then A else B)=A:=rfl
def rd_sz0 {P:Prop}:szl [] P=P:=rfl
section
variable {P:Prop} {a b c d e f g h i:V}
def rd_sz1:szl [a] P=P:=rfl
def rd_sz2:szl [a,b] P=P:=rfl
def rd_sz3:szl [a,b,c] P=P:=rfl
def rd_sz4:szl [a,b,c,d] P=P:=rfl
def rd_sz5:szl [a,b,c,d,e] P=P:=rfl
def rd_sz6:szl [a,b,c,d,e,f] P=P:=rfl
def rd_sz7:szl [a,b,c,d,e,f,g] P=P:=rfl
def rd_sz8:szl [a,b,c,d,e,f,g,h] P=P:=rfl
def rd_sz9:szl [a,b,c,d,e,f,g,h,i] P=P:=rfl
end
noncomputable def zct:Nat->List Stmt->Bool
 | 0,_=>false
 | n + 1,b=>match b.getLast? with
  | some (.Return ..)=>true
  | some (.Raise ..)=>true
  | some (.Continue ..)=>true
  | some (.Break ..)=>true
  | some (.If _ b e _)=>zct n b && zct n e
  | _=>false
noncomputable def zil:Stmt->Bool
 | .For ..=>true
 | .While ..=>true
 | .Try ..=>true
 | .If _ b e _=>!zct 9 b && !zct 9 e
 | _=>false
def fa {X:Cx} {st:Stmt} {t:TS} (_:zil st=true) (p:PS X st t):PS X st t:=p
structure Vr (X:Cx) (i:Nat) (x:Str):Prop where
 n:X.N[i]?=some x
 v:Vis X.env.scope x
 d:(x == ("__debug__":Str))=false
 c:(x == ("__classdict__":Str))=false
def pq {X:Cx} (i:Nat) {x:Str} {pos:Pos} (h:Vr X i x:=by walk_at "v"):PE X (.Name x pos) (tVar i):=zhg h.n h.v h.d h.c
def rd_trB {b:Bool} {P:Bool->Hp->Prop}:trq K (.bl b) H P=P b H:=rfl
def rd_trI {i:Int} {P:Bool->Hp->Prop}:trq K (.int i) H P=∃ k,zdS K (.int i) H k/\P k H:=rfl
def rd_trR {a:Addr} {P:Bool->Hp->Prop}:trq K (.ref a) H P=∃ k,zdS K (.ref a) H k/\P k H:=rfl
def rd_trS {x:Str} {P:Bool->Hp->Prop}:trq K (.str x) H P=∃ k,zdS K (.str x) H k/\P k H:=rfl
def rd_eqI {i j:Int}:zbv K (.int i) (.int j) H Q=Q (.bl (decide (i=j))) H:=rfl
def rd_neI {i j:Int}:zc6 K (.int i) (.int j) H Q=Q (.bl (!decide (i=j))) H:=rfl
def rd_eqS {i j:Str}:zbv K (.str i) (.str j) H Q=Q (.bl (decide (i=j))) H:=rfl
def rd_eqB {i j:Bool}:zbv K (.bl i) (.bl j) H Q=Q (.bl (decide (i=j))) H:=rfl
def rd_eTI {i j:Int}:zc7 K (.int i) (.int j) H Q=if i=j then Q (.bl true) H else Q (.bl false) H:=rfl
def rd_eTS {i j:Str}:zc7 K (.str i) (.str j) H Q=if i=j then Q (.bl true) H else Q (.bl false) H:=rfl
def rd_eTB {i j:Bool}:zc7 K (.bl i) (.bl j) H Q=if i=j then Q (.bl true) H else Q (.bl false) H:=rfl
def rd_nTI {i j:Int}:zc5 K (.int i) (.int j) H Q=if ¬ i=j then Q (.bl true) H else Q (.bl false) H:=rfl
def rd_nTS {i j:Str}:zc5 K (.str i) (.str j) H Q=if ¬ i=j then Q (.bl true) H else Q (.bl false) H:=rfl
def rd_nTB {i j:Bool}:zc5 K (.bl i) (.bl j) H Q=if ¬ i=j then Q (.bl true) H else Q (.bl false) H:=rfl
def rd_eTR {a b:Addr}:zc7 K (.ref a) (.ref b) H Q=zbv K (.ref a) (.ref b) H Q:=rfl
def rd_nTR {a b:Addr}:zc5 K (.ref a) (.ref b) H Q=zc6 K (.ref a) (.ref b) H Q:=rfl
def rd_fvI {i:Int} {P:Str->Prop} {R:Str->Prop}:((∃ j,V.int i=V.int j/\j.natAbs.log2 < 1920/\P (toString j))\/(∃ y,V.int i=V.str y/\y.length<=sizeLine/\R y)) ↔ i.natAbs.log2 < 1920/\P (toString i) :=
 ⟨λ h=>h.elim (λ ⟨_,e,h⟩=>by cases e;exact h) (λ ⟨_,e,_⟩=>nomatch e),λ h=>.inl ⟨i,rfl,h⟩⟩
def rd_strS {y:Str} {P:Str->Prop}:(∃ z,V.str y=V.str z/\P z) ↔ P y:=⟨λ ⟨_,e,h⟩=>by cases e;exact h,λ h=>⟨y,rfl,h⟩⟩
def rd_c0:((0:Nat):Int)=0:=rfl
def rd_c1:((1:Nat):Int)=1:=rfl
def rd_c2:((2:Nat):Int)=2:=rfl
def rd_c3:((3:Nat):Int)=3:=rfl
def rd_c4:((4:Nat):Int)=4:=rfl
def rd_c5:((5:Nat):Int)=5:=rfl
def rd_c6:((6:Nat):Int)=6:=rfl
def vO {p:Addr} {xs:List V} {k:Int} {j:Nat} {v:V} {R:Hp->Prop} (h:H p=some (.lst xs)) (e:ixN xs.length k=some j) (q:R (upd H p (.lst (xs.set j v)))):zgJ (.ref p) (.int k) v H R:=⟨p,xs,k,j,rfl,rfl,h,e,q⟩
def Xt {n:Nat} {k:Int} (h0:0<=k) (h1:k < n):ixN n k=some k.toNat:=by unfold ixN;rw [aq h0,aq h1]
def cx_K {CX:CXT} {P:Program} {w:World} {K:PySem.W.Frag} {mg:Str->Option Value} {base:Heap} {N:List Str} {qual:Str} {scope:Scope} {f:Addr} {cd:Value} {A:Around} {outer:List Env} {s:Shared} {H:Hp} {E:XK}:(Jc CX P w K mg base N qual scope f cd A outer s H E).K=K:=rfl
def cx_mg {CX:CXT} {P:Program} {w:World} {K:PySem.W.Frag} {mg:Str->Option Value} {base:Heap} {N:List Str} {qual:Str} {scope:Scope} {f:Addr} {cd:Value} {A:Around} {outer:List Env} {s:Shared} {H:Hp} {E:XK}:(Jc CX P w K mg base N qual scope f cd A outer s H E).mg=mg:=rfl
def cx_prog {CX:CXT} {P:Program} {w:World} {K:PySem.W.Frag} {mg:Str->Option Value} {base:Heap} {N:List Str} {qual:Str} {scope:Scope} {f:Addr} {cd:Value} {A:Around} {outer:List Env} {s:Shared} {H:Hp} {E:XK}:(Jc CX P w K mg base N qual scope f cd A outer s H E).prog=P:=rfl
def cx_w {CX:CXT} {P:Program} {w:World} {K:PySem.W.Frag} {mg:Str->Option Value} {base:Heap} {N:List Str} {qual:Str} {scope:Scope} {f:Addr} {cd:Value} {A:Around} {outer:List Env} {s:Shared} {H:Hp} {E:XK}:(Jc CX P w K mg base N qual scope f cd A outer s H E).w=w:=rfl
def cx_base {CX:CXT} {P:Program} {w:World} {K:PySem.W.Frag} {mg:Str->Option Value} {base:Heap} {N:List Str} {qual:Str} {scope:Scope} {f:Addr} {cd:Value} {A:Around} {outer:List Env} {s:Shared} {H:Hp} {E:XK}:(Jc CX P w K mg base N qual scope f cd A outer s H E).base=base:=rfl
def rd_cpow {n:Int}:zix 10 n ↔ 0<=n/\n<=1000000:=⟨λ h=>⟨h.1,h.2.1⟩,λ h=>⟨h.1,h.2,by decide⟩⟩
def rd_isiI {i:Int}:zal K [.int i,.ty "int"] H Q ↔ Q (.bl true) H:=by
 refine ⟨λ h=>?_,λ q=>⟨_,_,_,_,rfl,.old (.int i),.inl ⟨_,rfl,QQ⟩,q⟩⟩;obtain ⟨x,c,t,b,e,ty,k,q⟩:=h;cases e;rcases k with ⟨u,hu,k⟩|⟨_,_,_,e,_⟩
 ·cases hu;cases ty with|old ty=>cases ty;rw [QQ] at k;cases k;exact q
 ·cases e
def rd_isiIB {i:Int}:zal K [.int i,.ty "bool"] H Q ↔ Q (.bl false) H:=by
 refine ⟨λ h=>?_,λ q=>⟨_,_,_,_,rfl,.old (.int i),.inl ⟨_,rfl,ZV⟩,q⟩⟩;obtain ⟨x,c,t,b,e,ty,k,q⟩:=h;cases e;rcases k with ⟨u,hu,k⟩|⟨_,_,_,e,_⟩
 ·cases hu;cases ty with|old ty=>cases ty;rw [ZV] at k;cases k;exact q
 ·cases e
def rd_isiB {i:Bool}:zal K [.bl i,.ty "bool"] H Q ↔ Q (.bl true) H:=by
 refine ⟨λ h=>?_,λ q=>⟨_,_,_,_,rfl,.old (.bl i),.inl ⟨_,rfl,Zc⟩,q⟩⟩;obtain ⟨x,c,t,b,e,ty,k,q⟩:=h;cases e;rcases k with ⟨u,hu,k⟩|⟨_,_,_,e,_⟩
 ·cases hu;cases ty with|old ty=>cases ty;rw [Zc] at k;cases k;exact q
 ·cases e
def rd_isiS {i:Str}:zal K [.str i,.ty "str"] H Q ↔ Q (.bl true) H:=by
 refine ⟨λ h=>?_,λ q=>⟨_,_,_,_,rfl,.old (.str i),.inl ⟨_,rfl,QP⟩,q⟩⟩;obtain ⟨x,c,t,b,e,ty,k,q⟩:=h;cases e;rcases k with ⟨u,hu,k⟩|⟨_,_,_,e,_⟩
 ·cases hu;cases ty with|old ty=>cases ty;rw [QP] at k;cases k;exact q
 ·cases e
def xK {a C:Addr} {c:V} {u:Value} {b:Bool} (h:H a=some (zdA a (.ref C))) (f:XI K C) (hu:zgr c=some u) (k:PySem.W.kitOne K (.ref C) u=some b) (q:Q (.bl b) H):zal K [.ref a,c] H Q :=
 ⟨_,_,_,_,rfl,.exc h f,.inl ⟨u,hu,k⟩,q⟩
def zgf {a:Addr} {xs:List V} (h:H a=some (.tup xs)) (q:Q (.bl true) H):zal K [.ref a,.ty "tuple"] H Q:=⟨_,_,_,_,rfl,.old (.tup h),.inl ⟨_,rfl,zaI⟩,q⟩
def ZO {a b:Addr} {xs ys:List V} (h1:SqL K H a xs) (h2:SqL K H b ys) (hl:xs.length + ys.length<=sizeLine) (q:∀ p,H p=none->Q (.ref p) (upd H p (.lst (xs ++ ys)))):zam K (.ref a) (.ref b) H Q :=
 show zel K _ _ H Q from ⟨a,b,xs,ys,rfl,rfl,h1,h2,hl,q⟩
def j9 {n:Nat} (h:n<=1000):n<=sizeLine:=cc (zm h)
def qE {a:Addr} {xs:List V} {DN:St->Hp->Prop} {B:(St->Hp->Prop)->V->St->Hp->Prop} (Pv:Nat->St->Hp->Prop) (h0:Pv 0 σ H) (hl:∀ i σ H,i<=xs.length->Pv i σ H->SqL K H a xs)
  (hs:∀ i x σ H,xs[i]?=some x->Pv i σ H->B (Pv (i + 1)) x σ H) (hd:∀ σ H,Pv xs.length σ H->DN σ H) :
  ∃ W:Nat->Nat->St->Hp->Prop,(∃ m,W 0 m σ H)/\∀ i m σ H,W i m σ H ->
   ((Itl K a).stop i H/\DN σ H)\/((Itl K a).go i H/\∃ N:St->Hp->Prop,(∀ σ' H',N σ' H'->∃ m',m' < m/\W (i + 1) m' σ' H')/\∀ x H',(Itl K a).yld i H x H'->B N x σ H'):=by
 refine ⟨λ i m σ H=>m=xs.length - i/\i<=xs.length/\Pv i σ H,⟨xs.length,by simp,bQ _,h0⟩,?_⟩;rintro i m σ H ⟨rfl,hi,p⟩;have q:=hl i σ H hi p;by_cases hlt:i < xs.length
 ·refine .inr ⟨⟨xs,xs[i],q,by simp [hlt]⟩,Pv (i + 1),λ σ' H' p'=>⟨xs.length - (i + 1),by omega,rfl,hlt,p'⟩,λ x H' y=>?_⟩;obtain ⟨e,y⟩:=y;subst e;exact hs i x σ _ (y xs q) p
 ·have e:i=xs.length:=by omega
  subst e;exact .inl ⟨⟨xs,q,ar _⟩,hd σ H p⟩
def zig {a:Addr} {xs:List V} {DN:St->Hp->Prop} {B:(St->Hp->Prop)->V->St->Hp->Prop} (Pv:Nat->St->Hp->Prop) (h0:Pv 0 σ H) (hl:∀ i σ H,i<=xs.length->Pv i σ H->SqT K H a xs)
  (hs:∀ i x σ H,xs[i]?=some x->Pv i σ H->B (Pv (i + 1)) x σ H) (hd:∀ σ H,Pv xs.length σ H->DN σ H) :
  ∃ W:Nat->Nat->St->Hp->Prop,(∃ m,W 0 m σ H)/\∀ i m σ H,W i m σ H ->
   ((Itt K a).stop i H/\DN σ H)\/((Itt K a).go i H/\∃ N:St->Hp->Prop,(∀ σ' H',N σ' H'->∃ m',m' < m/\W (i + 1) m' σ' H')/\∀ x H',(Itt K a).yld i H x H'->B N x σ H'):=by
 refine ⟨λ i m σ H=>m=xs.length - i/\i<=xs.length/\Pv i σ H,⟨xs.length,by simp,bQ _,h0⟩,?_⟩;rintro i m σ H ⟨rfl,hi,p⟩;have q:=hl i σ H hi p;by_cases hlt:i < xs.length
 ·refine .inr ⟨⟨xs,xs[i],q,by simp [hlt]⟩,Pv (i + 1),λ σ' H' p'=>⟨xs.length - (i + 1),by omega,rfl,hlt,p'⟩,λ x H' y=>?_⟩;obtain ⟨e,y⟩:=y;subst e;exact hs i x σ _ (y xs q) p
 ·have e:i=xs.length:=by omega
  subst e;exact .inl ⟨⟨xs,q,ar _⟩,hd σ H p⟩
def Zd {lo:Int} {n:Nat} {DN:St->Hp->Prop} {B:(St->Hp->Prop)->V->St->Hp->Prop} (Pv:Nat->St->Hp->Prop) (h0:Pv 0 σ H)
  (hs:∀ i σ H,i < n->Pv i σ H->B (Pv (i + 1)) (.int (lo + i)) σ H) (hd:∀ σ H,Pv n σ H->DN σ H) :
  ∃ W:Nat->Nat->St->Hp->Prop,(∃ m,W 0 m σ H)/\∀ i m σ H,W i m σ H ->
   ((Itr lo n).stop i H/\DN σ H)\/((Itr lo n).go i H/\∃ N:St->Hp->Prop,(∀ σ' H',N σ' H'->∃ m',m' < m/\W (i + 1) m' σ' H')/\∀ x H',(Itr lo n).yld i H x H'->B N x σ H'):=by
 refine ⟨λ i m σ H=>m=n - i/\i<=n/\Pv i σ H,⟨n,by simp,bQ _,h0⟩,?_⟩;rintro i m σ H ⟨rfl,hi,p⟩;by_cases hlt:i < n
 ·refine .inr ⟨hlt,Pv (i + 1),λ σ' H' p'=>⟨n - (i + 1),by omega,rfl,hlt,p'⟩,λ x H' y=>?_⟩;obtain ⟨e,y⟩:=y;subst e y;exact hs i σ _ hlt p
 ·have e:i=n:=by omega
  subst e;exact .inl ⟨ar _,hd σ H p⟩
def zgn {p q:Addr} {ns:List Int} {n:Nat} (hne:p≠q) (h1:SqL K H p (ns.map V.int)) (h2:SqL K H q (ns.map V.int)):DE K H (n + 1) (.ref p) (.ref q) true:=by
 have:=DE.lists (n:=n) (e:=λ _=>true) hne h1 h2 rfl (λ j x y hx hy=>by
  rw [hx] at hy;cases hy;rw [aj,av] at hx;obtain ⟨m,_,rfl⟩:=hx;have z:DE K H n (.int m) (.int m) (eqV (.int m) (.int m)):=.flat rfl rfl;rw [show eqV (V.int m) (V.int m)=true by simp [eqV]] at z;exact z)
 rw [cf.mpr (λ _ _=>rfl)] at this;exact this
def zbu {a:Addr} {xs:List V} {lo hi:Option Int} (h:SqL K H a xs) (q:∀ p,H p=none->Q (.ref p) (upd H p (.lst (XD xs lo hi)))):zg9 K (.ref a) lo hi H Q:=⟨a,xs,rfl,h,q⟩
def upd_keep {a b:Addr} {o u:HO} (h:H b=some u) (ha:H a=none):upd H a o b=some u:=by rw [upd_ne (ne_of_none h ha)];exact h
def zg {a:Addr} {o:HO} (ha:H a=none):Same H (upd H a o):=λ _ _ h=>upd_keep h ha
def rd_ixT {a:Addr} {xs:List V} {i:Int} {v:V} (h:H a=some (.tup xs)) (e:atI xs i=some v) (q:Q v H):rIx K (.ref a) (.int i) H Q:=.inr (.inl ⟨a,xs,i,v,rfl,rfl,SqT.of h,e,q⟩)
def zn {a:Addr} {xs:List V} {i:Int} {v:V} (h:SqL K H a xs) (e:atI xs i=some v) (q:Q v H):rIx K (.ref a) (.int i) H Q:=.inl ⟨a,xs,i,v,rfl,rfl,h,e,q⟩
def zh0 {N0:St->Hp->Prop} {B:(St->Hp->Prop)->Prop} (h:B N0):∃ N:St->Hp->Prop,(∀ σ' H',N σ' H'->N0 σ' H')/\B N:=⟨N0,λ _ _ h=>h,h⟩
end
end L2
set_option hygiene false
local macro_rules | `(tactic| walk_at "v")=>`(tactic| exact ⟨rfl,by first|exact Or.inl rfl|exact Or.inr (Or.inl rfl)|exact Or.inr (Or.inr rfl),by decide,by decide⟩)
local macro_rules | `(tactic| walk_at "rd") => do
 let a ← ("L2.start L2.tSIn L2.tSGet L2.sSPut L2.tSNew L2.tB L2.rd_mc L2.rd_mn bT length_nil cons_append List.nil_append L2.tSeq L2.tAsg L2.gName L2.tC L2.tOp L2.tUn L2.tTest L2.tIfS L2.tRet L2.tNext L2.tDrop L2.tNot L2.tAnd L2.tOr L2.tAndV L2.tNotV L2.tCons L2.tNil L2.tTup L2.tLst L2.tBi L2.tBl L2.tVar ↓L2.rd_vq L2.rd_vq ↓L2.rd_iq L2.rd_iq ↓L2.rd_bq L2.rd_bq ↓L2.rd_nq L2.rd_nq ↓L2.rd_lq L2.rd_lq ↓L2.rd_itT L2.rd_itT ↓L2.rd_itF L2.rd_itF ↓L2.rd_is0 L2.rd_is0 ↓L2.rd_is1 L2.rd_is1 ↓L2.rd_is2 L2.rd_is2 ↓L2.rd_in0 L2.rd_in0 ↓L2.rd_in1 L2.rd_in1 ↓L2.rd_in2 L2.rd_in2 L2.rI L2.rI0 L2.rU L2.rT L2.ipI L2.tTru L2.rd_trB L2.rd_trI L2.rd_trR L2.rd_trS L2.rd_addI L2.rd_addS L2.rd_eqI L2.rd_neI L2.rd_eqS L2.rd_eqB L2.rd_eTI L2.rd_eTS L2.rd_eTB L2.rd_eTR L2.rd_nTI L2.rd_nTR L2.rd_nTS L2.rd_nTB L2.rd_fvI L2.rd_strS L2.rd_sz0 L2.rd_sz1 L2.rd_sz2 L2.rd_sz3 L2.rd_sz4 L2.rd_sz5 L2.rd_sz6 L2.rd_sz7 L2.gSub L2.tBreak L2.rd_sz8 L2.rd_sz9 L2.cx_K L2.cx_mg L2.cx_prog L2.cx_w L2.cx_base L2.gTup L2.gCons L2.gNil L2.tCl L2.tGl L2.tChain L2.tRaise L2.tTryAs L2.sFld L2.tFld L2.tMk L2.tMth L2.tBM L2.tSl L2.tNoPart L2.tPart L2.tClN L2.tMkN L2.tMthN L2.tBase L2.tYes L2.tRg1 L2.tIf L2.cxC_K L2.cxC_mg L2.cxC_prog L2.cxC_w L2.cxC_base eq_self reduceCtorEq decide_false bt dO List.getElem?_cons_zero List.getElem?_cons_succ List.set_cons_zero List.set_cons_succ List.replicate Nat.reduceSub Nat.reduceAdd true_and and_true L2.rd_cpow Int.reduceToNat Int.reducePow Int.reduceLT Int.reduceLE Int.reduceNeg L2.fdiv_pos L2.rd_isiI L2.rd_isiIB L2.rd_isiB L2.rd_isiS dF Bool.not_false cz reduceIte decide_true bZ Bool.true_eq_false Bool.not_eq_true' decide_eq_false_iff_not L2.rd_c0 L2.rd_c1 L2.rd_c2 L2.rd_c3 L2.rd_c4 L2.rd_c5 L2.rd_c6 Int.reduceEq not_true_eq_false not_false_eq_true Int.reduceMul Int.reduceAdd Int.reduceSub".splitOn " ").toArray.mapM fun s=>if s.front == '↓' then `(Lean.Parser.Tactic.simpLemma| ↓$(Lean.mkIdent (s.drop 1).toString.toName):term) else `(Lean.Parser.Tactic.simpLemma| $(Lean.mkIdent s.toName):term)
 `(tactic| (simp only [$a,*]))
local macro_rules | `(tactic| walk_at "r")=>`(tactic| try walk_at "rd")
local macro_rules | `(tactic| walk_at "ixT")=>`(tactic| (refine L2.rd_ixT (by assumption) rfl ?_;try walk_at "rd"))
local macro_rules | `(tactic| walk_at "sd")=>`(tactic| first|assumption|exact L2.mul_okR (by decide) (by decide)|exact L2.mul_okL (by decide) (by decide)|exact L2.mul_okR (by omega) (by omega)|exact L2.mul_okL (by omega) (by omega)|exact L2.fd_ok (by decide) (by decide +kernel)|decide|omega|exact L2.fd_small (by omega) (by omega))
local macro_rules | `(tactic| walk_at "sds")=>`(tactic| repeat (refine And.intro (by walk_at "sd") ?_))
local macro_rules | `(tactic| walk_at "for")=>`(tactic| (walk_at "go";(try simp only [L2.tFor,L2.iSeq,L2.iRng1,L2.iRng2,L2.iRng3,L2.iEnum,L2.iZip]);try walk_at "rd"))
local macro_rules | `(tactic| walk_at "lc")=>`(tactic| (walk_at "go";(try simp only [L2.tLc,L2.iSeq,L2.stC,L2.iRng1,L2.iRng2,L2.iRng3,L2.iEnum,L2.iZip]);try walk_at "rd"))
local macro_rules | `(tactic| walk_at "go")=>`(tactic| repeat (first|walk_at "rd" | refine And.intro (by assumption) ?_|refine L2.nxt λ Nq_ hNq_=>?_|refine L2.useN (by assumption) ?_))
local macro_rules | `(tactic| walk_at "ne")=>`(tactic| first|assumption|exact aZ (by assumption)|exact L2.ne_of_none (by assumption) (by assumption)|exact aZ (L2.ne_of_none (by assumption) (by assumption)))
local macro_rules | `(tactic| walk_at "hp")=>`(tactic| first|assumption|exact L2.upd_same|(refine L2.upd_keep ?_ (by assumption);walk_at "hp")|(rw [L2.upd_ne (by walk_at "ne")];walk_at "hp"))
set_option hygiene false
local macro_rules | `(tactic| walk_at "i")=>`(tactic| (intro vs H Q E h;repeat (first|(obtain ⟨rfl,_⟩:=h;rfl)|obtain ⟨_,h⟩:=h)))
local macro_rules | `(tactic| walk_at "j")=>`(tactic| intro cdv A outer s H vs Q EX hr h)
local macro_rules | `(tactic| walk_at "k")=>`(tactic| intro cdv A outer s H vs Q E hr h)
seal L2.PE L2.PT L2.PA L2.PS L2.PSs L2.PC L2.PG L2.PGs L2.PI L2.PO L2.PK
namespace K41
open PySem L2 Mine
noncomputable def top (i:Nat):Stmt:=PySem.Challenge.pw_beltshares_k41_waiting_way.main.body.getD i (.Pass ⟨0,0,0,0⟩)
local macro_rules | `(tactic| walk_at "sc")=>`(tactic| exact ⟨rfl,rfl,rfl,by decide +kernel,rfl,by decide +kernel,by decide +kernel⟩)
noncomputable abbrev xG:Stmt:=zV (top 11) 0
def Ve:FnScope ["self","room","pace"] ["self","room","pace"] (zf xG):=by walk_at "sc"
noncomputable abbrev wJ:Stmt:=top 16
def XX:FnScope ["pace","least"] ["pace","least"] (zf wJ):=by walk_at "sc"
noncomputable abbrev wK:Stmt:=top 17
def XY:FnScope ["kind"] ["kind"] (zf wK):=by walk_at "sc"
noncomputable abbrev wH:Stmt:=top 18
def XV:FnScope ["belts"] ["belts"] (zf wH):=by walk_at "sc"
noncomputable abbrev xS:Stmt:=top 19
def JQ:FnScope ["wanted","side","step","place"] ["wanted","side"] (zf xS):=by walk_at "sc"
noncomputable abbrev jF:Stmt:=top 20
def ZJ:FnScope ["head","free","side"] ["head","free","side"] (zf jF):=by walk_at "sc"
noncomputable abbrev qV:Stmt:=zV (top 21) 0
def Vd:FnScope ["self","ins","outs"] ["self","ins","outs"] (zf qV):=by walk_at "sc"
noncomputable abbrev jJ:Stmt:=zV (top 22) 0
def JU:FnScope ["self","out","pace","kinds","kind"] ["self","out","pace","kinds"] (zf jJ):=by walk_at "sc"
noncomputable abbrev jU:Stmt:=zV (top 22) 1
def Qc:FnScope ["self","heads","free","turn","side"] ["self","heads","free","turn","side"] (zf jU):=by walk_at "sc"
noncomputable abbrev jT:Stmt:=zV (top 22) 2
def Qb:FnScope ["self"] ["self"] (zf jT):=by walk_at "sc"
noncomputable abbrev xf:Stmt:=zV (top 23) 0
def X2:FnScope ["self","into","pace"] ["self","into","pace"] (zf xf):=by walk_at "sc"
noncomputable abbrev xu:Stmt:=zV (top 23) 1
def Q4:FnScope ["self","heads","free","turn","side"] ["self","heads","free","turn","side"] (zf xu):=by walk_at "sc"
noncomputable abbrev xt:Stmt:=zV (top 23) 2
def Q3:FnScope ["self"] ["self"] (zf xt):=by walk_at "sc"
noncomputable abbrev jK:Stmt:=zV (top 24) 0
def JV:FnScope ["self","into","outs"] ["self","into","outs"] (zf jK):=by walk_at "sc"
noncomputable abbrev jW:Stmt:=zV (top 24) 1
def Qe:FnScope ["self","heads","free","turn","side","place"] ["self","heads","free","turn","side"] (zf jW):=by walk_at "sc"
noncomputable abbrev jV:Stmt:=zV (top 24) 2
def Qd:FnScope ["self"] ["self"] (zf jV):=by walk_at "sc"
noncomputable abbrev qI:Stmt:=zV (top 25) 0
def vW:FnScope ["self","into","outs"] ["self","into","outs"] (zf qI):=by walk_at "sc"
noncomputable abbrev qX:Stmt:=zV (top 25) 1
def w6:FnScope ["self","heads","free","turn","side","place"] ["self","heads","free","turn","side"] (zf qX):=by walk_at "sc"
noncomputable abbrev qW:Stmt:=zV (top 25) 2
def wZ:FnScope ["self"] ["self"] (zf qW):=by walk_at "sc"
noncomputable abbrev xb:Stmt:=zV (top 26) 0
def X1:FnScope ["self","into","outs","kind"] ["self","into","outs","kind"] (zf xb):=by walk_at "sc"
noncomputable abbrev xr:Stmt:=zV (top 26) 1
def Q2:FnScope ["self","heads","free","turn","side","place"] ["self","heads","free","turn","side"] (zf xr):=by walk_at "sc"
noncomputable abbrev jw:Stmt:=zV (top 26) 2
def Zo:FnScope ["self","kind"] ["self","kind"] (zf jw):=by walk_at "sc"
noncomputable abbrev xq:Stmt:=zV (top 26) 3
def Q1:FnScope ["self"] ["self"] (zf xq):=by walk_at "sc"
noncomputable abbrev jL:Stmt:=zV (top 27) 0
def JW:FnScope ["self","ins","out"] ["self","ins","out"] (zf jL):=by walk_at "sc"
noncomputable abbrev jl:Stmt:=zV (top 27) 1
def Qg:FnScope ["self","heads","free","turn","side","place"] ["self","heads","free","turn","side"] (zf jl):=by walk_at "sc"
noncomputable abbrev jX:Stmt:=zV (top 27) 2
def Qf:FnScope ["self"] ["self"] (zf jX):=by walk_at "sc"
noncomputable abbrev jb:Stmt:=zV (top 29) 0
def X0:FnScope ["self","turn","cells","sides","gone"] ["self","turn","cells","sides","gone"] (zf jb):=by walk_at "sc"
noncomputable abbrev Qi:Stmt:=top 30
def zbf:FnScope ["work","ware","kinds"] ["work","ware"] (zf Qi):=by walk_at "sc"
noncomputable abbrev vh:Stmt:=top 31
def WX:FnScope ["knot"] ["knot"] (zf vh):=by walk_at "sc"
noncomputable abbrev jg:Stmt:=top 32
def JS:FnScope ["work","cells","sides"] ["work"] (zf jg):=by walk_at "sc"
noncomputable abbrev xp:Stmt:=top 33
def QZ:FnScope ["state"] ["state"] (zf xp):=by walk_at "sc"
noncomputable abbrev wF:Stmt:=top 35
def zac:FnScope ["work","cells"] ["work","cells"] (zf wF):=by walk_at "sc"
noncomputable abbrev wG:Stmt:=top 36
def XU:FnScope ["work","state","number"] ["work","state","number"] (zf wG):=by walk_at "sc"
noncomputable abbrev xn:Stmt:=top 37
def zaa:FnScope ["work","state","beat_place","kinds","places"] ["work","state"] (zf xn):=by walk_at "sc"
noncomputable abbrev xo:Stmt:=top 39
def zad:FnScope ["work","state","knot","ends"] ["work","state","knot"] (zf xo):=by walk_at "sc"
noncomputable abbrev wD:Stmt:=top 40
def XR:FnScope ["state","number","from_belt","ware"] ["state","number","from_belt"] (zf wD):=by walk_at "sc"
noncomputable abbrev Qj:Stmt:=top 41
def zbg:FnScope ["belts","place"] ["belts","place"] (zf Qj):=by walk_at "sc"
noncomputable abbrev jS:Stmt:=top 42
def Qa:FnScope ["knot","chosen"] ["knot","chosen"] (zf jS):=by walk_at "sc"
noncomputable abbrev zaf:Stmt:=top 43
def zg6:FnScope ["work","state","number","knot","free","chosen","from_belt","to_belt","ware"] ["work","state","number"] (zf zaf):=by walk_at "sc"
noncomputable abbrev Qk:Stmt:=top 44
def zbh:FnScope ["work","state","moves","number","move"] ["work","state"] (zf Qk):=by walk_at "sc"
noncomputable abbrev vj:Stmt:=top 45
def WY:FnScope ["cells","place"] ["cells"] (zf vj):=by walk_at "sc"
noncomputable abbrev xC:Stmt:=top 46
def WW:FnScope ["work","state","moves","number","belt"] ["work","state"] (zf xC):=by walk_at "sc"
noncomputable abbrev Zp:Stmt:=top 47
def zab:FnScope ["work","state","after"] ["work","state"] (zf Zp):=by walk_at "sc"
noncomputable abbrev wE:Stmt:=top 49
def XT:FnScope ["work","limit","state","state_by_shape","turn","shape"] ["work","limit"] (zf wE):=by walk_at "sc"
noncomputable abbrev xD:Stmt:=top 50
def WZ:FnScope ["before","after","growth","old","new"] ["before","after"] (zf xD):=by walk_at "sc"
noncomputable abbrev xQ:Stmt:=top 52
def JP:FnScope ["work","limit","ends","counts"] ["work","limit"] (zf xQ):=by walk_at "sc"
noncomputable abbrev qH:Stmt:=top 53
def XS:FnScope ["work","limit","state"] ["work","limit"] (zf qH):=by walk_at "sc"
noncomputable abbrev xT:Stmt:=top 54
def JR:FnScope ["state","belt","cells"] ["state"] (zf xT):=by walk_at "sc"
noncomputable abbrev wC:Stmt:=top 55
def XQ:FnScope ["work","state","belt","knot"] ["work","state","belt"] (zf wC):=by walk_at "sc"
noncomputable abbrev qy:Stmt:=top 56
def JO:FnScope ["work","limit","state","way","belt","ring"] ["work","limit"] (zf qy):=by walk_at "sc"
noncomputable abbrev JX:Stmt:=top 58
def zcT:FnScope ["work","turns","state","turn"] ["work","turns"] (zf JX):=by walk_at "sc"
noncomputable abbrev ZK:Stmt:=top 60
def zcU:FnScope ["one","other","part","rest","left"] ["one","other"] (zf ZK):=by walk_at "sc"
noncomputable abbrev Qh:Stmt:=top 61
def zbe:FnScope ["paces","number","pace"] ["paces"] (zf Qh):=by walk_at "sc"
noncomputable abbrev wI:Stmt:=top 65
def XW:FnScope ["belts","knots"] ["belts","knots"] (zf wI):=by walk_at "sc"
noncomputable abbrev ju:Stmt:=top 66
def Zn:FnScope ["named","size"] ["named","size"] (zf ju):=by walk_at "sc"
noncomputable abbrev jp:Stmt:=zV (top 67) 0
def W0:FnScope ["self","belts","knots","fed","taken","knot"] ["self","belts","knots"] (zf jp):=by walk_at "sc"
noncomputable abbrev xa:Stmt:=zV (top 67) 2
def XZ:FnScope ["self","belt"] ["self","belt"] (zf xa):=by walk_at "sc"
noncomputable abbrev jI:Stmt:=zV (top 67) 3
def JT:FnScope ["self"] ["self"] (zf jI):=by walk_at "sc"
noncomputable abbrev jv:Stmt:=zV (top 67) 4
def Q0:FnScope ["self"] ["self"] (zf jv):=by walk_at "sc"
noncomputable abbrev xF:Stmt:=zV (top 67) 5
def Va:FnScope ["self","paces","number","pace"] ["self"] (zf xF):=by walk_at "sc"
noncomputable abbrev J1:Stmt:=top 69
def zc0:FnScope ["_law_cells","_law_k"] ["_law_cells","_law_k"] (zf J1):=by walk_at "sc"
noncomputable abbrev JZ:Stmt:=top 70
def zcW:FnScope ["_law_number","_law_prime","_law_many"] ["_law_number","_law_prime","_law_many"] (zf JZ):=by walk_at "sc"
noncomputable abbrev J3:Stmt:=top 71
def zc1:FnScope ["_law_number"] ["_law_number"] (zf J3):=by walk_at "sc"
noncomputable abbrev Qo:Stmt:=top 72
def zbm:FnScope ["_law_cells","_law_first","_law_other"] ["_law_cells"] (zf Qo):=by walk_at "sc"
noncomputable abbrev Qn:Stmt:=top 73
def zbk:FnScope ["_law_number","_law_into","_law_outs","_law_kind","_law_pick"] ["_law_number","_law_into","_law_outs","_law_kind"] (zf Qn):=by walk_at "sc"
noncomputable abbrev Qp:Stmt:=top 74
def zbn:FnScope ["_law_belts","_law_knots","_law_loose","_law_loop","_law_number","_law_kind","_law_at","_law_pick","_law_into","_law_outs"] ["_law_belts","_law_knots","_law_loose","_law_loop","_law_number","_law_kind"] (zf Qp):=by walk_at "sc"
noncomputable abbrev JY:Stmt:=top 75
def zcV:FnScope ["_law_cells","_law_top","_law_lead","_law_kinds_here","_law_belts","_law_first","_law_loose","_law_loop","_law_knots","_law_number","_law_at","_law_cut"] ["_law_cells","_law_top"] (zf JY):=by walk_at "sc"
noncomputable abbrev Ql:Stmt:=top 76
def zbi:FnScope ["_law_work_here","_law_limit","_law_word","_law_told"] ["_law_work_here","_law_limit"] (zf Ql):=by walk_at "sc"
noncomputable abbrev vm:Stmt:=top 77
def Vb:FnScope ["_law_work_here","_law_limit","_law_word","_law_caught","e"] ["_law_work_here","_law_limit","_law_word"] (zf vm):=by walk_at "sc"
noncomputable abbrev Qr:Stmt:=top 78
def zbp:FnScope ["_law_work_here","_law_state","_law_belt_here","_law_knot"] ["_law_work_here","_law_state","_law_belt_here"] (zf Qr):=by walk_at "sc"
noncomputable abbrev J0:Stmt:=top 79
def zcX:FnScope ["_law_work_here","_law_belt_here","_law_knot"] ["_law_work_here","_law_belt_here"] (zf J0):=by walk_at "sc"
noncomputable abbrev vn:Stmt:=top 80
def Vc:FnScope ["_law_way","_law_many","_law_belt_here"] ["_law_way","_law_many"] (zf vn):=by walk_at "sc"
noncomputable abbrev Qm:Stmt:=top 81
def zbj:FnScope ["_law_work_here","_law_state","_law_way","_law_k"] ["_law_work_here","_law_state","_law_way"] (zf Qm):=by walk_at "sc"
noncomputable abbrev ZM:Stmt:=top 82
def zcZ:FnScope ["_law_work_here","_law_state","_law_told","_law_way","_law_ring","_law_laden","_law_last"] ["_law_work_here","_law_state","_law_told"] (zf ZM):=by walk_at "sc"
noncomputable abbrev wL:Stmt:=top 83
def zae:FnScope ["_law_cells","_law_belts"] ["_law_cells"] (zf wL):=by walk_at "sc"
noncomputable abbrev vN:Stmt:=top 84
def zbl:FnScope ["_law_cells","_law_pick","_law_first","_law_kinds_here","_law_lanes_here"] ["_law_cells","_law_pick"] (zf vN):=by walk_at "sc"
noncomputable abbrev ZL:Stmt:=top 85
def zcY:FnScope ["_law_cells","_law_belts","_law_knots"] ["_law_cells"] (zf ZL):=by walk_at "sc"
noncomputable abbrev Qq:Stmt:=top 86
def zbo:FnScope ["_law_cells","_law_number","_law_pick","_law_limit"] ["_law_cells"] (zf Qq):=by walk_at "sc"
noncomputable abbrev QM:Stmt:=top 87
def zg5:FnScope ["_law_script","_law_cells","_law_work_here","_law_limit","_law_word","_law_turn","_law_told"] ["_law_script"] (zf QM):=by walk_at "sc"
local macro_rules | `(tactic| walk_at "T")=>`(tactic| (have gf:=T.gf;have lC:=T.lC;have lB:=T.lB;have lX:=T.lX;have lD:=T.lD;have fM:=T.fM;have iK:=T.iK;have mv:=T.mv;have kY:=T.kY;have me:=T.me;have my:=T.my;have mz:=T.mz))
structure Ad where
 b:Addr
 c:Addr
 d:Addr
 e:Addr
 f:Addr
 g:Addr
 h:Addr
 i:Addr
 j:Addr
 k:Addr
 l:Addr
 m:Addr
 n:Addr
 o:Addr
 p:Addr
 q:Addr
structure Txt (K:PySem.W.Frag) (mg:Str->Option Value) (a:Ad):Prop where
 kg:FA K mg "check_pace" wJ ["pace","least"]
 kh:FA K mg "check_kind" wK ["kind"]
 ki:FA K mg "check_ways" wH ["belts"]
 iY:FA K mg "first_place" xS ["wanted","side"]
 hZ:FA K mg "place_for_ware" jF ["head","free","side"]
 lE:FA K mg "kind_of" Qi ["work","ware"]
 kJ:FA K mg "no_counts" vh ["knot"]
 iZ:FA K mg "empty_state" jg ["work"]
 iO:FA K mg "copied_state" xp ["state"]
 k9:FA K mg "kinds_in" wF ["work","cells"]
 kj:FA K mg "kind_place" wG ["work","state","number"]
 lh:FA K mg "shape_of" xn ["work","state"]
 ll:FA K mg "heads_of" xo ["work","state","knot"]
 km:FA K mg "taken_ware" wD ["state","number","from_belt"]
 lF:FA K mg "belt_at" Qj ["belts","place"]
 ip:FA K mg "counted_place" jS ["knot","chosen"]
 mD:FA K mg "act" zaf ["work","state","number"]
 lH:FA K mg "act_all" Qk ["work","state"]
 kK:FA K mg "move_belt" vj ["cells"]
 kN:FA K mg "pass_turn" xC ["work","state"]
 ly:FA K mg "one_turn" Zp ["work","state"]
 ko:FA K mg "round_ends" wE ["work","limit"]
 kO:FA K mg "growth_of" xD ["before","after"]
 i0:FA K mg "still_state" xQ ["work","limit"]
 kq:FD K mg "still_from" qH ["work","limit"] [.int 200]
 i5:FA K mg "first_laden" xT ["state"]
 ku:FA K mg "waited_for" wC ["work","state","belt"]
 gY:FD K mg "waiting_way" qy ["work","limit"] [.int 200]
 lY:FA K mg "played" JX ["work","turns"]
 lZ:FA K mg "common" ZK ["one","other"]
 lI:FA K mg "lasting" Qh ["paces"]
 kx:FA K mg "check_size" wI ["belts","knots"]
 gZ:FA K mg "check_each_once" ju ["named","size"]
 l5:FA K mg "_law_cell" J1 ["_law_cells","_law_k"]
 l6:FA K mg "_law_some" JZ ["_law_number","_law_prime","_law_many"]
 l7:FA K mg "_law_belt" J3 ["_law_number"]
 lJ:FA K mg "_law_kinds" Qo ["_law_cells"]
 lK:FA K mg "_law_split" Qn ["_law_number","_law_into","_law_outs","_law_kind"]
 lM:FA K mg "_law_grown" Qp ["_law_belts","_law_knots","_law_loose","_law_loop","_law_number","_law_kind"]
 l8:FA K mg "_law_work" JY ["_law_cells","_law_top"]
 lN:FA K mg "_law_still" Ql ["_law_work_here","_law_limit"]
 kP:FA K mg "_law_refused" vm ["_law_work_here","_law_limit","_law_word"]
 lO:FA K mg "_law_ahead" Qr ["_law_work_here","_law_state","_law_belt_here"]
 l9:FA K mg "_law_shut" J0 ["_law_work_here","_law_belt_here"]
 kR:FA K mg "_law_numbers" vn ["_law_way","_law_many"]
 lP:FA K mg "_law_steps" Qm ["_law_work_here","_law_state","_law_way"]
 ma:FA K mg "_law_good" ZM ["_law_work_here","_law_state","_law_told"]
 lA:FA K mg "_law_closed" wL ["_law_cells"]
 lQ:FA K mg "_law_lanes" vN ["_law_cells","_law_pick"]
 md:FA K mg "_law_long" ZL ["_law_cells"]
 lS:FA K mg "_law_built" Qq ["_law_cells"]
 gf:mg "len"=none
 lC:mg "range"=none
 lB:mg "list"=none
 lX:mg "max"=none
 lD:mg "tuple"=none
 fM:mg "isinstance"=none
 iK:mg "enumerate"=none
 mv:mg "zip"=none
 kY:mg "sorted"=none
 me:mg "bool"=none
 my:mg "set"=none
 mz:mg "int"=none
 iL:mg "WorkError"=some (.ref a.b)
 lT:mg "BadBelt"=some (.ref a.c)
 gC:mg "BadKnot"=some (.ref a.d)
 ky:mg "BadWork"=some (.ref a.e)
 gg:mg "TooLong"=some (.ref a.f)
 gR:mg "Moving"=some (.ref a.g)
 mB:mg "Belt"=some (.ref a.h)
 kZ:mg "Source"=some (.ref a.j)
 hX:mg "Drain"=some (.ref a.k)
 mf:mg "Parter"=some (.ref a.l)
 i6:mg "FirstParter"=some (.ref a.m)
 kI:mg "Sieve"=some (.ref a.n)
 k8:mg "Joiner"=some (.ref a.o)
 mn:mg "State"=some (.ref a.p)
 mC:mg "Work"=some (.ref a.q)
 gH:Cls K a.h
 gw:NoAttr K a.h "room"
 gx:NoAttr K a.h "pace"
 kS:FK K a.h "Belt.__init__" xG ["self","room","pace"]
 fO:FB K mg "Knot" "__init__" "Knot.__init__" qV ["self","ins","outs"]
 fT:Cls K a.j
 gb:NoAttr K a.j "pace"
 fZ:NoAttr K a.j "kinds"
 ia:NoAttr K a.j "ins"
 gy:NoAttr K a.j "outs"
 mh:WI K a.j
 i7:FK K a.j "Source.__init__" jJ ["self","out","pace","kinds"]
 ir:FM K a.j "choice" "Source.choice" jU ["self","heads","free","turn","side"]
 iu:FM K a.j "copied" "Source.copied" jT ["self"]
 f9:Cls K a.k
 fU:NoAttr K a.k "pace"
 gS:NoAttr K a.k "ins"
 ib:NoAttr K a.k "outs"
 mq:WI K a.k
 kz:FK K a.k "Drain.__init__" xf ["self","into","pace"]
 iP:FM K a.k "choice" "Drain.choice" xu ["self","heads","free","turn","side"]
 iQ:FM K a.k "copied" "Drain.copied" xt ["self"]
 gi:Cls K a.l
 gI:NoAttr K a.l "ins"
 gc:NoAttr K a.l "outs"
 mi:WI K a.l
 i8:FK K a.l "Parter.__init__" jK ["self","into","outs"]
 iw:FM K a.l "choice" "Parter.choice" jW ["self","heads","free","turn","side"]
 ix:FM K a.l "copied" "Parter.copied" jV ["self"]
 fS:Cls K a.m
 fY:NoAttr K a.m "ins"
 fX:NoAttr K a.m "outs"
 i9:WI K a.m
 gW:FK K a.m "FirstParter.__init__" qI ["self","into","outs"]
 gJ:FM K a.m "choice" "FirstParter.choice" qX ["self","heads","free","turn","side"]
 gM:FM K a.m "copied" "FirstParter.copied" qW ["self"]
 fN:Cls K a.n
 gj:NoAttr K a.n "kind"
 gU:NoAttr K a.n "ins"
 fV:NoAttr K a.n "outs"
 mt:WI K a.n
 kA:FK K a.n "Sieve.__init__" xb ["self","into","outs","kind"]
 iR:FM K a.n "choice" "Sieve.choice" xr ["self","heads","free","turn","side"]
 hJ:FM K a.n "place_for" "Sieve.place_for" jw ["self","kind"]
 iS:FM K a.n "copied" "Sieve.copied" xq ["self"]
 gk:Cls K a.o
 gm:NoAttr K a.o "ins"
 gz:NoAttr K a.o "outs"
 mj:WI K a.o
 ka:FK K a.o "Joiner.__init__" jL ["self","ins","out"]
 iy:FM K a.o "choice" "Joiner.choice" jl ["self","heads","free","turn","side"]
 iz:FM K a.o "copied" "Joiner.copied" jX ["self"]
 fH:Cls K a.p
 fP:NoAttr K a.p "turn"
 fI:NoAttr K a.p "cells"
 fW:NoAttr K a.p "sides"
 fQ:NoAttr K a.p "gone"
 kB:FK K a.p "State.__init__" jb ["self","turn","cells","sides","gone"]
 fK:Cls K a.q
 fR:NoAttr K a.q "belts"
 fJ:NoAttr K a.q "knots"
 kT:FK K a.q "Work.__init__" jp ["self","belts","knots"]
 kC:FM K a.q "taker" "Work.taker" xa ["self","belt"]
 kb:FM K a.q "drains" "Work.drains" jI ["self"]
 iT:FM K a.q "sources" "Work.sources" jv ["self"]
 kU:FM K a.q "beat" "Work.beat" xF ["self"]
 kW:∃ t,mg "MOST_ROOM"=some (.int 6 t)
 iM:∃ t,mg "MOST_PACE"=some (.int 4 t)
 kD:∃ t,mg "MOST_KINDS"=some (.int 6 t)
 ke:∃ t,mg "FEWEST_WAYS"=some (.int 2 t)
 kX:∃ t,mg "MOST_WAYS"=some (.int 4 t)
 kF:∃ t,mg "MOST_BELTS"=some (.int 24 t)
 kG:∃ t,mg "MOST_KNOTS"=some (.int 24 t)
 lU:XC K a.c
 gD:XC K a.d
 lV:XC K a.f
 gN:XI K a.f
 ml:XC K a.g
 gX:XI K a.g
 kH:XC K a.e
 lW:PySem.W.subIn K (.ref a.f) (.type "BaseException")=some true
 hW:PySem.W.kitCls K (.ref a.f) (.ref a.f)=some true
 iN:PySem.W.subIn K (.ref a.b) (.type "BaseException")=some true
 gd:PySem.W.kitCls K (.ref a.f) (.ref a.b)=some true
 gq:PySem.W.kitCls K (.ref a.g) (.ref a.b)=some true
 ic:PySem.W.kitOne K (.ref a.j) (.ref a.o)=some false
 iA:PySem.W.kitOne K (.ref a.k) (.ref a.o)=some false
 ie:PySem.W.kitOne K (.ref a.l) (.ref a.o)=some false
 gF:PySem.W.kitOne K (.ref a.m) (.ref a.o)=some false
 iB:PySem.W.kitOne K (.ref a.n) (.ref a.o)=some false
 ig:PySem.W.kitOne K (.ref a.o) (.ref a.o)=some true
 iC:PySem.W.kitOne K (.ref a.j) (.ref a.k)=some false
 iU:PySem.W.kitOne K (.ref a.k) (.ref a.k)=some true
 iD:PySem.W.kitOne K (.ref a.l) (.ref a.k)=some false
 gP:PySem.W.kitOne K (.ref a.m) (.ref a.k)=some false
 iV:PySem.W.kitOne K (.ref a.n) (.ref a.k)=some false
 iE:PySem.W.kitOne K (.ref a.o) (.ref a.k)=some false
 iF:PySem.W.kitOne K (.ref a.j) (.ref a.n)=some false
 iW:PySem.W.kitOne K (.ref a.k) (.ref a.n)=some false
 iG:PySem.W.kitOne K (.ref a.l) (.ref a.n)=some false
 gQ:PySem.W.kitOne K (.ref a.m) (.ref a.n)=some false
 iX:PySem.W.kitOne K (.ref a.n) (.ref a.n)=some true
 iH:PySem.W.kitOne K (.ref a.o) (.ref a.n)=some false
 ii:PySem.W.kitOne K (.ref a.j) (.ref a.j)=some true
 iI:PySem.W.kitOne K (.ref a.k) (.ref a.j)=some false
 ij:PySem.W.kitOne K (.ref a.l) (.ref a.j)=some false
 gG:PySem.W.kitOne K (.ref a.m) (.ref a.j)=some false
 iJ:PySem.W.kitOne K (.ref a.n) (.ref a.j)=some false
 io:PySem.W.kitOne K (.ref a.o) (.ref a.j)=some false
 gu:PySem.W.kitOne K (.ref a.f) (.ref a.g)=some false
 gA:PySem.W.kitOne K (.ref a.g) (.ref a.g)=some true
 gr:PySem.W.kitOne K (.ref a.f) (.ref a.f)=some true
 gv:PySem.W.kitOne K (.ref a.g) (.ref a.f)=some false
section
variable {P:Program} {w:World} {K:PySem.W.Frag} {mg:Str->Option Value} {base:Heap} {a:Ad} {f:Addr} {fd:FuncData}
def at0 {α:Type} {x:α} {xs:List α}:atI (x :: xs) 0=some x:=by
 have:=zy (xs:=x :: xs) (j:=0) rfl;simpa using this
noncomputable def iv (ns:List Int):List V:=ns.map V.int
noncomputable def kf (l1 l2:Addr):List (Str × V):=qh "outs" (.ref l2) (qh "ins" (.ref l1) [])
def zhw {l1 l2:Addr}:(kf l1 l2).lookup ("ins":Str)=some (.ref l1):=by
 unfold kf;rw [qg,am (by decide +kernel),qg,aq rfl]
def zgc {l1 l2:Addr}:(kf l1 l2).lookup ("outs":Str)=some (.ref l2):=by
 unfold kf;rw [qg,aq rfl]
def zbI {l1 l2:Addr}:(kf l1 l2).length < 1000:=by
 unfold kf;have:=xJ "outs" (V.ref l2) (qh "ins" (.ref l1) []);have:=xJ "ins" (V.ref l1) [];simp at *;omega
def zid {l1 l2:Addr} {m:Str} (h1:m≠"ins") (h2:m≠"outs"):(kf l1 l2).lookup m=none:=by
 unfold kf;rw [qg,am h2,qg,am h1];rfl
def Own (H H':Hp) (y:Addr):Prop:=∀ b o,b≠y->H b=some o->H' b=some o
def Same.own {H H':Hp} {y:Addr} (s:Same H H'):Own H H' y:=λ b o _ h=>s b o h
def Own.trans {H1 H2 H3:Hp} {y:Addr} (s:Own H1 H2 y) (t:Own H2 H3 y):Own H1 H3 y:=λ b o hb h=>t b o hb (s b o hb h)
def jm {H:Hp} {y:Addr} {o:HO}:Own H (upd H y o) y:=λ b u hb h=>by rw [upd_ne hb];exact h
def Own.of_new {H H':Hp} {y dx:Addr} {o p:HO} (hy:H y=none) (hd:H dx=none) (s:Own (upd (upd H dx o) y p) H' y):Same H H':=λ b u h =>
 s b u (ne_of_none h hy) (by rw [upd_ne (ne_of_none h hy),upd_ne (ne_of_none h hd)];exact h)
def z6 {H:Hp} {p b:Addr} {o:HO} (h:upd H p o b=none):H b=none:=by
 by_cases e:b=p
 ·subst e;rw [upd_same] at h;cases h
 ·rw [upd_ne e] at h;exact h
def JJ (K:PySem.W.Frag):Sp:=λ vs H Q _=>∃ (y C dx i o:Addr) (xs ys:List V),vs=[.ref y,.ref i,.ref o]/\H y=some (.ins C dx [])/\Cls K C/\NoAttr K C "ins"/\NoAttr K C "outs"/\SqL K H i xs/\SqL K H o ys/\i≠y/\o≠y /\
 ∀ H' l1 l2,Own H H' y->H' y=some (.ins C dx (kf l1 l2))->H' l1=some (.lst xs)->H' l2=some (.lst ys)->H l1=none->H l2=none->Q .non H'
def zb9 {H H':Hp} {y l:Addr} {xs:List V} (h:SqL K H l xs) (s:Own H H' y) (hl:l≠y):SqL K H' l xs:=by
 rcases h with h|h
 ·refine .inl ?_;rcases h with h|⟨ob,h⟩
  ·exact .inl (s _ _ hl h)
  ·exact .inr ⟨ob,s _ _ hl h⟩
 ·exact .inr h
def Vq (T:Txt K mg a) (F:Fun K "__init__" "Knot.__init__" qV f fd):FnOk P w K mg base (CXr P w) 1 f fd ["self","ins","outs"] (JJ K):=by
 refine F.okx Vd ?_ ?_
 ·walk_at "i"
 walk_at "k";obtain ⟨y,C,dx,i,o,xs,ys,rfl,hy,hC,hN1,hN2,hi,ho,hiy,hoy,k⟩:=h;walk_at "T";refine ⟨_,(zi (jy (pq 0) (wY vV xN (za (pq 1) zc)) rfl)  (ze (jy (pq 0) (wY vV xN (za (pq 2) zc)) rfl))),?_⟩;walk_at "go";refine ⟨i,xs,rfl,.inl hi,λ l1 h1=>?_⟩;walk_at "go";have y1:y≠l1:=ne_of_none hy h1;refine ⟨y,C,dx,[],rfl,upd_keep hy h1,hC,hN1,by decide,?_⟩;walk_at "go";have s1:Own H (upd (upd H l1 (.lst xs)) y (.ins C dx (qh "ins" (.ref l1) []))) y:=(Same.own (zg h1)).trans jm;refine ⟨o,ys,rfl,.inl (zb9 ho s1 hoy),λ l2 h2=>?_⟩;walk_at "go";have y2:y≠l2:=ne_of_none upd_same h2;have l12:l1≠l2:=λ z=>by
  rw [<- z,upd_ne (aZ y1),upd_same] at h2;cases h2
 refine ⟨y,C,dx,_,rfl,upd_keep upd_same h2,hC,hN2,by show 1 < 1000;decide,?_⟩;refine k _ l1 l2 (s1.trans ((Same.own (zg h2)).trans jm)) upd_same ?_ ?_ h1 ?_
 ·rw [upd_ne (aZ y1),upd_ne l12,upd_ne (aZ y1),upd_same]
 ·rw [upd_ne (aZ y2),upd_same]
 ·rw [upd_ne (aZ y2),upd_ne (aZ l12)] at h2;exact h2
def fO (T:Txt K mg a):BCal P w K mg base "Knot" "__init__" 1 ["self","ins","outs"] [] (JJ K):=T.fO.cal (Vq T)
def V4 (K:PySem.W.Frag) (a:Ad):Sp:=λ vs H Q E=>∃ (l:Addr) (xs:List V),vs=[.ref l]/\SqL K H l xs/\if 2<=xs.length/\xs.length<=4 then Q .non H else E (.ref a.d) none H
def wX (T:Txt K mg a):Cal P w K mg base "check_ways" 1 ["belts"] [] (V4 K a):=T.ki.cal λ F=>by
 refine F.okx XV ?_ ?_
 ·walk_at "i"
 walk_at "k";obtain ⟨l,xs,rfl,hl,k⟩:=h;walk_at "T";refine ⟨_,(ze (zD (qR (jx jZ jZ jq (zJ zS zQ (za (pq 0) zc)) jq))  (ze (qP ⟨rfl,rfl,rfl⟩ rfl (za qT zc)))  zp)),?_⟩;walk_at "go";obtain ⟨t1,g1⟩:=T.ke;obtain ⟨t2,g2⟩:=T.kX;have bad:¬ (2<=xs.length/\xs.length<=4)->∃ C,mg "BadKnot"=some (Value.ref C)/\XC K C/\E (Value.ref C) none H:=λ h=>by
  rw [am h] at k;exact ⟨a.d,T.gC,T.gD,k⟩
 refine ⟨.int 2,_,g1,⟨_,rfl⟩,?_⟩;walk_at "go";refine ⟨_,.inl ⟨_,hl,rfl⟩,?_⟩;walk_at "r";refine zI (λ h1=>?_) (λ h1=>bad (by omega));refine ⟨.int 4,_,g2,⟨_,rfl⟩,?_⟩;walk_at "r";refine zI (λ h2=>?_) (λ h2=>bad (by omega));rw [aq (by omega)] at k;exact k
def V6 (a:Ad):Sp:=λ vs H Q E=>∃ p q:Int,vs=[.int p,.int q]/\if q<=p/\p<=4 then Q .non H else E (.ref a.d) none H
def Z2 (T:Txt K mg a):Cal P w K mg base "check_pace" 1 ["pace","least"] [] (V6 a):=T.kg.cal λ F=>by
 refine F.okx XX ?_ ?_
 ·walk_at "i"
 walk_at "k";obtain ⟨p,q,rfl,k⟩:=h;walk_at "T";refine ⟨_,(ze (zD (qR (jx jZ jZ (pq 1) (pq 0) jq))  (ze (qP ⟨rfl,rfl,rfl⟩ rfl (za qT zc)))  zp)),?_⟩;walk_at "go";obtain ⟨t1,g1⟩:=T.iM;have bad:¬ (q<=p/\p<=4)->∃ C,mg "BadKnot"=some (Value.ref C)/\XC K C/\E (Value.ref C) none H:=λ h=>by
  rw [am h] at k;exact ⟨a.d,T.gC,T.gD,k⟩
 refine zI (λ h1=>?_) (λ h1=>bad (by omega));refine ⟨.int 4,_,g1,⟨_,rfl⟩,?_⟩;walk_at "go";refine zI (λ h2=>?_) (λ h2=>bad (by omega));rw [aq (by omega)] at k;walk_at "go";exact k
noncomputable abbrev jd:Int:=1000000000000000000000000000000
def V7 (a:Ad):Sp:=λ vs H Q E=>∃ n:Int,vs=[.int n]/\if 0<=n/\n < jd then Q .non H else E (.ref a.d) none H
def Z3 (T:Txt K mg a):Cal P w K mg base "check_kind" 1 ["kind"] [] (V7 a):=T.kh.cal λ F=>by
 refine F.okx XY ?_ ?_
 ·walk_at "i"
 walk_at "k";obtain ⟨n,rfl,k⟩:=h;walk_at "T";refine ⟨_,(ze (zD (qR (jx jZ zez zd (pq 0) zer))  (ze (qP ⟨rfl,rfl,rfl⟩ rfl (za qT zc)))  zp)),?_⟩;walk_at "go";have bad:¬ (0<=n/\n < jd)->∃ C,mg "BadKnot"=some (Value.ref C)/\XC K C/\E (Value.ref C) none H:=λ h=>by
  rw [am h] at k;exact ⟨a.d,iA3 T.gC T.gD k⟩
 refine zI (λ h1=>?_) (λ h1=>bad (by omega));walk_at "go";refine zI (λ h2=>?_) (λ h2=>bad (by unfold jd;omega));rw [aq (by unfold jd;omega)] at k;walk_at "go";exact k
noncomputable def Xz (bs:List Bool) (side:Nat):Nat->Nat->Option Nat
 | 0,_=>none
 | n + 1,k=>if bs.getD ((side + k) % bs.length) false=true then some ((side + k) % bs.length) else Xz bs side n (k + 1)
noncomputable def jC (bs:List Bool) (side:Nat):Option Nat:=Xz bs side bs.length 0
noncomputable def vX:Option Nat->V
 | none=>.non
 | some n=>.int n
theorem zcr {bs:List Bool} {side:Nat} (h:0 < bs.length):∀ {n k p:Nat},Xz bs side n k=some p->p < bs.length
 | 0,_,_,e=>by simp [Xz] at e
 | n + 1,k,p,e=>by
  unfold Xz at e
  split at e
  ·cases e;exact db _ h
  ·exact zcr h e
def wq {bs:List Bool} {side p:Nat} (e:jC bs side=some p):p < bs.length:=by
 by_cases h:0 < bs.length
 ·exact zcr h e
 ·unfold jC at e;rw [show bs.length=0 by omega] at e;simp [Xz] at e
def WR (K:PySem.W.Frag):Sp:=λ vs H Q _=>∃ (l:Addr) (bs:List Bool) (side:Nat),vs=[.ref l,.int side]/\SqL K H l (bs.map V.bl)/\bs.length<=1000/\Q (vX (jC bs side)) H
theorem Zg (T:Txt K mg a):Cal P w K mg base "first_place" 1 ["wanted","side"] [] (WR K):=T.iY.cal λ F=>by
 refine F.okx JQ ?_ ?_
 ·walk_at "i"
 walk_at "k";refine oE3 h λ l bs side z1_=>oA4 z1_ λ z2_ hl hb k=>?_;clear h;subst z2_;walk_at "T";refine ⟨_,(zi (qK ji rfl (wN (za (zJ zS zQ (za (pq 0) zc)) zc)) (qk 2 JQ.nd)  (zi (zx 3 JQ.nd (zR jA (zR qq (pq 1) (pq 2)) (zJ zS zQ (za (pq 0) zc))))  (ze (zD (z7 (zr (pq 0) (pq 3)) (λ _=>rfl))  (ze (zj (pq 3)))  zp))))  (ze (zj zv))),?_⟩;walk_at "for";walk_at "go";refine ⟨_,iA4 (.inl ⟨_,hl,rfl⟩) (by omega) (by rw [ai];omega) ?_⟩;refine Zd (λ i σ H'=>∃ v2 v3,σ=[some (.ref l),some (.int side),v2,v3]/\H'=H/\Q (vX (Xz bs side (bs.length - i) i)) H) (iE2 _ _ (iA3 rfl rfl k)) ?_ ?_
 ·intro i σ H' hi zz_;refine oE2 zz_ λ v2 v3 z1_=>oA3 z1_ λ z2_ z3_ k=>?_;clear zz_;subst z2_ z3_;have hi:i < bs.length:=by simpa using hi
  walk_at "go";refine ⟨_,.inl ⟨_,hl,rfl⟩,?_⟩;walk_at "r";rw [ai];refine And.intro (by omega) ?_;have e:((side:Int) + (0 + (i:Int))) % (bs.length:Int)=(((side + i) % bs.length:Nat):Int):=by push_cast;rw [dc]
  rw [e];have hlt:(side + i) % bs.length < bs.length:=db _ (by omega);refine zn hl (zy (by rw [aj,ac hlt];rfl)) ?_;walk_at "r";have em:bs.length - i=(bs.length - (i + 1)) + 1:=by omega
  rw [em,Xz] at k;have eg:bs.getD ((side + i) % bs.length) false=bs[(side + i) % bs.length]:=by simp [hlt]
  rw [eg] at k;cases hbb:bs[(side + i) % bs.length] with
  | true =>
   rw [hbb,aq rfl] at k;walk_at "r";exact k
  | false =>
   rw [hbb,am (by decide)] at k;walk_at "r"
   first|exact ⟨_,_,rfl,rfl,k⟩|exact ⟨_,_,rfl,k⟩|exact k
 ·intro σ H' zz_;refine oE2 zz_ λ v2 v3 z1_=>oA3 z1_ λ z2_ z3_ k=>?_;clear zz_;subst z2_ z3_;walk_at "r";simpa [Xz,vX] using k
def za6 (K:PySem.W.Frag):Sp:=λ vs H Q _=>∃ (v:V) (l:Addr) (bs:List Bool) (side:Nat),vs=[v,.ref l,.int side]/\SqL K H l (bs.map V.bl)/\bs.length<=1000/\Q (if v=.non then .non else vX (jC bs side)) H
def wu (T:Txt K mg a):Cal P w K mg base "place_for_ware" 2 ["head","free","side"] [] (za6 K):=T.hZ.cal λ F=>by
 refine F.okx ZJ ?_ ?_
 ·walk_at "i"
 walk_at "k";obtain ⟨v,l,bs,side,rfl,hl,hb,k⟩:=h;walk_at "T";refine ⟨_,(ze (zj (jQ (zo qL (pq 0) zv (zq _)) zv (zt ⟨rfl,rfl,rfl⟩ hr (za (pq 1) (za (pq 2) zc)))))),?_⟩;walk_at "go";refine zI (λ h=>?_) (λ h=>?_)
 ·rw [aq h] at k;walk_at "r";exact k
 ·rw [am h] at k;walk_at "r";exact ⟨_,_,_,Zg T,l,bs,side,rfl,hl,hb,k⟩
def qG (K:PySem.W.Frag) (C CB:Addr):Sp:=λ vs H Q E=>∃ (y dx o:Addr) (into:V) (ys:List V),vs=[.ref y,into,.ref o]/\H y=some (.ins C dx [])/\SqL K H o ys/\o≠y /\
 if 2<=ys.length/\ys.length<=4 then ∀ H' l1 l2,Own H H' y->H' y=some (.ins C dx (kf l1 l2))->H' l1=some (.lst [into])->H' l2=some (.lst ys)->H l1=none->H l2=none->Q .non H' else E (.ref CB) none H
def Xh (T:Txt K mg a) (F:Fun K "__init__" "Parter.__init__" jK f fd):FnOk P w K mg base (CXr P w) 2 f fd ["self","into","outs"] (qG K a.l a.d):=by
 refine F.okx JV ?_ ?_
 ·walk_at "i"
 walk_at "k";obtain ⟨y,dx,o,into,ys,rfl,hy,ho,hoy,k⟩:=h;walk_at "T";refine ⟨_,(zi (zA (zt ⟨rfl,rfl,rfl⟩ hr (za (pq 2) zc)))  (ze (zA (vP ⟨rfl,rfl,rfl⟩ hr (za (pq 0) (za (zC (za (pq 1) zc)) (za (pq 2) zc))))))),?_⟩;walk_at "go";refine ⟨_,_,_,wX T,o,ys,rfl,ho,zI (λ hok=>?_) (λ hok=>?_)⟩
 ·rw [aq hok] at k;walk_at "go";refine ⟨_,_,_,fO T,λ p hp=>⟨y,a.l,dx,p,o,[into],ys,rfl,upd_keep hy hp,T.gi,T.gI,T.gc,SqL.of upd_same,(zg hp).seq ho,(ne_of_none hy hp).symm,hoy,λ H' l1 l2 s h1 h2 h3 h4 h5=>?_⟩⟩;exact k H' l1 l2 ((Same.own (zg hp)).trans s) h1 h2 h3 (z6 h4) (z6 h5)
 ·rw [am hok] at k;exact k
def ZW (T:Txt K mg a):KCal P w K mg base "Parter" a.l 2 ["self","into","outs"] [] (qG K a.l a.d):=T.i8.cal T.mf (Xh T)
def vY (T:Txt K mg a) (F:Fun K "__init__" "FirstParter.__init__" qI f fd):FnOk P w K mg base (CXr P w) 2 f fd ["self","into","outs"] (qG K a.m a.d):=by
 refine F.okx vW ?_ ?_
 ·walk_at "i"
 walk_at "k";obtain ⟨y,dx,o,into,ys,rfl,hy,ho,hoy,k⟩:=h;walk_at "T";refine ⟨_,(zi (zA (zt ⟨rfl,rfl,rfl⟩ hr (za (pq 2) zc)))  (ze (zA (vP ⟨rfl,rfl,rfl⟩ hr (za (pq 0) (za (zC (za (pq 1) zc)) (za (pq 2) zc))))))),?_⟩;walk_at "go";refine ⟨_,_,_,wX T,o,ys,rfl,ho,zI (λ hok=>?_) (λ hok=>?_)⟩
 ·rw [aq hok] at k;walk_at "go";refine ⟨_,_,_,fO T,λ p hp=>⟨y,a.m,dx,p,o,[into],ys,rfl,upd_keep hy hp,T.fS,T.fY,T.fX,SqL.of upd_same,(zg hp).seq ho,(ne_of_none hy hp).symm,hoy,λ H' l1 l2 s h1 h2 h3 h4 h5=>?_⟩⟩;exact k H' l1 l2 ((Same.own (zg hp)).trans s) h1 h2 h3 (z6 h4) (z6 h5)
 ·rw [am hok] at k;exact k
def jM (T:Txt K mg a):KCal P w K mg base "FirstParter" a.m 2 ["self","into","outs"] [] (qG K a.m a.d):=T.gW.cal T.i6 (vY T)
noncomputable def vf (l1 l2:Addr) (n:Int):List (Str × V):=qh "kind" (.int n) (kf l1 l2)
def zfw {l1 l2:Addr} {n:Int}:(vf l1 l2 n).lookup ("kind":Str)=some (.int n):=by
 unfold vf;rw [qg,aq rfl]
def zgB {l1 l2:Addr} {n:Int} {m:Str} (h1:m≠"ins") (h2:m≠"outs") (h3:m≠"kind"):(vf l1 l2 n).lookup m=none:=by
 unfold vf;rw [qg,am h3];exact zid h1 h2
def vd (K:PySem.W.Frag) (C CB:Addr):Sp:=λ vs H Q E=>∃ (y dx o:Addr) (into:V) (ys:List V) (n:Int),vs=[.ref y,into,.ref o,.int n]/\H y=some (.ins C dx [])/\SqL K H o ys/\o≠y /\
 if ys.length=2/\0<=n/\n < jd then ∀ H' l1 l2,Own H H' y->H' y=some (.ins C dx (vf l1 l2 n))->H' l1=some (.lst [into])->H' l2=some (.lst ys)->H l1=none->H l2=none->Q .non H' else E (.ref CB) none H
def X5 (T:Txt K mg a) (F:Fun K "__init__" "Sieve.__init__" xb f fd):FnOk P w K mg base (CXr P w) 2 f fd ["self","into","outs","kind"] (vd K a.n a.d):=by
 refine F.okx X1 ?_ ?_
 ·walk_at "i"
 walk_at "k";refine oE6 h λ y dx o into ys n z1_=>oA5 z1_ λ z2_ hy ho hoy k=>?_;clear h;subst z2_;walk_at "T";refine ⟨_,(zi (zD (zo (vZ hr.units1) (zJ zS zQ (za (pq 2) zc)) zd (zq _))  (ze (qP ⟨rfl,rfl,rfl⟩ rfl (za qT zc)))  zp)  (zi (zA (zt ⟨rfl,rfl,rfl⟩ hr (za (pq 3) zc)))  (zi (zA (vP ⟨rfl,rfl,rfl⟩ hr (za (pq 0) (za (zC (za (pq 1) zc)) (za (pq 2) zc)))))  (ze (jy (pq 0) (pq 3) rfl))))),?_⟩;walk_at "go";refine ⟨_,.inl ⟨_,ho,rfl⟩,?_⟩;walk_at "go";refine zI (λ h1=>?_) (λ h1=>?_)
 ·rw [am (by omega)] at k;exact ⟨a.d,iA3 T.gC T.gD k⟩
 ·refine iE3 _ _ _ ⟨Z3 T,⟨n,rfl,zI (λ hok=>?_) (λ hok=>?_)⟩⟩
  ·rw [aq ⟨by omega,hok⟩] at k;walk_at "go";refine iE3 _ _ _ ⟨fO T,λ p hp=>(iE7 y a.n dx p o ([into]) ys (iA6 rfl (upd_keep hy hp) T.fN T.gU T.fV (iA5 (SqL.of upd_same) ((zg hp).seq ho) ((ne_of_none hy hp).symm) hoy (λ H' l1 l2 s h1 h2 h3 h4 h5=>?_))))⟩;walk_at "go";refine iE4 y a.n dx _ (iA6 rfl h1 T.fN T.gj zbI ?_);exact k _ l1 l2 (((Same.own (zg hp)).trans s).trans jm) upd_same (by rw [upd_ne (QO h2 h1 (by intro z;cases z))];exact h2) (by rw [upd_ne (QO h3 h1 (by intro z;cases z))];exact h3) (z6 h4) (z6 h5)
  ·rw [am (λ z=>hok z.2)] at k;exact k
def zck (T:Txt K mg a):KCal P w K mg base "Sieve" a.n 2 ["self","into","outs","kind"] [] (vd K a.n a.d):=T.kA.cal T.kI (X5 T)
def jt (K:PySem.W.Frag) (C CB:Addr):Sp:=λ vs H Q E=>∃ (y dx o:Addr) (out:V) (ys:List V),vs=[.ref y,.ref o,out]/\H y=some (.ins C dx [])/\SqL K H o ys/\o≠y /\
 if 2<=ys.length/\ys.length<=4 then ∀ H' l1 l2,Own H H' y->H' y=some (.ins C dx (kf l1 l2))->H' l1=some (.lst ys)->H' l2=some (.lst [out])->H l1=none->H l2=none->Q .non H' else E (.ref CB) none H
def Xi (T:Txt K mg a) (F:Fun K "__init__" "Joiner.__init__" jL f fd):FnOk P w K mg base (CXr P w) 2 f fd ["self","ins","out"] (jt K a.o a.d):=by
 refine F.okx JW ?_ ?_
 ·walk_at "i"
 walk_at "k";obtain ⟨y,dx,o,out,ys,rfl,hy,ho,hoy,k⟩:=h;walk_at "T";refine ⟨_,(zi (zA (zt ⟨rfl,rfl,rfl⟩ hr (za (pq 1) zc)))  (ze (zA (vP ⟨rfl,rfl,rfl⟩ hr (za (pq 0) (za (pq 1) (za (zC (za (pq 2) zc)) zc))))))),?_⟩;walk_at "go";refine ⟨_,_,_,wX T,o,ys,rfl,ho,zI (λ hok=>?_) (λ hok=>?_)⟩
 ·rw [aq hok] at k;walk_at "go";refine ⟨_,_,_,fO T,λ p hp=>⟨y,a.o,dx,o,p,ys,[out],rfl,upd_keep hy hp,T.gk,T.gm,T.gz,(zg hp).seq ho,SqL.of upd_same,hoy,(ne_of_none hy hp).symm,λ H' l1 l2 s h1 h2 h3 h4 h5=>?_⟩⟩;exact k H' l1 l2 ((Same.own (zg hp)).trans s) h1 h2 h3 (z6 h4) (z6 h5)
 ·rw [am hok] at k;exact k
def ZX (T:Txt K mg a):KCal P w K mg base "Joiner" a.o 2 ["self","ins","out"] [] (jt K a.o a.d):=T.ka.cal T.k8 (Xi T)
noncomputable def df (l1 l2:Addr) (p:Int):List (Str × V):=qh "pace" (.int p) (kf l1 l2)
def VF {l1 l2:Addr} {p:Int}:(df l1 l2 p).lookup ("pace":Str)=some (.int p):=by
 unfold df;rw [qg,aq rfl]
theorem ZP (f:Str) (v:V):∀ fs:List (Str × V),(qh f v fs).length<=fs.length + 1
 | []=>by simp [qh]
 | (g,x) :: r=>by
  unfold qh
  split
  ·simp
  ·have:=ZP f v r;simp;omega
def zgd {l1 l2:Addr}:(kf l1 l2).length<=2:=by
 unfold kf;have h1:=ZP "outs" (V.ref l2) (qh "ins" (.ref l1) []);have h2:=ZP "ins" (V.ref l1) [];simp only [length_nil] at h2;omega
def zhI {l1 l2:Addr} {p:Int}:(df l1 l2 p).length < 1000:=by
 unfold df;have h1:=ZP "pace" (V.int p) (kf l1 l2);have h2:=zgd (l1:=l1) (l2:=l2);omega
def xB (C CB:Addr):Sp:=λ vs H Q E=>∃ (y dx:Addr) (into:V) (p:Int),vs=[.ref y,into,.int p]/\H y=some (.ins C dx []) /\
 if 0<=p/\p<=4 then ∀ H' l1 l2,Own H H' y->H' y=some (.ins C dx (df l1 l2 p))->H' l1=some (.lst [into])->H' l2=some (.lst [])->H l1=none->H l2=none->Q .non H' else E (.ref CB) none H
def X6 (T:Txt K mg a) (F:Fun K "__init__" "Drain.__init__" xf f fd):FnOk P w K mg base (CXr P w) 2 f fd ["self","into","pace"] (xB a.k a.d):=by
 refine F.okx X2 ?_ ?_
 ·walk_at "i"
 walk_at "k";obtain ⟨y,dx,into,p,rfl,hy,k⟩:=h;walk_at "T";refine ⟨_,(zi (zA (zt ⟨rfl,rfl,rfl⟩ hr (za (pq 2) (za zd zc))))  (zi (zA (vP ⟨rfl,rfl,rfl⟩ hr (za (pq 0) (za (zC (za (pq 1) zc)) (za (zC zc) zc)))))  (ze (jy (pq 0) (pq 2) rfl)))),?_⟩;walk_at "go";refine ⟨_,_,_,Z2 T,p,0,rfl,zI (λ hok=>?_) (λ hok=>?_)⟩
 ·rw [aq hok] at k;walk_at "go";refine ⟨_,_,_,fO T,λ q1 hq1 q2 hq2=>?_⟩;have n12:q1≠q2:=ne_of_none upd_same hq2;have hy2:=upd_keep (o:=.lst []) (upd_keep (o:=.lst [into]) hy hq1) hq2;refine ⟨y,a.k,dx,q1,q2,[into],[],rfl,hy2,T.f9,T.gS,T.ib,SqL.of (upd_keep upd_same hq2),SqL.of upd_same,(ne_of_none hy hq1).symm,(ne_of_none (upd_keep hy hq1) hq2).symm,λ H' l1 l2 s h1 h2 h3 h4 h5=>?_⟩;walk_at "go";refine ⟨y,a.k,dx,_,rfl,h1,T.f9,T.fU,zbI,?_⟩;exact k _ l1 l2 (((Same.own ((zg hq1).trans (zg hq2))).trans s).trans jm) upd_same (by rw [upd_ne (QO h2 h1 (by intro z;cases z))];exact h2) (by rw [upd_ne (QO h3 h1 (by intro z;cases z))];exact h3) (z6 (z6 h4)) (z6 (z6 h5))
 ·rw [am hok] at k;exact k
def wT (T:Txt K mg a):KCal P w K mg base "Drain" a.k 2 ["self","into","pace"] [] (xB a.k a.d):=T.kz.cal T.hX (X6 T)
noncomputable def sf (l1 l2:Addr) (p:Int) (l3:Addr):List (Str × V):=qh "kinds" (.ref l3) (df l1 l2 p)
def zfJ {l1 l2 l3:Addr} {p:Int}:(sf l1 l2 p l3).lookup ("pace":Str)=some (.int p):=by
 unfold sf;rw [qg,am (by decide +kernel)];exact VF
def wy (ks:List Int):Prop:=∀ n∈ks,0<=n/\n < jd
def wB (K:PySem.W.Frag) (C CB:Addr):Sp:=λ vs H Q E=>∃ (y dx l:Addr) (out:V) (p:Int) (ks:List Int),vs=[.ref y,out,.int p,.ref l]/\H y=some (.ins C dx [])/\SqL K H l (ks.map V.int)/\l≠y /\
 ((1<=p/\p<=4/\1<=ks.length/\ks.length<=6/\wy ks->∀ H' l1 l2 l3,Own H H' y->H' y=some (.ins C dx (sf l1 l2 p l3))->H' l1=some (.lst [])->H' l2=some (.lst [out])->H' l3=some (.lst (ks.map V.int))->H l1=none->H l2=none->H l3=none->Q .non H') /\
   (¬ (1<=p/\p<=4/\1<=ks.length/\ks.length<=6/\wy ks)->E (.ref CB) none H))
theorem Xg (T:Txt K mg a) (F:Fun K "__init__" "Source.__init__" jJ f fd):FnOk P w K mg base (CXr P w) 2 f fd ["self","out","pace","kinds"] (wB K a.j a.d):=by
 refine F.okx JU ?_ ?_
 ·walk_at "i"
 walk_at "k";refine oE6 h λ y dx l out p ks z1_=>oA6 z1_ λ z2_ hy hl hly kok kbad=>?_;clear h;subst z2_;obtain ⟨t1,g1⟩:=T.kD;walk_at "T";refine ⟨_,(zi (zA (zt ⟨rfl,rfl,rfl⟩ hr (za (pq 2) (za zd zc))))  (zi (zD (qR (jx jZ jZ zd (zJ zS zQ (za (pq 3) zc)) jq))  (ze (qP ⟨rfl,rfl,rfl⟩ rfl (za qT zc)))  zp)  (zi (qK ji rfl (qd (pq 3)) (qk 4 JU.nd)  (ze (zA (zt ⟨rfl,rfl,rfl⟩ hr (za (pq 4) zc)))))  (zi (zA (vP ⟨rfl,rfl,rfl⟩ hr (za (pq 0) (za (zC zc) (za (zC (za (pq 1) zc)) zc)))))  (zi (jy (pq 0) (pq 2) rfl)  (ze (jy (pq 0) (wY vV xN (za (pq 3) zc)) rfl))))))),?_⟩;walk_at "go";refine iE3 _ _ _ ⟨Z2 T,⟨p,1,rfl,zI (λ hp=>?_) (λ hp=>kbad λ z=>hp ⟨z.1,z.2.1⟩)⟩⟩;walk_at "go";refine ⟨_,.inl ⟨_,hl,rfl⟩,?_⟩;rw [ai];walk_at "go";have bad:¬ (1<=ks.length/\ks.length<=6)->∃ C,mg "BadKnot"=some (Value.ref C)/\XC K C/\E (Value.ref C) none H:=λ h=>⟨a.d,T.gC,T.gD,kbad λ z=>h ⟨z.2.2.1,z.2.2.2.1⟩⟩;refine zI (λ h1=>?_) (λ h1=>bad (by omega));refine iE2 (.int 6) _ (iA3 g1 ⟨_,rfl⟩ ?_);walk_at "go";refine zI (λ h2=>?_) (λ h2=>bad (by omega));walk_at "for";refine ⟨l,rfl,.inl ⟨⟨_,hl⟩,?_⟩⟩;refine qE (K:=K) (a:=l) (xs:=ks.map V.int) (λ i σ H'=>∃ v4,σ=[some (.ref y),some out,some (.int p),some (.ref l),v4]/\H'=H/\wy (ks.take i)) ⟨_,iA3 rfl rfl (λ _ h=>nomatch h)⟩ (λ i σ H' _ ⟨_,_,e,_⟩=>e ▸ hl) ?_ ?_
 ·intro i x σ H' hi zz_;refine oE1 zz_ λ v4 z1_=>oA3 z1_ λ z2_ z3_ hk=>?_;clear zz_;subst z2_ z3_;rw [aj,av] at hi;obtain ⟨n,hn,rfl⟩:=hi;walk_at "go";refine iE3 _ _ _ ⟨Z3 T,⟨n,rfl,zI (λ hok=>?_) (λ hok=>kbad λ z=>hok (z.2.2.2.2 n (af hn)))⟩⟩;walk_at "go";have:wy (ks.take (i + 1)):=λ m hm=>by
   rw [fA,hn] at hm;rcases aD.mp hm with z|z
   ·exact hk m z
   ·have e:m=n:=by simpa using z
    rw [e];exact hok
  first|exact ⟨_,rfl,rfl,this⟩|exact ⟨_,rfl,this⟩
 ·intro σ H' zz_;refine oE1 zz_ λ v4 z1_=>oA3 z1_ λ z2_ z3_ hk=>?_;clear zz_;subst z2_ z3_;rw [ai,aS] at hk;have kok:=kok ⟨hp.1,hp.2,by omega,by omega,hk⟩;walk_at "go";refine iE3 _ _ _ ⟨fO T,λ q1 hq1 q2 hq2=>?_⟩;have hy2:=upd_keep (o:=.lst [out]) (upd_keep (o:=.lst []) hy hq1) hq2;have s12:Same H' (upd (upd H' q1 (.lst [])) q2 (.lst [out])):=(zg hq1).trans (zg hq2);refine iE7 y a.j dx q1 q2 ([]) ([out]) (iA6 rfl hy2 T.fT T.ia T.gy (iA5 (SqL.of (upd_keep upd_same hq2)) (SqL.of upd_same) ((ne_of_none hy hq1).symm) ((ne_of_none (upd_keep hy hq1) hq2).symm) (λ H2 l1 l2 s h1 h2 h3 h4 h5=>?_)));walk_at "go";refine iE4 y a.j dx _ (iA6 rfl h1 T.fT T.gb zbI ?_);walk_at "go";have s3:Own H' (upd H2 y (.ins a.j dx (df l1 l2 p))) y:=((Same.own s12).trans s).trans jm;have h2':upd H2 y (.ins a.j dx (df l1 l2 p)) l1=some (.lst []):=by rw [upd_ne (QO h2 h1 (by intro z;cases z))];exact h2
  have h3':upd H2 y (.ins a.j dx (df l1 l2 p)) l2=some (.lst [out]):=by rw [upd_ne (QO h3 h1 (by intro z;cases z))];exact h3
  refine iE2 l _ (iA3 rfl (.inl (zb9 hl s3 hly)) (λ l3 hl3=>?_));walk_at "go";have hy3:upd (upd H2 y (.ins a.j dx (df l1 l2 p))) l3 (.lst (ks.map V.int)) y=some (.ins a.j dx (df l1 l2 p)):=upd_keep upd_same hl3;refine iE4 y a.j dx _ (iA6 rfl hy3 T.fT T.fZ zhI ?_);have n1:l1≠y:=QO h2 h1 (by intro z;cases z);have n2:l2≠y:=QO h3 h1 (by intro z;cases z);have n3:l3≠y:=(ne_of_none (upd_same (H:=H2)) hl3).symm;refine kok _ l1 l2 l3 ((s3.trans (Same.own (zg hl3))).trans jm) upd_same ?_ ?_ ?_ (z6 (z6 h4)) (z6 (z6 h5)) ?_
  ·rw [upd_ne n1];exact upd_keep h2' hl3
  ·rw [upd_ne n2];exact upd_keep h3' hl3
  ·rw [upd_ne n3];exact upd_same
  ·cases e:H' l3 with
   | none=>rfl
   | some o=>exact absurd (hl3.symm.trans (s3 l3 o n3 e)) (by intro z;cases z)
def wo (T:Txt K mg a):KCal P w K mg base "Source" a.j 2 ["self","out","pace","kinds"] [] (wB K a.j a.d):=T.i7.cal T.kZ (Xg T)
noncomputable def bf (rm pc:Int):List (Str × V):=qh "pace" (.int pc) (qh "room" (.int rm) [])
abbrev zu (rm pc:Int):Prop:=1<=rm/\rm<=6/\1<=pc/\pc<=4
def Zk (C CB:Addr):Sp:=λ vs H Q E=>∃ (y dx:Addr) (rm pc:Int),vs=[.ref y,.int rm,.int pc]/\H y=some (.ins C dx [])/\if zu rm pc then Q .non (upd H y (.ins C dx (bf rm pc))) else E (.ref CB) none H
def Vs (T:Txt K mg a) (F:Fun K "__init__" "Belt.__init__" xG f fd):FnOk P w K mg base (CXr P w) 1 f fd ["self","room","pace"] (Zk a.h a.c):=by
 refine F.okx Ve ?_ ?_
 ·walk_at "i"
 walk_at "k";refine oE4 h λ y dx rm pc z1_=>oA3 z1_ λ z2_ hy k=>?_;clear h;subst z2_;obtain ⟨t1,g1⟩:=T.kW;obtain ⟨t2,g2⟩:=T.iM;walk_at "T";refine ⟨_,(zi (zD (qR (jx jZ jZ zd (pq 1) jq))  (ze (qP ⟨rfl,rfl,rfl⟩ rfl (za qT zc)))  zp)  (zi (zD (qR (jx jZ jZ zd (pq 2) jq))  (ze (qP ⟨rfl,rfl,rfl⟩ rfl (za qT zc)))  zp)  (zi (jy (pq 0) (pq 1) rfl)  (ze (jy (pq 0) (pq 2) rfl))))),?_⟩;walk_at "go";have bad:¬ zu rm pc->∃ C,mg "BadBelt"=some (Value.ref C)/\XC K C/\E (Value.ref C) none H:=λ h=>by
  rw [am h] at k;exact ⟨a.c,iA3 T.lT T.lU k⟩
 refine zI (λ h1=>?_) (λ h1=>bad (by unfold zu;omega));refine iE2 (.int 6) _ (iA3 g1 ⟨_,rfl⟩ ?_);walk_at "go";refine zI (λ h2=>?_) (λ h2=>bad (by unfold zu;omega));walk_at "go";refine zI (λ h3=>?_) (λ h3=>bad (by unfold zu;omega));refine iE2 (.int 4) _ (iA3 g2 ⟨_,rfl⟩ ?_);walk_at "go";refine zI (λ h4=>?_) (λ h4=>bad (by unfold zu;omega));rw [aq (by unfold zu;omega)] at k;walk_at "go";refine iE4 y a.h dx ([]) (iA6 rfl hy T.gH T.gw (by decide) ?_);walk_at "go";refine iE4 y a.h dx _ (iA6 rfl upd_same T.gH T.gx (by show 1 < 1000;decide) ?_);rw [ZH];exact k
def Zy (T:Txt K mg a):KCal P w K mg base "Belt" a.h 1 ["self","room","pace"] [] (Zk a.h a.c):=T.kS.cal T.mB (Vs T)
def qo {H:Hp} {y dx b C:Addr} {u:HO} (hy:H y=none) (hdx:H dx=none) (h:H b=some u):upd (upd H dx (.own y)) y (.ins C dx []) b=some u:=by
 rw [upd_ne (ne_of_none h hy),upd_ne (ne_of_none h hdx)];exact h
def zL {H:Hp} {y dx b:Addr} {o p:HO} (h:upd (upd H dx o) y p b=none):H b=none:=z6 (z6 h)
theorem zK {H H':Hp} {b:Addr} (s:Same H H') (h:H' b=none):H b=none:=by
 cases e:H b with
 | none=>rfl
 | some o=>rw [s b o e] at h;cases h
inductive Wd|source|drain|parter|first|sieve|joiner
deriving DecidableEq
noncomputable def wt (a:Ad):Wd->Addr
 | .source=>a.j
 | .drain=>a.k
 | .parter=>a.l
 | .first=>a.m
 | .sieve=>a.n
 | .joiner=>a.o
structure Row where
 wd:Wd
 ins:List Int
 outs:List Int
 pace:Int
 kinds:List Int
def Row.ok (r:Row):Prop:=match r.wd with
 | .source=>r.ins=[]/\(∃ o,r.outs=[o])/\1<=r.pace/\r.pace<=4/\1<=r.kinds.length/\r.kinds.length<=6/\wy r.kinds
 | .drain=>(∃ i,r.ins=[i])/\r.outs=[]/\0<=r.pace/\r.pace<=4
 | .parter=>(∃ i,r.ins=[i])/\2<=r.outs.length/\r.outs.length<=4
 | .first=>(∃ i,r.ins=[i])/\2<=r.outs.length/\r.outs.length<=4
 | .sieve=>(∃ i,r.ins=[i])/\r.outs.length=2/\∃ k,r.kinds=[k]/\0<=k/\k < jd
 | .joiner=>(∃ o,r.outs=[o])/\2<=r.ins.length/\r.ins.length<=4
noncomputable def zaA (r:Row):List (Str × D):=match r.wd with
 | .source=>[("pace",.int r.pace),("kinds",.ints r.kinds)]
 | .drain=>[("pace",.int r.pace)]
 | .sieve=>[("kind",.int (r.kinds.headD 0))]
 | _=>[]
noncomputable def Xr (r:Row):List (Str × D):=("ins",.ints r.ins) :: ("outs",.ints r.outs) :: zaA r
noncomputable def vH (a:Ad) (r:Row):D:=.ob (wt a r.wd) (Xr r)
noncomputable def j8 (a:Ad) (b:Int × Int):D:=.ob a.h [("room",.int b.1),("pace",.int b.2)]
def qZ {α:Type} {f:Str} {x:α} {r:List (Str × α)}:((f,x) :: r).lookup f=some x:=by simp [List.lookup]
def zM {α:Type} {f g:Str} {x:α} {r:List (Str × α)} (h:f≠g):((g,x) :: r).lookup f=r.lookup f:=by
 have hb:(f == g)=false:=a9.mpr h;simp [List.lookup,hb]
def zga (r:Row):(Xr r).lookup ("ins":Str)=some (.ints r.ins):=qZ
def zeO (r:Row):(Xr r).lookup ("outs":Str)=some (.ints r.outs):=(zM (by decide +kernel)).trans qZ
def zeN {r:Row} (h:r.wd=.source\/r.wd=.drain):(Xr r).lookup ("pace":Str)=some (.int r.pace):=by
 refine (zM (by decide +kernel)).trans ((zM (by decide +kernel)).trans ?_);unfold zaA;rcases h with h|h <;> (rw [h];exact qZ)
def zdn {r:Row} (h:r.wd=.source):(Xr r).lookup ("kinds":Str)=some (.ints r.kinds):=by
 refine (zM (by decide +kernel)).trans ((zM (by decide +kernel)).trans ?_);unfold zaA;rw [h];exact (zM (by decide +kernel)).trans qZ
def zeQ {r:Row} {k:Int} (h:r.wd=.sieve) (e:r.kinds=[k]):(Xr r).lookup ("kind":Str)=some (.int k):=by
 refine (zM (by decide +kernel)).trans ((zM (by decide +kernel)).trans ?_);unfold zaA;rw [h,e];exact qZ
def zeP {r:Row} {f:Str} (h1:f≠"ins") (h2:f≠"outs") (h3:f≠"pace") (h4:f≠"kinds") (h5:f≠"kind"):(Xr r).lookup f=none:=by
 refine (zM h1).trans ((zM h2).trans ?_);unfold zaA
 split
 ·exact (zM h3).trans (zM h4)
 ·exact zM h3
 ·exact zM h5
 ·rfl
def KnP (a:Ad) (H:Hp) (p:Addr->Prop) (v:V) (r:Row):Prop:=Rep H p v (vH a r)
def KnP.keep {H H':Hp} {p q:Addr->Prop} {v:V} {r:Row} (h:KnP a H p v r) (s:∀ b o,p b->H b=some o->q b/\H' b=some o):KnP a H' q v r:=Rep.keep s h
def KnP.inv {H:Hp} {p:Addr->Prop} {v:V} {r:Row} (h:KnP a H p v r):∃ y dx l1 l2 l3 fs,v=.ref y/\p y/\p l1/\p l2/\(r.wd=.source->p l3)/\H y=some (.ins (wt a r.wd) dx fs)/\fs.lookup ("ins":Str)=some (.ref l1)/\fs.lookup ("outs":Str)=some (.ref l2) /\
  fs.lookup ("copied":Str)=none/\H l1=some (.lst (iv r.ins))/\H l2=some (.lst (iv r.outs))/\(r.wd=.source->fs.lookup ("kinds":Str)=some (.ref l3)/\H l3=some (.lst (iv r.kinds)))/\((r.wd=.source\/r.wd=.drain)->fs.lookup ("pace":Str)=some (.int r.pace)):=by
 obtain ⟨y,dx,fs,rfl,py,hy,g1,g2⟩:=Rep.ob' h;obtain ⟨u1,e1,r1⟩:=g1 _ _ (zga r);obtain ⟨l1,rfl,p1,h1⟩:=r1.ints';obtain ⟨u2,e2,r2⟩:=g1 _ _ (zeO r);obtain ⟨l2,rfl,p2,h2⟩:=r2.ints';have e3:=g2 ("copied":Str) (zeP (by decide +kernel) (by decide +kernel) (by decide +kernel) (by decide +kernel) (by decide +kernel));have pc:(r.wd=.source\/r.wd=.drain)->fs.lookup ("pace":Str)=some (.int r.pace):=λ z=>by
  obtain ⟨u,e,ru⟩:=g1 _ _ (zeN z);cases ru;exact e
 by_cases hs:r.wd=.source
 ·obtain ⟨u3,e4,r3⟩:=g1 _ _ (zdn hs);obtain ⟨l3,rfl,p3,h3⟩:=r3.ints';exact ⟨y,dx,l1,l2,l3,fs,rfl,py,p1,p2,λ _=>p3,hy,e1,e2,e3,h1,h2,λ _=>⟨e4,h3⟩,pc⟩
 ·exact ⟨y,dx,l1,l2,l1,fs,rfl,py,p1,p2,λ z=>absurd z hs,hy,e1,e2,e3,h1,h2,λ z=>absurd z hs,pc⟩
def Xs {l1 l2:Addr}:kf l1 l2=([(("ins":Str),V.ref l1),(("outs":Str),V.ref l2)]:List (Str × V)):=by
 unfold kf;simp only [qh];rw [am (by decide +kernel)]
def ze9 {l1 l2:Addr} {n:Int}:df l1 l2 n=([(("ins":Str),V.ref l1),(("outs":Str),V.ref l2),(("pace":Str),V.int n)]:List (Str × V)):=by
 unfold df;rw [Xs];simp only [qh];rw [am (by decide +kernel),am (by decide +kernel)]
def zgH {l1 l2 l3:Addr} {n:Int}:sf l1 l2 n l3=([(("ins":Str),V.ref l1),(("outs":Str),V.ref l2),(("pace":Str),V.int n),(("kinds":Str),V.ref l3)]:List (Str × V)):=by
 unfold sf;rw [ze9];simp only [qh];rw [am (by decide +kernel),am (by decide +kernel),am (by decide +kernel)]
def zgC {l1 l2:Addr} {n:Int}:vf l1 l2 n=([(("ins":Str),V.ref l1),(("outs":Str),V.ref l2),(("kind":Str),V.int n)]:List (Str × V)):=by
 unfold vf;rw [Xs];simp only [qh];rw [am (by decide +kernel),am (by decide +kernel)]
def wM {H:Hp} {p:Addr->Prop} {l C dx:Addr} {fs:List (Str × V)} {gs:List (Str × D)} (pl:p l) (e:H l=some (.ins C dx fs)) (n:fs.map (·.1)=gs.map (·.1)) (r:Reps H p (fs.map (·.2)) (gs.map (·.2))):Rep H p (.ref l) (.ob C gs) :=
 .ob pl e n λ i f g hf hg=>r.g i f.2 g.2 (by rw [aj,hf];rfl) (by rw [aj,hg];rfl)
section
variable {H:Hp} {p:Addr->Prop} {z dz m1 m2 m3:Addr} {ins outs kinds:List Int} {pace:Int}
def Wx (q0:p z) (q1:p m1) (q2:p m2) (q3:p m3) (h0:H z=some (.ins a.j dz (sf m1 m2 pace m3))) (h1:H m1=some (.lst (iv ins))) (h2:H m2=some (.lst (iv outs))) (h3:H m3=some (.lst (iv kinds))):KnP a H p (.ref z) ⟨.source,ins,outs,pace,kinds⟩:=by
 rw [zgH] at h0;exact wM q0 h0 rfl (.cons (qj q1 h1) (.cons (qj q2 h2) (.cons .int (.cons (qj q3 h3) .nil))))
def zaH (q0:p z) (q1:p m1) (q2:p m2) (h0:H z=some (.ins a.k dz (df m1 m2 pace))) (h1:H m1=some (.lst (iv ins))) (h2:H m2=some (.lst (iv outs))):KnP a H p (.ref z) ⟨.drain,ins,outs,pace,kinds⟩:=by
 rw [ze9] at h0;exact wM q0 h0 rfl (.cons (qj q1 h1) (.cons (qj q2 h2) (.cons .int .nil)))
def zaF {k:Int} (q0:p z) (q1:p m1) (q2:p m2) (h0:H z=some (.ins a.n dz (vf m1 m2 k))) (h1:H m1=some (.lst (iv ins))) (h2:H m2=some (.lst (iv outs))):KnP a H p (.ref z) ⟨.sieve,ins,outs,pace,[k]⟩:=by
 rw [zgC] at h0;exact wM q0 h0 rfl (.cons (qj q1 h1) (.cons (qj q2 h2) (.cons .int .nil)))
def Wy (q0:p z) (q1:p m1) (q2:p m2) (h0:H z=some (.ins a.l dz (kf m1 m2))) (h1:H m1=some (.lst (iv ins))) (h2:H m2=some (.lst (iv outs))):KnP a H p (.ref z) ⟨.parter,ins,outs,pace,kinds⟩:=by
 rw [Xs] at h0;exact wM q0 h0 rfl (.cons (qj q1 h1) (.cons (qj q2 h2) .nil))
def zaG (q0:p z) (q1:p m1) (q2:p m2) (h0:H z=some (.ins a.m dz (kf m1 m2))) (h1:H m1=some (.lst (iv ins))) (h2:H m2=some (.lst (iv outs))):KnP a H p (.ref z) ⟨.first,ins,outs,pace,kinds⟩:=by
 rw [Xs] at h0;exact wM q0 h0 rfl (.cons (qj q1 h1) (.cons (qj q2 h2) .nil))
def Wz (q0:p z) (q1:p m1) (q2:p m2) (h0:H z=some (.ins a.o dz (kf m1 m2))) (h1:H m1=some (.lst (iv ins))) (h2:H m2=some (.lst (iv outs))):KnP a H p (.ref z) ⟨.joiner,ins,outs,pace,kinds⟩:=by
 rw [Xs] at h0;exact wM q0 h0 rfl (.cons (qj q1 h1) (.cons (qj q2 h2) .nil))
end
def BtP (a:Ad) (H:Hp) (p:Addr->Prop) (v:V) (r:Int × Int):Prop:=Rep H p v (j8 a r)
def BtP.keep {H H':Hp} {p q:Addr->Prop} {v:V} {r:Int × Int} (h:BtP a H p v r) (s:∀ b o,p b->H b=some o->q b/\H' b=some o):BtP a H' q v r:=Rep.keep s h
def zir {rm pc:Int}:bf rm pc=([(("room":Str),V.int rm),(("pace":Str),V.int pc)]:List (Str × V)):=by
 unfold bf;simp only [qh];rw [am (by decide +kernel)]
def zgR {H:Hp} {p:Addr->Prop} {y dx:Addr} {rm pc:Int} (q0:p y) (h0:H y=some (.ins a.h dx (bf rm pc))):BtP a H p (.ref y) (rm,pc):=by
 rw [zir] at h0;exact wM q0 h0 rfl (.cons .int (.cons .int .nil))
def BtP.inv {H:Hp} {p:Addr->Prop} {v:V} {r:Int × Int} (h:BtP a H p v r):∃ y dx fs,v=.ref y/\p y/\H y=some (.ins a.h dx fs)/\fs.lookup ("room":Str)=some (.int r.1)/\fs.lookup ("pace":Str)=some (.int r.2):=by
 obtain ⟨y,dx,fs,rfl,py,hy,g1,g2⟩:=Rep.ob' h;obtain ⟨u1,e1,r1⟩:=g1 ("room":Str) _ qZ;obtain ⟨u2,e2,r2⟩:=g1 ("pace":Str) _ ((zM (by decide +kernel)).trans qZ);cases r1;cases r2;exact ⟨y,dx,fs,rfl,py,hy,e1,e2⟩
structure Kns (a:Ad) (H:Hp) (p:Addr->Prop) (vs:List V) (rs:List Row):Prop where
 len:vs.length=rs.length
 g:∀ (i:Nat) v r,vs[i]?=some v->rs[i]?=some r->KnP a H p v r
def Kns.keep {H H':Hp} {p q:Addr->Prop} {vs:List V} {rs:List Row} (h:Kns a H p vs rs) (s:∀ b o,p b->H b=some o->q b/\H' b=some o):Kns a H' q vs rs:=⟨h.len,λ i v r e1 e2=>(h.g i v r e1 e2).keep s⟩
def Kns.nil {H:Hp} {p:Addr->Prop}:Kns a H p [] []:=⟨rfl,λ i v r h=>by simp at h⟩
def Kns.append {H:Hp} {p:Addr->Prop} {vs us:List V} {rs qs:List Row} (h:Kns a H p vs rs) (k:Kns a H p us qs):Kns a H p (vs ++ us) (rs ++ qs):=by
 refine ⟨by rw [aP,aP,h.len,k.len],λ i v r e1 e2=>?_⟩;by_cases hi:i < vs.length
 ·rw [aQ hi] at e1;rw [aQ (by rw [<- h.len];exact hi)] at e2;exact h.g i v r e1 e2
 ·rw [aM (by omega)] at e1;rw [aM (by rw [<- h.len];omega),<- h.len] at e2;exact k.g _ v r e1 e2
def Kns.one {H:Hp} {p:Addr->Prop} {v:V} {r:Row} (h:KnP a H p v r):Kns a H p [v] [r] :=
 ⟨rfl,λ i u q e1 e2=>by
  have hi:=(aa.mp e1).1;have:i=0:=by simp at hi;omega
  subst this;have e1:v=u:=by simpa using e1
  have e2:r=q:=by simpa using e2
  rw [<- e1,<- e2];exact h⟩
def Kns.at {H:Hp} {p:Addr->Prop} {vs:List V} {rs:List Row} (h:Kns a H p vs rs) {i:Nat} {v:V} (e:vs[i]?=some v):∃ r,rs[i]?=some r/\KnP a H p v r:=by
 have hi:=(aa.mp e).1;have e2:rs[i]?=some (rs[i]'(by rw [<- h.len];exact hi)):=ac _;exact ⟨_,e2,h.g i v _ e e2⟩
structure Bts (a:Ad) (H:Hp) (p:Addr->Prop) (vs:List V) (rs:List (Int × Int)):Prop where
 len:vs.length=rs.length
 g:∀ (i:Nat) v r,vs[i]?=some v->rs[i]?=some r->BtP a H p v r
def Bts.keep {H H':Hp} {p q:Addr->Prop} {vs:List V} {rs:List (Int × Int)} (h:Bts a H p vs rs) (s:∀ b o,p b->H b=some o->q b/\H' b=some o):Bts a H' q vs rs:=⟨h.len,λ i v r e1 e2=>(h.g i v r e1 e2).keep s⟩
def Bts.nil {H:Hp} {p:Addr->Prop}:Bts a H p [] []:=⟨rfl,λ i v r h=>by simp at h⟩
def Bts.push {H:Hp} {p:Addr->Prop} {vs:List V} {v:V} {rs:List (Int × Int)} {r:Int × Int} (h:Bts a H p vs rs) (k:BtP a H p v r):Bts a H p (vs ++ [v]) (rs ++ [r]):=by
 refine ⟨by rw [aP,aP,h.len];rfl,λ i u q e1 e2=>?_⟩;by_cases hi:i < vs.length
 ·rw [aQ hi] at e1;rw [aQ (by rw [<- h.len];exact hi)] at e2;exact h.g i u q e1 e2
 ·rw [aM (by omega)] at e1;rw [aM (by rw [<- h.len];omega),<- h.len] at e2;have hj:=(aa.mp e1).1;have:i - vs.length=0:=by simp at hj;omega
  rw [this] at e1 e2;have e1:v=u:=by simpa using e1
  have e2:r=q:=by simpa using e2
  rw [<- e1,<- e2];exact k
def Bts.at {H:Hp} {p:Addr->Prop} {vs:List V} {rs:List (Int × Int)} (h:Bts a H p vs rs) {i:Nat} {v:V} (e:vs[i]?=some v):∃ r,rs[i]?=some r/\BtP a H p v r:=by
 have hi:=(aa.mp e).1;have e2:rs[i]?=some (rs[i]'(by rw [<- h.len];exact hi)):=ac _;exact ⟨_,e2,h.g i v _ e e2⟩
abbrev New (H:Hp):Addr->Prop:=λ b=>H b=none
def xm (a:Ad) (wd:Wd):Sp:=λ vs H Q _=>∃ (y:Addr) (r:Row) (p:Addr->Prop),vs=[.ref y]/\KnP a H p (.ref y) r/\r.wd=wd/\r.ok/\∀ v H',Same H H'->KnP a H' (New H) v r->Q v H'
def Kns.reps {H:Hp} {p:Addr->Prop} {vs:List V} {rs:List Row} (h:Kns a H p vs rs):Reps H p vs (rs.map (vH a)):=⟨by rw [h.len,ai],λ i v d e1 e2=>by
 rw [aj,av] at e2;obtain ⟨r,e2,rfl⟩:=e2;exact h.g i v r e1 e2⟩
def Bts.reps {H:Hp} {p:Addr->Prop} {vs:List V} {rs:List (Int × Int)} (h:Bts a H p vs rs):Reps H p vs (rs.map (j8 a)):=⟨by rw [h.len,ai],λ i v d e1 e2=>by
 rw [aj,av] at e2;obtain ⟨r,e2,rfl⟩:=e2;exact h.g i v r e1 e2⟩
def Kns.of {H:Hp} {p:Addr->Prop} {vs:List V} {rs:List Row} (h:Reps H p vs (rs.map (vH a))):Kns a H p vs rs:=⟨by rw [h.len,ai],λ i v r e1 e2=>h.g i v _ e1 (by rw [aj,e2];rfl)⟩
def Bts.of {H:Hp} {p:Addr->Prop} {vs:List V} {rs:List (Int × Int)} (h:Reps H p vs (rs.map (j8 a))):Bts a H p vs rs:=⟨by rw [h.len,ai],λ i v r e1 e2=>h.g i v _ e1 (by rw [aj,e2];rfl)⟩
def Q5 (T:Txt K mg a):MCal P w K mg base a.j "copied" 4 ["self"] [] (xm a .source):=T.iu.cal T.fT λ F=>by
 refine F.okx Qb ?_ ?_
 ·walk_at "i"
 walk_at "k";refine oE3 h λ y z1_ p z2_=>oA5 z2_ λ z3_ hK hw hok k=>?_;clear h;obtain ⟨wd,ins,outs,pace,kinds⟩:=z1_;subst z3_;cases hw;have hK0:=hK;refine oE6 hK.inv λ y' dx l1 l2 l3 fs z1_=>oA9 z1_ λ e p0 p1 p2 p3 h0 e1 e2 z2_=>oA5 z2_ λ e3 h1 h2 h3 h4=>?_;cases e;obtain ⟨hk,hk'⟩:=h3 rfl;have hp:=h4 (.inl rfl);refine oA7 hok λ q1 z1_ q3 q4 q5 q6 q7=>?_;clear hok;obtain ⟨ov,q2⟩:=z1_;simp only at q1 q2;subst q1 q2;walk_at "T";refine ⟨_,(ze (zj (qa (x:="Source") ⟨rfl,rfl,rfl⟩ hr (za (zr (zl (pq 0) rfl) zd) (za (zl (pq 0) rfl) (za (zl (pq 0) rfl) zc)))))),?_⟩;walk_at "go";refine iE4 a.j _ _ _ ⟨(wo T).mono,iE5 y a.j dx fs _ (iA6 rfl h0 T.fT T.gy e2 (zn (SqL.of h2) at0 ?_))⟩;refine ra h0 T.fT T.gb hp ?_;refine ra h0 T.fT T.fZ hk ?_;intro z dz hz hdz hne;refine iE6 z dz l3 (.int ov) pace kinds (iA6 rfl upd_same (SqL.of (qo hz hdz hk')) (ne_of_none hk' hz) (λ _ H' m1 m2 m3 s' g1 g2 g3 g4 n1 n2 n3=>⟨rfl,?_⟩) (λ hbad=>absurd (iA5 q3 q4 q5 q6 q7) hbad));exact k _ _ (Own.of_new hz hdz s') (Wx (p:=New H) (ins:=[]) (outs:=[ov]) hz (zL n1) (zL n2) (zL n3) g1 g2 g3 g4)
def Xp (T:Txt K mg a):MCal P w K mg base a.k "copied" 4 ["self"] [] (xm a .drain):=T.iQ.cal T.f9 λ F=>by
 refine F.okx Q3 ?_ ?_
 ·walk_at "i"
 walk_at "k";refine oE3 h λ y z1_ p z2_=>oA5 z2_ λ z3_ hK hw hok k=>?_;clear h;obtain ⟨wd,ins,outs,pace,kinds⟩:=z1_;subst z3_;cases hw;have hK0:=hK;refine oE6 hK.inv λ y' dx l1 l2 l3 fs z1_=>oA9 z1_ λ e p0 p1 p2 p3 h0 e1 e2 z2_=>oA5 z2_ λ e3 h1 h2 h3 h4=>?_;cases e;have hp:=h4 (.inr rfl);refine oA4 hok λ z1_ q2 q3 q4=>?_;clear hok;obtain ⟨iv',q1⟩:=z1_;simp only at q1 q2;subst q1 q2;walk_at "T";refine ⟨_,(ze (zj (qa (x:="Drain") ⟨rfl,rfl,rfl⟩ hr (za (zr (zl (pq 0) rfl) zd) (za (zl (pq 0) rfl) zc))))),?_⟩;walk_at "go";refine iE4 a.k _ _ _ ⟨(wT T).mono,iE5 y a.k dx fs _ (iA6 rfl h0 T.f9 T.gS e1 (zn (SqL.of h1) at0 ?_))⟩;refine ra h0 T.f9 T.fU hp ?_;intro z dz hz hdz hne;refine iE4 z dz (.int iv') pace (iA3 rfl upd_same ?_);rw [aq ⟨q3,q4⟩];intro H' m1 m2 s' g1 g2 g3 n1 n2;exact ⟨rfl,k _ _ (Own.of_new hz hdz s') (zaH (p:=New H) (ins:=[iv']) (outs:=[]) hz (zL n1) (zL n2) g1 g2 g3)⟩
def Q7 (T:Txt K mg a):MCal P w K mg base a.l "copied" 4 ["self"] [] (xm a .parter):=T.ix.cal T.gi λ F=>by
 refine F.okx Qd ?_ ?_
 ·walk_at "i"
 walk_at "k";refine oE3 h λ y z1_ p z2_=>oA5 z2_ λ z3_ hK hw hok k=>?_;clear h;obtain ⟨wd,ins,outs,pace,kinds⟩:=z1_;subst z3_;cases hw;have hK0:=hK;refine oE6 hK.inv λ y' dx l1 l2 l3 fs z1_=>oA9 z1_ λ e p0 p1 p2 p3 h0 e1 e2 z2_=>oA5 z2_ λ e3 h1 h2 h3 h4=>?_;cases e;obtain ⟨⟨iv',q1⟩,q3,q4⟩:=hok;simp only at q1 q3 q4;subst q1;walk_at "T";refine ⟨_,(ze (zj (qa (x:="Parter") ⟨rfl,rfl,rfl⟩ hr (za (zr (zl (pq 0) rfl) zd) (za (zl (pq 0) rfl) zc))))),?_⟩;walk_at "go";refine iE4 a.l _ _ _ ⟨(ZW T).mono,iE5 y a.l dx fs _ (iA6 rfl h0 T.gi T.gI e1 (zn (SqL.of h1) at0 ?_))⟩;refine ra h0 T.gi T.gc e2 ?_;intro z dz hz hdz hne;refine iE5 z dz l2 (.int iv') (iv outs) (iA5 rfl upd_same (SqL.of (qo hz hdz h2)) (ne_of_none h2 hz) ?_);rw [aq (by rw [iv,ai];exact ⟨q3,q4⟩)];intro H' m1 m2 s' g1 g2 g3 n1 n2;exact ⟨rfl,k _ _ (Own.of_new hz hdz s') (Wy (p:=New H) (ins:=[iv']) (outs:=outs) hz (zL n1) (zL n2) g1 g2 g3)⟩
def vD (T:Txt K mg a):MCal P w K mg base a.m "copied" 4 ["self"] [] (xm a .first):=T.gM.cal T.fS λ F=>by
 refine F.okx wZ ?_ ?_
 ·walk_at "i"
 walk_at "k";refine oE3 h λ y z1_ p z2_=>oA5 z2_ λ z3_ hK hw hok k=>?_;clear h;obtain ⟨wd,ins,outs,pace,kinds⟩:=z1_;subst z3_;cases hw;have hK0:=hK;refine oE6 hK.inv λ y' dx l1 l2 l3 fs z1_=>oA9 z1_ λ e p0 p1 p2 p3 h0 e1 e2 z2_=>oA5 z2_ λ e3 h1 h2 h3 h4=>?_;cases e;obtain ⟨⟨iv',q1⟩,q3,q4⟩:=hok;simp only at q1 q3 q4;subst q1;walk_at "T";refine ⟨_,(ze (zj (qa (x:="FirstParter") ⟨rfl,rfl,rfl⟩ hr (za (zr (zl (pq 0) rfl) zd) (za (zl (pq 0) rfl) zc))))),?_⟩;walk_at "go";refine iE4 a.m _ _ _ ⟨(jM T).mono,iE5 y a.m dx fs _ (iA6 rfl h0 T.fS T.fY e1 (zn (SqL.of h1) at0 ?_))⟩;refine ra h0 T.fS T.fX e2 ?_;intro z dz hz hdz hne;refine iE5 z dz l2 (.int iv') (iv outs) (iA5 rfl upd_same (SqL.of (qo hz hdz h2)) (ne_of_none h2 hz) ?_);rw [aq (by rw [iv,ai];exact ⟨q3,q4⟩)];intro H' m1 m2 s' g1 g2 g3 n1 n2;exact ⟨rfl,k _ _ (Own.of_new hz hdz s') (zaG (p:=New H) (ins:=[iv']) (outs:=outs) hz (zL n1) (zL n2) g1 g2 g3)⟩
def Xn (T:Txt K mg a):MCal P w K mg base a.n "copied" 4 ["self"] [] (xm a .sieve):=T.iS.cal T.fN λ F=>by
 refine F.okx Q1 ?_ ?_
 ·walk_at "i"
 walk_at "k";refine oE3 h λ y z1_ p z2_=>oA5 z2_ λ z3_ hK hw hok k=>?_;clear h;obtain ⟨wd,ins,outs,pace,kinds⟩:=z1_;subst z3_;cases hw;have hK0:=hK;refine oE6 hK.inv λ y' dx l1 l2 l3 fs z1_=>oA9 z1_ λ e p0 p1 p2 p3 h0 e1 e2 z2_=>oA5 z2_ λ e3 h1 h2 h3 h4=>?_;cases e;refine oA3 hok λ z1_ q3 z2_=>oE1 z2_ λ kk z3_=>oA3 z3_ λ q4 q5 q6=>?_;clear hok;obtain ⟨iv',q1⟩:=z1_;simp only at q1 q3 q4;subst q1 q4;walk_at "T";refine ⟨_,(ze (zj (qa (x:="Sieve") ⟨rfl,rfl,rfl⟩ hr (za (zr (zl (pq 0) rfl) zd) (za (zl (pq 0) rfl) (za (zl (pq 0) rfl) zc)))))),?_⟩;walk_at "go";refine iE4 a.n _ _ _ ⟨(zck T).mono,iE5 y a.n dx fs _ (iA6 rfl h0 T.fN T.gU e1 (zn (SqL.of h1) at0 ?_))⟩;refine ra h0 T.fN T.fV e2 ?_;refine zfQ hK0 T.fN T.gj (zeQ rfl rfl) λ u ru=>?_;cases ru;intro z dz hz hdz hne;refine iE6 z dz l2 (.int iv') (iv outs) kk (iA5 rfl upd_same (SqL.of (qo hz hdz h2)) (ne_of_none h2 hz) ?_);rw [aq (by rw [iv,ai];exact ⟨q3,q5,q6⟩)];intro H' m1 m2 s' g1 g2 g3 n1 n2;exact ⟨rfl,k _ _ (Own.of_new hz hdz s') (zaF (p:=New H) (ins:=[iv']) (outs:=outs) hz (zL n1) (zL n2) g1 g2 g3)⟩
def Q9 (T:Txt K mg a):MCal P w K mg base a.o "copied" 4 ["self"] [] (xm a .joiner):=T.iz.cal T.gk λ F=>by
 refine F.okx Qf ?_ ?_
 ·walk_at "i"
 walk_at "k";refine oE3 h λ y z1_ p z2_=>oA5 z2_ λ z3_ hK hw hok k=>?_;clear h;obtain ⟨wd,ins,outs,pace,kinds⟩:=z1_;subst z3_;cases hw;have hK0:=hK;refine oE6 hK.inv λ y' dx l1 l2 l3 fs z1_=>oA9 z1_ λ e p0 p1 p2 p3 h0 e1 e2 z2_=>oA5 z2_ λ e3 h1 h2 h3 h4=>?_;cases e;obtain ⟨⟨ov,q1⟩,q3,q4⟩:=hok;simp only at q1 q3 q4;subst q1;walk_at "T";refine ⟨_,(ze (zj (qa (x:="Joiner") ⟨rfl,rfl,rfl⟩ hr (za (zl (pq 0) rfl) (za (zr (zl (pq 0) rfl) zd) zc))))),?_⟩;walk_at "go";refine iE4 a.o _ _ _ ⟨(ZX T).mono,iE5 y a.o dx fs _ (iA6 rfl h0 T.gk T.gm e1 ?_)⟩;refine ra h0 T.gk T.gz e2 (zn (SqL.of h2) at0 ?_);intro z dz hz hdz hne;refine iE5 z dz l1 (.int ov) (iv ins) (iA5 rfl upd_same (SqL.of (qo hz hdz h1)) (ne_of_none h1 hz) ?_);rw [aq (by rw [iv,ai];exact ⟨q3,q4⟩)];intro H' m1 m2 s' g1 g2 g3 n1 n2;exact ⟨rfl,k _ _ (Own.of_new hz hdz s') (Wz (p:=New H) (ins:=ins) (outs:=[ov]) hz (zL n1) (zL n2) g1 g2 g3)⟩
def CT (T:Txt K mg a) (wd:Wd):Cls K (wt a wd):=by
 cases wd
 ·exact T.fT
 ·exact T.f9
 ·exact T.gi
 ·exact T.fS
 ·exact T.fN
 ·exact T.gk
def NI (T:Txt K mg a) (wd:Wd):NoAttr K (wt a wd) "ins":=by
 cases wd
 ·exact T.ia
 ·exact T.gS
 ·exact T.gI
 ·exact T.fY
 ·exact T.gU
 ·exact T.gm
def NO (T:Txt K mg a) (wd:Wd):NoAttr K (wt a wd) "outs":=by
 cases wd
 ·exact T.gy
 ·exact T.ib
 ·exact T.gc
 ·exact T.fX
 ·exact T.fV
 ·exact T.gz
def WT (T:Txt K mg a) (wd:Wd):WI K (wt a wd):=by
 cases wd
 ·exact T.mh
 ·exact T.mq
 ·exact T.mi
 ·exact T.i9
 ·exact T.mt
 ·exact T.mj
def zeI (T:Txt K mg a) (wd:Wd):MCal P w K mg base (wt a wd) "copied" 4 ["self"] [] (xm a wd):=by
 cases wd
 ·exact Q5 T
 ·exact Xp T
 ·exact Q7 T
 ·exact vD T
 ·exact Xn T
 ·exact Q9 T
theorem Wl:∀ (xs ys:List Int),xs.Perm ys->xs.Pairwise (·<=·)->ys.Pairwise (·<=·)->xs=ys
 | [],ys,h,_,_=>(List.nil_perm.mp h).symm
 | x :: xs,[],h,_,_=>absurd h.length_eq (by simp)
 | x :: xs,y :: ys,h,hx,hy=>by
  have e:x=y:=by
   have h1:y∈x :: xs:=h.mem_iff.mpr (by simp);have h2:x∈y :: ys:=h.mem_iff.mp (by simp);rcases ax.mp h1 with e|m1
   ·exact e.symm
   rcases ax.mp h2 with e|m2
   ·exact e
   have:=(cU.mp hx).1 y m1;have:=(cU.mp hy).1 x m2;omega
  subst e;rw [Wl xs ys h.cons_inv (cU.mp hx).2 (cU.mp hy).2]
noncomputable def rgI (n:Nat):List Int:=(List.range n).map λ (i:Nat)=>(i:Int)
def zbr (n:Nat):(rgI n).Pairwise (·<=·):=by
 unfold rgI;rw [List.pairwise_map];exact eK.imp λ {i j} h=>by omega
def zfN (n:Nat):rgL 0 n=iv (rgI n):=by
 simp [rgL,iv,rgI,dW,dM]
theorem JN:∀ ms ns:List Int,wc (iv ms) (iv ns)=decide (ms=ns)
 | [],[]=>rfl
 | [],_ :: _=>rfl
 | _ :: _,[]=>rfl
 | m :: ms,n :: ns=>by
  show (eqV (.int m) (.int n) && wc (iv ms) (iv ns))=_
  rw [JN ms ns];by_cases e:m=n
  ·subst e;simp [eqV]
  ·simp [eqV,e]
def vT (ns:List Int):(iv ns).all jr=true:=cf.mpr λ x hx=>by
 obtain ⟨n,_,rfl⟩:=aW.mp hx
 rfl
def zfP {H:Hp} {Q:VK} {p q:Addr} {ms ns:List Int} (h1:SqL K H p (iv ms)) (h2:SqL K H q (iv ns)) (k:Q (.bl (!decide (ms=ns))) H):zc6 K (.ref p) (.ref q) H Q :=
 .inr (.inl ⟨p,q,iv ms,iv ns,rfl,rfl,.inl ⟨h1,h2⟩,vT ms,vT ns,by rw [JN];exact k⟩)
def V5 (K:PySem.W.Frag) (a:Ad):Sp:=λ vs H Q E=>∃ (bl kl:Addr) (xs ys:List V),vs=[.ref bl,.ref kl]/\SqL K H bl xs/\SqL K H kl ys/\if (1<=xs.length/\xs.length<=24)/\1<=ys.length/\ys.length<=24 then Q .non H else E (.ref a.e) none H
def VN (T:Txt K mg a):Cal P w K mg base "check_size" 1 ["belts","knots"] [] (V5 K a):=T.kx.cal λ F=>by
 refine F.okx XW ?_ ?_
 ·walk_at "i"
 walk_at "k";obtain ⟨bl,kl,xs,ys,rfl,h1,h2,k⟩:=h;obtain ⟨t1,g1⟩:=T.kF;obtain ⟨t2,g2⟩:=T.kG;walk_at "T";refine ⟨_,(zi (zD (qR (jx jZ jZ zd (zJ zS zQ (za (pq 0) zc)) jq))  (ze (qP ⟨rfl,rfl,rfl⟩ rfl (za qT zc)))  zp)  (ze (zD (qR (jx jZ jZ zd (zJ zS zQ (za (pq 1) zc)) jq))  (ze (qP ⟨rfl,rfl,rfl⟩ rfl (za qT zc)))  zp))),?_⟩;walk_at "go";have bad:¬ ((1<=xs.length/\xs.length<=24)/\1<=ys.length/\ys.length<=24)->∃ C,mg "BadWork"=some (Value.ref C)/\XC K C/\E (Value.ref C) none H:=λ h=>by
  rw [am h] at k;exact ⟨a.e,T.ky,T.kH,k⟩
 refine ⟨_,.inl ⟨_,h1,rfl⟩,?_⟩;walk_at "go";refine zI (λ b1=>?_) (λ b1=>bad (by omega));refine ⟨.int 24,_,g1,⟨_,rfl⟩,?_⟩;walk_at "go";refine zI (λ b2=>?_) (λ b2=>bad (by omega));walk_at "go";refine ⟨_,.inl ⟨_,h2,rfl⟩,?_⟩;walk_at "go";refine zI (λ b3=>?_) (λ b3=>bad (by omega));refine ⟨.int 24,_,g2,⟨_,rfl⟩,?_⟩;walk_at "go";refine zI (λ b4=>?_) (λ b4=>bad (by omega));rw [aq (by omega)] at k;walk_at "go";exact k
def za9 (K:PySem.W.Frag) (a:Ad):Sp:=λ vs H Q E=>∃ (l:Addr) (ns:List Int) (n:Nat),vs=[.ref l,.int n]/\SqL K H l (iv ns)/\ns.length < 64/\n<=1000/\(ns.Perm (rgI n)->∀ H',Same H H'->Q .non H')/\(¬ ns.Perm (rgI n)->∀ H',Same H H'->E (.ref a.e) none H')
def xM (T:Txt K mg a):Cal P w K mg base "check_each_once" 1 ["named","size"] [] (za9 K a):=T.gZ.cal λ F=>by
 refine F.okx Zn ?_ ?_
 ·walk_at "i"
 walk_at "k";obtain ⟨l,ns,n,rfl,hl,h64,hn,kok,kbad⟩:=h;walk_at "T";refine ⟨_,(ze (zD (zo (vZ hr.units1) (zJ zdQ zdP (za (pq 0) zc)) (wY (zfm rfl) xN (za (zhh (za (pq 1) zc)) zc)) (zq _))  (ze (qP ⟨rfl,rfl,rfl⟩ rfl (za qT zc)))  zp)),?_⟩;walk_at "go";refine ⟨l,ns,rfl,hl,h64,λ ms q1 hp hs hq1=>?_⟩;walk_at "go";intro q2 hq2;refine ⟨q2,0,n,rfl,upd_same,⟨by omega,by omega,by omega,by omega,by omega⟩,λ q3 hq3=>?_⟩;rw [show ((n:Int) - 0).toNat=n by omega,zfN];walk_at "go";have sm:Same H (upd (upd (upd H q1 (.lst (iv ms))) q2 (.rng 0 n)) q3 (.lst (iv (rgI n)))):=(zg hq1).trans ((zg hq2).trans (zg hq3));refine zfP (ms:=ms) (ns:=rgI n) (SqL.of (upd_keep (upd_keep upd_same hq2) hq3)) (SqL.of upd_same) ?_;walk_at "go";refine zI (λ b1=>?_) (λ b1=>?_)
 ·refine ⟨a.e,T.ky,T.kH,kbad (λ z=>b1 (Wl _ _ (hp.trans z) hs (zbr n))) _ sm⟩
 ·walk_at "go";refine kok ?_ _ sm;have e:ms=rgI n:=fe b1;rw [<- e];exact hp.symm
noncomputable def j7 (rs:List Row):List Int:=rs.flatMap Row.outs
noncomputable def qt (rs:List Row):List Int:=rs.flatMap Row.ins
noncomputable def wf (l1 l2:Addr):List (Str × V):=qh "knots" (.ref l2) (qh "belts" (.ref l1) [])
def zH (bs:List (Int × Int)) (rs:List Row):Prop:=((1<=bs.length/\bs.length<=24)/\1<=rs.length/\rs.length<=24)/\(j7 rs).Perm (rgI bs.length)/\(qt rs).Perm (rgI bs.length)
def Zj (K:PySem.W.Frag) (a:Ad):Sp:=λ vs H Q E=>∃ (y dx bl kl:Addr) (bvs kvs:List V) (bs:List (Int × Int)) (rs:List Row) (p:Addr->Prop),vs=[.ref y,.ref bl,.ref kl]/\H y=some (.ins a.q dx [])/\bl≠y/\kl≠y/\(∀ b,p b->b≠y) /\
 H bl=some (.lst bvs)/\H kl=some (.lst kvs)/\Bts a H p bvs bs/\Kns a H p kvs rs/\(∀ b∈bs,zu b.1 b.2)/\(∀ r∈rs,r.ok)/\(j7 rs).length < 64/\(qt rs).length < 64/\bs.length<=1000 /\
 (zH bs rs->∀ H' l1 l2 bvs' kvs',Own H H' y->H' y=some (.ins a.q dx (wf l1 l2))->H' l1=some (.lst bvs')->H' l2=some (.lst kvs')->Bts a H' (New H) bvs' bs->Kns a H' (New H) kvs' rs->H l1=none->H l2=none->Q .non H') /\
 (¬ zH bs rs->∀ H',Same H H'->E (.ref a.e) none H')
def zbT {rs:List Row} {i:Nat} {r:Row} (h:rs[i]?=some r):j7 (rs.take (i + 1))=j7 (rs.take i) ++ r.outs:=by
 unfold j7;rw [aR,h,eU];simp
def WP {rs:List Row} {i:Nat} {r:Row} (h:rs[i]?=some r):qt (rs.take (i + 1))=qt (rs.take i) ++ r.ins:=by
 unfold qt;rw [aR,h,eU];simp
def xi (f:Row->List Int) (rs:List Row) (i:Nat):((rs.take i).flatMap f).length<=(rs.flatMap f).length:=by
 conv=>rhs;rw [<- eX i rs,eU,aP]
 omega
def zbJ (xs ys:List Int):iv xs ++ iv ys=iv (xs ++ ys):=by rw [iv,iv,iv,a7]
theorem Vp (T:Txt K mg a) (F:Fun K "__init__" "Work.__init__" jp f fd):FnOk P w K mg base (CXr P w) 5 f fd ["self","belts","knots"] (Zj K a):=by
 refine F.okx W0 ?_ ?_
 ·walk_at "i"
 walk_at "k";refine oE5 h λ y dx bl kl bvs z1_=>oE4 z1_ λ kvs bs rs p z2_=>oA9 z2_ λ z3_ hy nby nky hpy hb hk hB z4_=>oA8 z4_ λ hKs hbo hro h64 h64' hlb kok kbad=>?_;clear h;subst z3_;walk_at "T";refine ⟨_,(zh (zA (zt ⟨rfl,rfl,rfl⟩ hr (za (pq 1) (za (pq 2) zc))))  (zh (zx 3 W0.nd (zC zc))  (zh (zx 4 W0.nd (zC zc))  (zh (qK ji rfl (qd (pq 2)) (qk 5 W0.nd)  (zh (zA (qQ ap er ef Wt (pq 3) (za (zl (pq 5) rfl) zc)))  (ze (zA (qQ ap er ef Wt (pq 4) (za (zl (pq 5) rfl) zc))))))  (zh (zA (zt ⟨rfl,rfl,rfl⟩ hr (za (pq 3) (za (zJ zS zQ (za (pq 1) zc)) zc))))  (zh (zA (zt ⟨rfl,rfl,rfl⟩ hr (za (pq 4) (za (zJ zS zQ (za (pq 1) zc)) zc))))  (zh (jy (pq 0) (jY (vars:=["belt"]) (caps:=[]) (N:=["belt"]) (ON:=["self","belts","knots","fed","taken","knot"]) (osc:=zf jp) rfl rfl (by first|decide +kernel|kernel_rfl) rfl rfl (qd (pq 1)) (λ s H fp pins=>(qk 0 (show (["belt"]:List Str).Nodup from by decide +kernel))) (λ s H fp pins=>qf) (λ s H fp pins=>(zeu (x:="Belt") hr (za (zl (pq 0) rfl) (za (zl (pq 0) rfl) zc))))) rfl)  (ze (jy (pq 0) (jY (vars:=["knot"]) (caps:=[]) (N:=["knot"]) (ON:=["self","belts","knots","fed","taken","knot"]) (osc:=zf jp) rfl rfl (by first|decide +kernel|kernel_rfl) rfl rfl (qd (pq 2)) (λ s H fp pins=>(qk 0 (show (["knot"]:List Str).Nodup from by decide +kernel))) (λ s H fp pins=>qf) (λ s H fp pins=>(zet hr (pq 0)))) rfl))))))))),?_⟩;walk_at "go";refine uc (VN T).mono (iE4 bl kl bvs kvs (iA4 rfl (SqL.of hb) (SqL.of hk) (zI (λ b1=>?_) (λ b1=>?_))))
 rotate_left
 ·refine kbad (λ z=>b1 ?_) H (Same.refl _);rw [hB.len,hKs.len];exact z.1
 rw [hB.len,hKs.len] at b1;walk_at "go";intro fl hfl;walk_at "go";intro tl htl;have nft:fl≠tl:=ne_of_none upd_same htl;have htl0:H tl=none:=z6 htl;walk_at "for";walk_at "go";have s2:Same H (upd (upd H fl (.lst [])) tl (.lst [])):=(zg hfl).trans (zg htl);refine ⟨kl,rfl,.inl ⟨⟨_,SqL.of (s2 _ _ hk)⟩,?_⟩⟩;let M1_:Nat->St->Hp->Prop:=λ i σ H'=>∃ v5,σ=[some (.ref y),some (.ref bl),some (.ref kl),some (.ref fl),some (.ref tl),v5]/\Same H H'/\H' fl=some (.lst (iv (j7 (rs.take i))))/\H' tl=some (.lst (iv (qt (rs.take i))));refine qE (K:=K) (a:=kl) (xs:=kvs) M1_ ⟨_,iA4 rfl s2 (upd_keep upd_same htl) upd_same⟩ (λ i σ H' _ ⟨_,_,s,_⟩=>SqL.of (s _ _ hk)) ?_ ?_
 ·intro i x σ H' hi zz_;refine oE1 zz_ λ v5 z1_=>oA4 z1_ λ z2_ s3 e1 e2=>?_;clear zz_;subst z2_;obtain ⟨r,hr',hKn0⟩:=hKs.at hi;refine oE6 hKn0.inv λ y1 dx1 l1 l2 l3 fs z1_=>oA9 z1_ λ z2_ p0 p1 p2 p3 h0 f1 f2 z3_=>oA5 z3_ λ f3 h1 h2 h3 h4=>?_;subst z2_;have L1:=xi Row.outs rs i;have L2':=xi Row.ins rs i;have L3:=xi Row.outs rs (i + 1);have L4:=xi Row.ins rs (i + 1);have E1:=zbT hr';have E2:=WP hr';have n1:∀ {b:Addr} {o:HO},H b=some o->b≠fl:=λ h=>ne_of_none h hfl;have n2:∀ {b:Addr} {o:HO},H b=some o->b≠tl:=λ h=>ne_of_none h htl0;walk_at "go";refine ⟨.inl ⟨rfl,_,SqL.of e1⟩,iE5 y1 (wt a r.wd) dx1 fs _ (iA6 rfl (s3 _ _ h0) (CT T _) (NO T _) f2 ?_)⟩;refine iE4 fl l2 _ _ (iA6 rfl rfl e1 (s3 _ _ h2) ?_ ?_)
  ·refine cc (zm ?_);have:=bP List.length E1;rw [aP] at this;rw [iv,iv,ai,ai];unfold j7 at this h64 ⊢;omega
  walk_at "go";have e2':upd H' fl (.lst (iv (j7 (rs.take i)) ++ iv r.outs)) tl=some (.lst (iv (qt (rs.take i)))):=by rw [upd_ne (aZ nft)];exact e2
  refine ⟨.inl ⟨rfl,_,SqL.of e2'⟩,iE5 y1 (wt a r.wd) dx1 fs _ (iA6 rfl ?_ (CT T _) (NI T _) f1 ?_)⟩
  ·rw [upd_ne (n1 h0)];exact s3 _ _ h0
  refine iE4 tl l1 _ (iv r.ins) (iA6 rfl rfl e2' ?_ ?_ ?_)
  ·rw [upd_ne (n1 h1)];exact s3 _ _ h1
  ·refine cc (zm ?_);have:=bP List.length E2;rw [aP] at this;rw [iv,iv,ai,ai];unfold qt at this h64' ⊢;omega
  refine ⟨_,iA4 rfl (λ b o hb=>?_) ?_ ?_⟩
  ·rw [upd_ne (n2 hb),upd_ne (n1 hb)];exact s3 _ _ hb
  ·rw [upd_ne nft,upd_same,E1,zbJ]
  ·rw [upd_same,E2,zbJ]
 ·intro σ H1 zz_;refine oE1 zz_ λ v5 z1_=>oA4 z1_ λ z2_ s3 e1 e2=>?_;clear zz_;subst z2_;rw [hKs.len,aS] at e1 e2;walk_at "go";refine uc (xM T).mono ⟨gf,⟨_,⟨.inl ⟨_,SqL.of (s3 _ _ hb),rfl⟩,?_⟩⟩⟩;rw [hB.len];refine iE3 fl (j7 rs) bs.length (iA6 rfl (SqL.of e1) h64 hlb (λ g1 H2 s4=>?_) (λ g1 H2 s4=>kbad (λ z=>g1 z.2.1) _ (s3.trans s4)));walk_at "go";refine uc (xM T).mono ⟨gf,⟨_,⟨.inl ⟨_,SqL.of (s4 _ _ (s3 _ _ hb)),rfl⟩,?_⟩⟩⟩;rw [hB.len];refine iE3 tl (qt rs) bs.length (iA6 rfl (SqL.of (s4 _ _ e2)) h64' hlb (λ g2 H3 s5=>?_) (λ g2 H3 s5=>kbad (λ z=>g2 z.2.2) _ (s3.trans (s4.trans s5))));have kok:=kok ⟨b1,g1,g2⟩;have s6:=s3.trans (s4.trans s5);clear s3 s4 s5 e1 e2;clear g1 g2;walk_at "go";walk_at "lc";walk_at "go";refine ⟨bl,rfl,.inl ⟨⟨_,SqL.of (s6 _ _ hb)⟩,λ _ _ _ _ acc hacc=>?_⟩⟩;have nacc:H acc=none:=zK s6 hacc;let M2_:Nat->St->Hp->Prop:=λ i σ H'=>∃ v us,σ=[v]/\Same H3 H'/\H' acc=some (.lst us)/\Bts a H' (λ b=>H3 b=none/\b≠acc) us (bs.take i);refine qE (K:=K) (a:=bl) (xs:=bvs) M2_ (iE2 _ ([]) (iA4 rfl (zg hacc) upd_same (by rw [cu];exact .nil))) (λ i σ H' _ ⟨_,_,_,s,_⟩=>SqL.of (s _ _ (s6 _ _ hb))) ?_ ?_
  ·intro i x σ H' hi zz_;refine oE2 zz_ λ v us z1_=>oA4 z1_ λ z2_ s7 e1 hU=>?_;clear zz_;subst z2_;obtain ⟨⟨rm,pc⟩,hr',hBt0⟩:=hB.at hi;refine oE3 hBt0.inv λ y1 dx1 fs z1_=>oA5 z1_ λ z2_ p0 h0 f1 f2=>?_;subst z2_;have hok:=hbo _ (af hr');have hil:i < bs.length:=(aa.mp hr').1;have h0':=s7 _ _ (s6 _ _ h0);walk_at "go";refine iE4 a.h _ _ _ ⟨(Zy T).mono,iE5 y1 a.h dx1 fs _ (iA6 rfl h0' T.gH T.gw f1 (iE5 y1 a.h dx1 fs _ (iA6 rfl h0' T.gH T.gx f2 ?_)))⟩;intro z dz hz hdz hne;refine iE4 z dz rm pc (iA3 rfl upd_same ?_);rw [aq hok,ZH];have sN:Same H' (upd (upd H' dz (.own z)) z (.ins a.h dz (bf rm pc))):=λ b o h=>by rw [upd_ne (ne_of_none h hz),upd_ne (ne_of_none h hdz)];exact h
   have hz':upd (upd H' dz (.own z)) z (.ins a.h dz (bf rm pc)) z=some (.ins a.h dz (bf rm pc)):=upd_same;generalize upd (upd H' dz (.own z)) z (.ins a.h dz (bf rm pc))=H4 at sN hz' ⊢;have hzn:z≠acc:=λ q=>by rw [q,e1] at hz;cases hz
   refine ⟨rfl,⟨_,iA3 (sN _ _ e1) (zm (by have:=hU.len;rw [aT] at this;omega)) (iE2 _ (us ++ [.ref z]) (iA4 rfl (λ b o hb=>?_) upd_same ?_))⟩⟩
   ·rw [upd_ne (ne_of_none hb hacc)];exact sN _ _ (s7 _ _ hb)
   ·rw [aR,hr'];refine Bts.push (hU.keep λ b o hp hb=>⟨hp,by rw [upd_ne hp.2];exact sN _ _ hb⟩) (zgR (p:=λ b=>H3 b=none/\b≠acc) ⟨zK s7 hz,hzn⟩ (by rw [upd_ne hzn];exact hz'))
  ·intro σ H4 zz_;refine oE2 zz_ λ v us z1_=>oA4 z1_ λ z2_ s7 e1 hU=>?_;clear zz_;subst z2_;rw [hB.len,aS] at hU;have s8:=s6.trans s7;have nacy:acc≠y:=(ne_of_none hy nacc).symm;walk_at "go";refine iE4 y a.q dx ([]) (iA6 rfl (s8 _ _ hy) T.fK T.fR (by decide) ?_);have o9:Own H (upd H4 y (.ins a.q dx (qh "belts" (.ref acc) []))) y:=(Same.own s8).trans jm;have hy9:upd H4 y (.ins a.q dx (qh "belts" (.ref acc) [])) y=some (.ins a.q dx (qh "belts" (.ref acc) [])):=upd_same;have e9:upd H4 y (.ins a.q dx (qh "belts" (.ref acc) [])) acc=some (.lst us):=by rw [upd_ne nacy];exact e1
   have hU9:Bts a (upd H4 y (.ins a.q dx (qh "belts" (.ref acc) []))) (λ b=>H b=none/\b≠y) us bs:=hU.keep λ b o hp hb=>by
    have q1:H b=none:=zK s6 hp.1;have q2:b≠y:=(ne_of_none hy q1).symm;exact ⟨⟨q1,q2⟩,by rw [upd_ne q2];exact hb⟩
   generalize upd H4 y (.ins a.q dx (qh "belts" (.ref acc) []))=H5 at o9 hy9 e9 hU9 ⊢;walk_at "go";walk_at "lc";walk_at "go";refine ⟨kl,rfl,.inl ⟨⟨_,SqL.of (o9 _ _ nky hk)⟩,λ _ _ _ _ ac2 hac2=>?_⟩⟩;let M3_:Nat->St->Hp->Prop:=λ i σ H'=>∃ v us2,σ=[v]/\Same H5 H'/\H' ac2=some (.lst us2)/\Kns a H' (λ b=>H5 b=none/\b≠ac2) us2 (rs.take i);refine qE (K:=K) (a:=kl) (xs:=kvs) M3_ (iE2 _ ([]) (iA4 rfl (zg hac2) upd_same (by rw [cu];exact .nil))) (λ i σ H' _ ⟨_,_,_,s,_⟩=>SqL.of (s _ _ (o9 _ _ nky hk))) ?_ ?_
   ·intro i x σ H' hi zz_;refine oE2 zz_ λ v us2 z1_=>oA4 z1_ λ z2_ s10 e2 hV=>?_;clear zz_;subst z2_;obtain ⟨r,hr',hKn⟩:=hKs.at hi;have hok:=hro _ (af hr');have hil:i < rs.length:=(aa.mp hr').1;have hKn':KnP a H' p x r:=hKn.keep λ b o hp hb=>⟨hp,s10 _ _ (o9 _ _ (hpy b hp) hb)⟩;refine oE6 hKn'.inv λ y1 dx1 l1 l2 l3 fs z1_=>oA9 z1_ λ z2_ p0 p1 p2 p3 h0 f1 f2 z3_=>oA5 z3_ λ f3 h1 h2 h3 h4=>?_;subst z2_;walk_at "go";refine iE7 y1 (wt a r.wd) dx1 fs _ _ _ (iA5 rfl h0 f3 ((zeI T r.wd).mono) ?_);refine iE3 y1 r p (iA5 rfl hKn' rfl hok (λ v' H6 s11 hN=>?_));refine ⟨_,iA3 (s11 _ _ e2) (zm (by have:=hV.len;rw [aT] at this;omega)) (iE2 _ (us2 ++ [v']) (iA4 rfl (λ b o hb=>?_) upd_same ?_))⟩
    ·rw [upd_ne (ne_of_none hb hac2)];exact s11 _ _ (s10 _ _ hb)
    ·rw [aR,hr'];refine Kns.append (hV.keep λ b o hp hb=>⟨hp,by rw [upd_ne hp.2];exact s11 _ _ hb⟩) (Kns.one (hN.keep λ b o hp hb=>?_));have q2:b≠ac2:=λ z=>by rw [z] at hp;rw [New,e2] at hp;cases hp
     exact ⟨⟨zK s10 hp,q2⟩,by rw [upd_ne q2];exact hb⟩
   ·intro σ H6 zz_;refine oE2 zz_ λ v us2 z1_=>oA4 z1_ λ z2_ s10 e2 hV=>?_;clear zz_;subst z2_;rw [hKs.len,aS] at hV;have hy10:=s10 _ _ hy9;walk_at "go";refine iE4 y a.q dx _ (iA6 rfl hy10 T.fK T.fJ (by show 1 < 1000;decide) ?_);have n2y:ac2≠y:=λ z=>by rw [z,hy9] at hac2;cases hac2
    have ho:∀ b,H5 b=none->b≠y->H b=none:=λ b h1 h2=>by
     cases e:H b with
     | none=>rfl
     | some o=>rw [o9 b o h2 e] at h1;cases h1
    refine kok _ acc ac2 us us2 ((o9.trans (Same.own s10)).trans jm) upd_same ?_ ?_ ?_ ?_ nacc (ho _ hac2 n2y)
    ·rw [upd_ne nacy];exact s10 _ _ e9
    ·rw [upd_ne n2y];exact e2
    ·exact hU9.keep λ b o hp hb=>⟨hp.1,by rw [upd_ne hp.2];exact s10 _ _ hb⟩
    ·refine hV.keep λ b o hp hb=>?_;have q:b≠y:=λ z=>by rw [z,hy9] at hp;cases hp.1
     exact ⟨ho b hp.1 q,by rw [upd_ne q];exact hb⟩
def Vy (T:Txt K mg a):KCal P w K mg base "Work" a.q 5 ["self","belts","knots"] [] (Zj K a):=T.kT.cal T.mC (Vp T)
noncomputable def zin (b:Int × Int):D:=.tup [.int b.1,.int b.2]
def Jj (n:Nat):(rgI n).length=n:=by simp [rgI]
def zah (n:Nat):rgI (n + 1)=rgI n ++ [(n:Int)]:=by simp [rgI,eR]
def zF (ns:List Int):(iv ns).length=ns.length:=by rw [iv,ai]
def ZY {ns:List Int} {i:Nat} {x:V} (h:(iv ns)[i]?=some x):∃ n,ns[i]?=some n/\x=.int n:=by
 rw [iv,aj,av] at h;obtain ⟨n,h1,h2⟩:=h;exact ⟨n,h1,h2.symm⟩
def qM {ns:List Int} {i:Nat} {n:Int} (h:ns[i]?=some n):(iv ns)[i]?=some (.int n):=by rw [iv,aj,h];rfl
theorem zeU (ns:List Int) (k:Nat):(iv ns).eraseIdx k=iv (ns.eraseIdx k):=by
 induction ns generalizing k with
 | nil=>simp [iv]
 | cons n ns ih =>
  cases k with
  | zero=>simp [iv]
  | succ k=>simpa [iv] using ih k
def je (ns:List Int) (n:Int):iv ns ++ [.int n]=iv (ns ++ [n]):=by simp [iv]
structure WInv (bs:List (Int × Int)) (rs:List Row) (es ks:List Int):Prop where
 tk:(qt rs ++ es).Perm (rgI bs.length)
 fd:(j7 rs ++ ks).Perm (rgI bs.length)
 ro:∀ r∈rs,r.ok
 bo:∀ b∈bs,zu b.1 b.2
def zbU (rs:List Row) (r:Row):j7 (rs ++ [r])=j7 rs ++ r.outs:=by simp [j7]
def WQ (rs:List Row) (r:Row):qt (rs ++ [r])=qt rs ++ r.ins:=by simp [qt]
theorem zcA {us:List V} {n:Nat} (h:us.length=n + 1):∃ a vs,us=a :: vs/\vs.length=n:=by
 cases us with
 | nil=>cases h
 | cons a vs=>exact ⟨a,vs,rfl,Nat.succ.inj h⟩
def two_of {us:List V} (h:us.length=2):∃ a b,us=[a,b]:=by
 obtain ⟨a,_,rfl,h1⟩:=zcA h;obtain ⟨b,_,rfl,h2⟩:=zcA h1;exact ⟨a,b,by rw [eF.mp h2]⟩
theorem zar:∀ {es:List Int} {j:Nat} {y:Int},es[j]?=some y->(y :: es.eraseIdx j).Perm es
 | [],_,_,h=>by simp at h
 | e :: es,0,y,h=>by
  have h:e=y:=by simpa using h
  subst h;simp
 | e :: es,j + 1,y,h=>by
  have ih:=zar (es:=es) (j:=j) (y:=y) (by simpa using h);rw [List.eraseIdx_cons_succ];exact (List.Perm.swap e y _).trans (ih.cons e)
def zf6 {n:Nat} {x:Int} (h:x∈rgI n):0<=x/\x < n:=by
 unfold rgI at h;obtain ⟨i,hi,rfl⟩:=aW.mp h;have:=aY.mp hi;omega
def wg {H:Hp} {p:Addr->Prop} {v:V} {b:Int × Int} (h:Rep H p v (zin b)):∃ t,v=.ref t/\H t=some (.tup [.int b.1,.int b.2]):=by
 obtain ⟨t,us,rfl,_,ht,rr⟩:=Rep.tup' h;have g:=rr.g;obtain ⟨x0,x1,rfl⟩:=two_of rr.len;have a0:=g 0 x0 _ rfl rfl;have a1:=g 1 x1 _ rfl rfl;cases a0;cases a1;exact ⟨t,rfl,ht⟩
noncomputable def zX (a:Ad) (bs:List (Int × Int)) (rs:List Row):D:=.ob a.q [("belts",.lst (bs.map (j8 a))),("knots",.lst (rs.map (vH a)))]
def zhS {l1 l2:Addr}:wf l1 l2=([(("belts":Str),V.ref l1),(("knots":Str),V.ref l2)]:List (Str × V)):=by
 unfold wf;simp only [qh];rw [am (by decide +kernel)]
def VQ {a:Ad} {bs:List (Int × Int)} {rs:List Row}:([("belts",.lst (bs.map (j8 a))),("knots",.lst (rs.map (vH a)))]:List (Str × D)).lookup ("belts":Str)=some (.lst (bs.map (j8 a))):=qZ
def zdU {a:Ad} {bs:List (Int × Int)} {rs:List Row}:([("belts",.lst (bs.map (j8 a))),("knots",.lst (rs.map (vH a)))]:List (Str × D)).lookup ("knots":Str)=some (.lst (rs.map (vH a))):=(zM (by decide +kernel)).trans qZ
def zhR {a:Ad} {bs:List (Int × Int)} {rs:List Row} {f:Str} (h1:f≠"belts") (h2:f≠"knots"):([("belts",.lst (bs.map (j8 a))),("knots",.lst (rs.map (vH a)))]:List (Str × D)).lookup f=none:=(zM h1).trans (zM h2)
def zeC {H:Hp} {x b:Addr} {o:HO} (h:H x=some o) (hb:H b=none):b ∉ [x]:=λ z=>by rw [ay.mp z,h] at hb;cases hb
section
variable {H:Hp} {z dz:Addr} {Q:VK} {EX:XK}
def vR {rm pc:Int} (hz:H z=none) (hdz:H dz=none) (ok:zu rm pc) (k:∀ H',Same H H'->BtP a H' (New H) (.ref z) (rm,pc)->Q .non H'):Zk a.h a.c [.ref z,.int rm,.int pc] (upd (upd H dz (.own z)) z (.ins a.h dz [])) Q EX:=by
 refine ⟨z,dz,rm,pc,rfl,upd_same,?_⟩;rw [aq ok,ZH];exact k _ (λ b o h=>by rw [upd_ne (ne_of_none h hz),upd_ne (ne_of_none h hdz)];exact h) (zgR hz upd_same)
def wm {y pc:Int} (hz:H z=none) (hdz:H dz=none) (h0:0<=pc) (h4:pc<=4) (k:∀ H',Same H H'->KnP a H' (New H) (.ref z) ⟨.drain,[y],[],pc,[]⟩->Q .non H'):xB a.k a.d [.ref z,.int y,.int pc] (upd (upd H dz (.own z)) z (.ins a.k dz [])) Q EX:=by
 refine ⟨z,dz,.int y,pc,rfl,upd_same,?_⟩;rw [aq ⟨h0,h4⟩];intro H' m1 m2 s' g1 g2 g3 n1 n2;exact k _ (Own.of_new hz hdz s') (zaH (p:=New H) (ins:=[y]) (outs:=[]) hz (zL n1) (zL n2) g1 g2 g3)
def wj {l:Addr} {y pc:Int} {kd:List Int} (hz:H z=none) (hdz:H dz=none) (hl:H l=some (.lst (iv kd))) (h1:1<=pc) (h4:pc<=4) (k1:1<=kd.length) (k6:kd.length<=6) (kk:wy kd) (k:∀ H',Same H H'->KnP a H' (New H) (.ref z) ⟨.source,[],[y],pc,kd⟩->Q .non H'):wB K a.j a.d [.ref z,.int y,.int pc,.ref l] (upd (upd H dz (.own z)) z (.ins a.j dz [])) Q EX:=by
 refine ⟨z,dz,l,.int y,pc,kd,rfl,upd_same,SqL.of (qo hz hdz hl),ne_of_none hl hz,λ _ H' m1 m2 m3 s' g1 g2 g3 g4 n1 n2 n3=>?_,λ hbad=>absurd ⟨h1,h4,k1,k6,kk⟩ hbad⟩;exact k _ (Own.of_new hz hdz s') (Wx (p:=New H) (ins:=[]) (outs:=[y]) hz (zL n1) (zL n2) (zL n3) g1 g2 g3 g4)
def Qz {l:Addr} {y:Int} {outs:List Int} (hz:H z=none) (hdz:H dz=none) (hl:H l=some (.lst (iv outs))) (h2:2<=outs.length) (h4:outs.length<=4) (k:∀ H',Same H H'->KnP a H' (New H) (.ref z) ⟨.parter,[y],outs,0,[]⟩->Q .non H'):qG K a.l a.d [.ref z,.int y,.ref l] (upd (upd H dz (.own z)) z (.ins a.l dz [])) Q EX:=by
 refine ⟨z,dz,l,.int y,iv outs,rfl,upd_same,SqL.of (qo hz hdz hl),ne_of_none hl hz,?_⟩;rw [aq (by rw [zF];exact ⟨h2,h4⟩)];intro H' m1 m2 s' g1 g2 g3 n1 n2;exact k _ (Own.of_new hz hdz s') (Wy (p:=New H) (ins:=[y]) (outs:=outs) hz (zL n1) (zL n2) g1 g2 g3)
def Xm {l:Addr} {y:Int} {outs:List Int} (hz:H z=none) (hdz:H dz=none) (hl:H l=some (.lst (iv outs))) (h2:2<=outs.length) (h4:outs.length<=4) (k:∀ H',Same H H'->KnP a H' (New H) (.ref z) ⟨.first,[y],outs,0,[]⟩->Q .non H'):qG K a.m a.d [.ref z,.int y,.ref l] (upd (upd H dz (.own z)) z (.ins a.m dz [])) Q EX:=by
 refine ⟨z,dz,l,.int y,iv outs,rfl,upd_same,SqL.of (qo hz hdz hl),ne_of_none hl hz,?_⟩;rw [aq (by rw [zF];exact ⟨h2,h4⟩)];intro H' m1 m2 s' g1 g2 g3 n1 n2;exact k _ (Own.of_new hz hdz s') (zaG (p:=New H) (ins:=[y]) (outs:=outs) hz (zL n1) (zL n2) g1 g2 g3)
def zeH {l:Addr} {y kk:Int} {outs:List Int} (hz:H z=none) (hdz:H dz=none) (hl:H l=some (.lst (iv outs))) (h2:outs.length=2) (k0:0<=kk) (k1:kk < jd) (k:∀ H',Same H H'->KnP a H' (New H) (.ref z) ⟨.sieve,[y],outs,0,[kk]⟩->Q .non H'):vd K a.n a.d [.ref z,.int y,.ref l,.int kk] (upd (upd H dz (.own z)) z (.ins a.n dz [])) Q EX:=by
 refine ⟨z,dz,l,.int y,iv outs,kk,rfl,upd_same,SqL.of (qo hz hdz hl),ne_of_none hl hz,?_⟩;rw [aq (by rw [zF];exact ⟨h2,k0,k1⟩)];intro H' m1 m2 s' g1 g2 g3 n1 n2;exact k _ (Own.of_new hz hdz s') (zaF (p:=New H) (ins:=[y]) (outs:=outs) hz (zL n1) (zL n2) g1 g2 g3)
def QA {l:Addr} {y:Int} {ins:List Int} (hz:H z=none) (hdz:H dz=none) (hl:H l=some (.lst (iv ins))) (h2:2<=ins.length) (h4:ins.length<=4) (k:∀ H',Same H H'->KnP a H' (New H) (.ref z) ⟨.joiner,ins,[y],0,[]⟩->Q .non H'):jt K a.o a.d [.ref z,.ref l,.int y] (upd (upd H dz (.own z)) z (.ins a.o dz [])) Q EX:=by
 refine ⟨z,dz,l,.int y,iv ins,rfl,upd_same,SqL.of (qo hz hdz hl),ne_of_none hl hz,?_⟩;rw [aq (by rw [zF];exact ⟨h2,h4⟩)];intro H' m1 m2 s' g1 g2 g3 n1 n2;exact k _ (Own.of_new hz hdz s') (Wz (p:=New H) (ins:=ins) (outs:=[y]) hz (zL n1) (zL n2) g1 g2 g3)
end
def WInv.knot {bs:List (Int × Int)} {rs:List Row} {es ks es' ks':List Int} {r:Row} (h:WInv bs rs es ks) (pe:(r.ins ++ es').Perm es) (pk:(r.outs ++ ks').Perm ks) (ok:r.ok):WInv bs (rs ++ [r]) es' ks':=by
 refine ⟨?_,?_,λ x hx=>?_,h.bo⟩
 ·rw [WQ,cv];exact (bY _ pe).trans h.tk
 ·rw [zbU,cv];exact (bY _ pk).trans h.fd
 ·rcases aD.mp hx with hx|hx
  ·exact h.ro x hx
  ·rw [ay.mp hx];exact ok
def WInv.perm {bs:List (Int × Int)} {rs:List Row} {es ks es' ks':List Int} (h:WInv bs rs es ks) (pe:es'.Perm es) (pk:ks'.Perm ks):WInv bs rs es' ks':=⟨(bY _ pe).trans h.tk,(bY _ pk).trans h.fd,h.ro,h.bo⟩
def WInv.belt {bs:List (Int × Int)} {rs:List Row} {es ks:List Int} {b:Int × Int} (h:WInv bs rs es ks) (hb:zu b.1 b.2):WInv (bs ++ [b]) rs (es ++ [(bs.length:Int)]) (ks ++ [(bs.length:Int)]):=by
 refine ⟨?_,?_,h.ro,λ x hx=>?_⟩
 ·rw [aP,d0,zah,<- cv];exact eO _ h.tk
 ·rw [aP,d0,zah,<- cv];exact eO _ h.fd
 ·rcases aD.mp hx with hx|hx
  ·exact h.bo x hx
  ·rw [ay.mp hx];exact hb
noncomputable abbrev ms3 (L R E:Addr):List Addr:=[L,R,E]
structure GS (a:Ad) (H0 H:Hp) (L R E:Addr) (bs:List (Int × Int)) (rs:List Row) (es:List Int):Prop where
 f:Fr (ms3 L R E) H0 H
 nLR:L≠R
 nLE:L≠E
 nRE:R≠E
 hL:∃ bvs,H L=some (.lst bvs)/\Reps H (Off (ms3 L R E)) bvs (bs.map (j8 a))
 hR:∃ rvs,H R=some (.lst rvs)/\Reps H (Off (ms3 L R E)) rvs (rs.map (vH a))
 hE:H E=some (.lst (iv es))
section
variable {H0 H H':Hp} {L R E:Addr} {bs bs':List (Int × Int)} {rs rs':List Row} {es es':List Int}
def GS.same (w:GS a H0 H L R E bs rs es) (s:Same H H'):GS a H0 H' L R E bs rs es:=by
 obtain ⟨bvs,h1,r1⟩:=w.hL;obtain ⟨rvs,h2,r2⟩:=w.hR;exact { w with f:=w.f.trans s.fr,hL:=⟨bvs,s _ _ h1,r1.same s⟩,hR:=⟨rvs,s _ _ h2,r2.same s⟩,hE:=s _ _ w.hE }
def GS.off (w:GS a H0 H L R E bs rs es) {x:Addr} (h:H x=none):x ∉ ms3 L R E:=λ z=>by
 obtain ⟨bvs,h1,_⟩:=w.hL;obtain ⟨rvs,h2,_⟩:=w.hR;have h3:=w.hE;simp only [ax,a8,bz] at z;rcases z with rfl|rfl|rfl
 ·rw [h1] at h;cases h
 ·rw [h2] at h;cases h
 ·rw [h3] at h;cases h
def GS.here (w:GS a H0 H L R E bs rs es):GS a H H L R E bs rs es:={ w with f:=Fr.refl }
def GS.trans (w:GS a H0 H L R E bs rs es) (v:GS a H H' L R E bs' rs' es'):GS a H0 H' L R E bs' rs' es':={ v with f:=w.f.trans v.f }
def GS.setE (w:GS a H0 H L R E bs rs es) (es':List Int):GS a H0 (upd H E (.lst (iv es'))) L R E bs rs es':=by
 obtain ⟨bvs,h1,r1⟩:=w.hL;obtain ⟨rvs,h2,r2⟩:=w.hR;have f:Fr (ms3 L R E) H (upd H E (.lst (iv es'))):=jH (by simp);exact { w with f:=w.f.trans f,hL:=⟨bvs,by rw [upd_ne w.nLE];exact h1,r1.fr f⟩,hR:=⟨rvs,by rw [upd_ne w.nRE];exact h2,r2.fr f⟩,hE:=upd_same }
def GS.addL (w:GS a H0 H L R E bs rs es) {H1:Hp} {v:V} {b:Int × Int} {bvs:List V} (e:H L=some (.lst bvs)) (s:Same H H1) (q:BtP a H1 (New H) v b):GS a H0 (upd H1 L (.lst (bvs ++ [v]))) L R E (bs ++ [b]) rs es/\bvs.length=bs.length:=by
 have w1:=w.same s;obtain ⟨bvs',h1,r1⟩:=w1.hL;rw [s _ _ e] at h1;cases h1;obtain ⟨rvs,h2,r2⟩:=w1.hR;have f:Fr (ms3 L R E) H1 (upd H1 L (.lst (bvs ++ [v]))):=jH (by simp);refine ⟨{ w1 with f:=w1.f.trans f,hL:=⟨_,upd_same,?_⟩,hR:=⟨rvs,by rw [upd_ne w.nLR.symm];exact h2,r2.fr f⟩,hE:=by rw [upd_ne w.nLE.symm];exact w1.hE },by rw [r1.len,ai]⟩;rw [a7];exact (r1.fr f).append (.one (Rep.fr (q.keep λ b o hb ho=>⟨w.off hb,ho⟩) f))
def GS.addR (w:GS a H0 H L R E bs rs es) {H1:Hp} {v:V} {r:Row} {rvs:List V} (e:H R=some (.lst rvs)) (s:Same H H1) (q:KnP a H1 (New H) v r):GS a H0 (upd H1 R (.lst (rvs ++ [v]))) L R E bs (rs ++ [r]) es/\rvs.length=rs.length:=by
 have w1:=w.same s;obtain ⟨bvs,h1,r1⟩:=w1.hL;obtain ⟨rvs',h2,r2⟩:=w1.hR;rw [s _ _ e] at h2;cases h2;have f:Fr (ms3 L R E) H1 (upd H1 R (.lst (rvs ++ [v]))):=jH (by simp);refine ⟨{ w1 with f:=w1.f.trans f,hL:=⟨bvs,by rw [upd_ne w.nLR];exact h1,r1.fr f⟩,hR:=⟨_,upd_same,?_⟩,hE:=by rw [upd_ne w.nRE.symm];exact w1.hE },by rw [r2.len,ai]⟩;rw [a7];exact (r2.fr f).append (.one (Rep.fr (q.keep λ b o hb ho=>⟨w.off hb,ho⟩) f))
end
def zeh {α:Type} (xs:List α) (k:Nat):(xs.drop k ++ xs.take k).Perm xs:=by
 refine List.perm_append_comm.trans ?_;rw [eX]
def zfd (xs:List V) (k:Nat) (h:k<=xs.length):XD xs (some (k:Int)) none=xs.drop k:=by
 unfold XD;rw [HT.sIx_nat,HT.sIx_none,Nat.min_eq_left h];exact da (by rw [dH];omega)
def zfc (xs:List V) (n:Nat):XD xs none (some (n:Int))=xs.take n:=by
 have h:=HT.sIx_nat xs.length xs.length n;unfold XD;rw [HT.sIx_none,h,Nat.sub_zero,List.drop_zero];by_cases e:n<=xs.length
 ·rw [Nat.min_eq_left e]
 ·rw [Nat.min_eq_right (by omega),aS,da (by omega)]
def Jm {H:Hp} {z dz L R:Addr} {Q:VK} {EX:XK} {bvs rvs:List V} {bs:List (Int × Int)} {rs:List Row} {p q:Addr->Prop} (hz:H z=none) (hdz:H dz=none) (hL:H L=some (.lst bvs)) (hR:H R=some (.lst rvs)) (rB:Reps H p bvs (bs.map (j8 a))) (rK:Reps H q rvs (rs.map (vH a))) (wok:zH bs rs) (bo:∀ b∈bs,zu b.1 b.2) (ro:∀ r∈rs,r.ok)
  (k:∀ H',Same H H'->Rep H' (Off []) (.ref z) (zX a bs rs)->Q .non H'):Zj K a [.ref z,.ref L,.ref R] (upd (upd H dz (.own z)) z (.ins a.q dz [])) Q EX:=by
 have lb:=wok.1.1.2;refine ⟨z,dz,L,R,bvs,rvs,bs,rs,λ b=>b≠z,rfl,upd_same,ne_of_none hL hz,ne_of_none hR hz,λ _ h=>h,qo hz hdz hL,qo hz hdz hR,
  (Bts.of rB).keep λ b o _ hb=>⟨ne_of_none hb hz,qo hz hdz hb⟩,(Kns.of rK).keep λ b o _ hb=>⟨ne_of_none hb hz,qo hz hdz hb⟩,bo,ro,by rw [wok.2.1.length_eq,Jj];omega,by rw [wok.2.2.length_eq,Jj];omega,by omega,λ _ H4 m1 m2 bv kv o4 g0 g1 g2 gB gK n1 n2=>?_,λ y=>absurd wok y⟩
 refine k _ (Own.of_new hz hdz o4) ?_;rw [zhS] at g0;exact wM (λ z=>nomatch z) g0 rfl (.cons (gB.reps.all.mk' (λ z=>nomatch z) g1) (.cons (gK.reps.all.mk' (λ z=>nomatch z) g2) .nil))
def WInv.work {bs:List (Int × Int)} {rs rs':List Row} (h:WInv bs rs [] []) (pm:rs'.Perm rs) (b24:bs.length<=24) (r1:1<=rs.length) (r24:rs.length<=24):zH bs rs'/\(∀ r∈rs',r.ok):=by
 have tk:=h.tk;have fd:=h.fd;rw [cn] at tk fd;have pl:=pm.length_eq;have b1:1<=bs.length:=by
  obtain ⟨r,rs0,rfl⟩:=cO (ci (by omega:0 < rs.length));have ok:=h.ro r (by simp);have lt:=tk.length_eq;have lf:=fd.length_eq;rw [Jj] at lt lf;have e1:(qt (r :: rs0)).length=r.ins.length + (qt rs0).length:=by simp [qt]
  have e2:(j7 (r :: rs0)).length=r.outs.length + (j7 rs0).length:=by simp [j7]
  have:1<=r.ins.length + r.outs.length:=by
   obtain ⟨wd,ins,outs,pc,kd⟩:=r;cases wd
   ·obtain ⟨_,⟨o,q⟩,_⟩:=ok;simp only at q;subst q;simp
   ·obtain ⟨⟨o,q⟩,_⟩:=ok;simp only at q;subst q;simp
   ·obtain ⟨⟨o,q⟩,_⟩:=ok;simp only at q;subst q;simp
   ·obtain ⟨⟨o,q⟩,_⟩:=ok;simp only at q;subst q;simp
   ·obtain ⟨⟨o,q⟩,_⟩:=ok;simp only at q;subst q;simp
   ·obtain ⟨⟨o,q⟩,_⟩:=ok;simp only at q;subst q;simp
  omega
 refine ⟨⟨⟨⟨b1,b24⟩,by omega,by omega⟩,?_,?_⟩,λ r hr=>h.ro r (pm.mem_iff.mp hr)⟩
 ·exact (pm.flatMap_right _).trans fd
 ·exact (pm.flatMap_right _).trans tk
def Told (H:Hp) (v:V) (r:Option (List V)):Prop:=match r with
 | none=>v=.non
 | some xs=>∃ p,v=.ref p/\H p=some (.tup xs)
theorem Told.same {H H':Hp} {v:V} {r:Option (List V)} (h:Told H v r) (s:Same H H'):Told H' v r:=by
 cases r with
 | none=>exact h
 | some xs=>exact let ⟨p,e,hp⟩:=h;⟨p,e,s _ _ hp⟩
noncomputable def WS (side:V) (p:Int) (t:Int) (b:Bool):Option (List V):=if b=true/\t % p=0 then some [.non,.int 0,side] else none
def JH (K:PySem.W.Frag) (C:Addr):Sp:=λ vs H Q _=>∃ (y dx l1 l2 l3 fl:Addr) (p t:Int) (hs side:V) (b:Bool) (bs:List V),vs=[.ref y,hs,.ref fl,.int t,side]/\H y=some (.ins C dx (sf l1 l2 p l3))/\1<=p /\
 SqL K H fl (.bl b :: bs)/\∀ v H',Same H H'->Told H' v (WS side p t b)->Q v H'
theorem Q6 (T:Txt K mg a):MCal P w K mg base a.j "choice" 1 ["self","heads","free","turn","side"] [] (JH K a.j):=T.ir.cal T.fT λ F=>by
 refine F.okx Qc ?_ ?_
 ·walk_at "i"
 walk_at "k";refine oE8 h λ y dx l1 l2 l3 fl p t z1_=>oE4 z1_ λ hs side b bs z2_=>oA5 z2_ λ z3_ hy p1 hf k=>?_;clear h;subst z3_;unfold WS at k;walk_at "T";refine ⟨_,(zi (zD (PW.pt (pw_or (qR (z7 (zr (pq 2) zd) (λ _=>rfl))) (pw_or1 (zo (vZ hr.units1) (zR jA (pq 3) (zl (pq 0) rfl)) zd (zq _)))))  (ze (zj zv))  zp)  (ze (zj (qS (za zv (za zd (za (pq 4) zc))))))),?_⟩;walk_at "go";refine zn hf at0 ?_;walk_at "go";cases b with
 | false =>
  rw [am (by simp)] at k;walk_at "go";exact k _ _ (Same.refl _) rfl
 | true =>
  walk_at "go";refine ra hy T.fT T.gb zfJ ?_;walk_at "go";refine zI (λ h=>?_) (λ h=>?_)
  ·rw [am (λ z=>h z.2)] at k;walk_at "go";exact k _ _ (Same.refl _) rfl
  ·rw [aq ⟨rfl,fe h⟩] at k;walk_at "go";intro q hq;exact k _ _ (zg hq) ⟨q,rfl,upd_same⟩
noncomputable def zbW (side:V) (p:Int) (t:Int) (hd:V):Option (List V):=if p=0\/hd=.non\/t % p≠0 then none else some [.int 0,.non,side]
def XN (K:PySem.W.Frag) (C:Addr):Sp:=λ vs H Q _=>∃ (y dx l1 l2 hl:Addr) (p t:Int) (fr side:V) (hd:V) (hs:List V),vs=[.ref y,.ref hl,fr,.int t,side]/\H y=some (.ins C dx (df l1 l2 p))/\0<=p/\p<=4 /\
 SqL K H hl (hd :: hs)/\∀ v H',Same H H'->Told H' v (zbW side p t hd)->Q v H'
def Xq (T:Txt K mg a):MCal P w K mg base a.k "choice" 1 ["self","heads","free","turn","side"] [] (XN K a.k):=T.iP.cal T.f9 λ F=>by
 refine F.okx Q4 ?_ ?_
 ·walk_at "i"
 walk_at "k";refine oE8 h λ y dx l1 l2 hl p t fr z1_=>oE3 z1_ λ side hd hs z2_=>oA6 z2_ λ z3_ hy p0 p4 hh k=>?_;clear h;subst z3_;unfold zbW at k;walk_at "T";refine ⟨_,(zi (zD (zo (j5 hr.units1) (zl (pq 0) rfl) zd (zq _))  (ze (zj zv))  zp)  (zi (zD (PW.pt (pw_or (zo qL (zr (pq 1) zd) zv (zq _)) (pw_or1 (zo (vZ hr.units1) (zR jA (pq 3) (zl (pq 0) rfl)) zd (zq _)))))  (ze (zj zv))  zp)  (ze (zj (qS (za zd (za zv (za (pq 4) zc)))))))),?_⟩;walk_at "go";refine ra hy T.f9 T.fU VF ?_;walk_at "go";refine zI (λ h1=>?_) (λ h1=>?_)
 ·rw [aq (.inl h1)] at k;walk_at "go";exact k _ _ (Same.refl _) rfl
 ·walk_at "go";refine zn hh at0 ?_;walk_at "go";refine zI (λ h2=>?_) (λ h2=>?_)
  ·rw [aq (.inr (.inl h2))] at k;walk_at "go";exact k _ _ (Same.refl _) rfl
  ·walk_at "go";refine ra hy T.f9 T.fU VF ?_;walk_at "go";refine And.intro (by omega) ?_;refine zI (λ h3=>?_) (λ h3=>?_)
   ·rw [aq (.inr (.inr h3))] at k;walk_at "go";exact k _ _ (Same.refl _) rfl
   ·rw [am (λ z=>z.elim h1 λ z=>z.elim h2 h3)] at k;walk_at "go";intro q hq;exact k _ _ (zg hq) ⟨q,rfl,upd_same⟩
noncomputable def zgK (n:Nat) (p:Option Nat):Option (List V):=p.map λ (p:Nat)=>[.int 0,.int p,.int ((p + 1) % n:Nat)]
def JI (K:PySem.W.Frag) (C:Addr):Sp:=λ vs H Q _=>∃ (y dx l1 l2 hl fl:Addr) (turn:V) (side:Nat) (hd:V) (hs outs:List V) (bs:List Bool),vs=[.ref y,.ref hl,.ref fl,turn,.int side]/\H y=some (.ins C dx (kf l1 l2))/\H l2=some (.lst outs) /\
 SqL K H hl (hd :: hs)/\SqL K H fl (bs.map V.bl)/\bs.length=outs.length/\bs.length<=1000 /\
 ∀ v H',Same H H'->Told H' v (if hd=.non then none else zgK bs.length (jC bs side))->Q v H'
theorem Q8 (T:Txt K mg a):MCal P w K mg base a.l "choice" 3 ["self","heads","free","turn","side"] [] (JI K a.l):=T.iw.cal T.gi λ F=>by
 refine F.okx Qe ?_ ?_
 ·walk_at "i"
 walk_at "k";refine oE8 h λ y dx l1 l2 hl fl turn side z1_=>oE4 z1_ λ hd hs outs bs z2_=>oA8 z2_ λ z3_ hy h2 hh hf hbl hb k=>?_;clear h;subst z3_;walk_at "T";refine ⟨_,(zi (zx 5 Qe.nd (zt ⟨rfl,rfl,rfl⟩ hr (za (zr (pq 1) zd) (za (pq 2) (za (pq 4) zc)))))  (zi (zD (zo qL (pq 5) zv (zq _))  (ze (zj zv))  zp)  (ze (zj (qS (za zd (za (pq 5) (za (zR jA (zR qq (pq 5) zd) (zJ zS zQ (za (zl (pq 0) rfl) zc))) zc)))))))),?_⟩;walk_at "go";refine iE3 _ _ _ ⟨wu T,zn hh at0 (iE4 hd fl bs side (iA4 rfl hf hb ?_))⟩;by_cases hn:hd=.non
 ·rw [aq hn] at k ⊢;walk_at "go";exact k _ _ (Same.refl _) rfl
 ·rw [am hn] at k ⊢;cases hp:jC bs side with
  | none =>
   rw [hp] at k;simp only [vX];walk_at "go";exact k _ _ (Same.refl _) rfl
  | some p =>
   rw [hp] at k;simp only [vX];have hlt:=wq hp;walk_at "go";refine ra hy T.gi T.gc zgc ⟨_,.inl ⟨_,SqL.of h2,rfl⟩,?_⟩;walk_at "go";rw [<- hbl];refine And.intro (by omega) ?_;walk_at "go";intro q hq;have e:((p:Int) + 1) % (bs.length:Int)=(((p + 1) % bs.length:Nat):Int):=by push_cast;rfl
   rw [e];exact k _ _ (zg hq) ⟨q,rfl,upd_same⟩
noncomputable def ze7 (side:V) (p:Option Nat):Option (List V):=p.map λ (p:Nat)=>[.int 0,.int p,side]
def XM (K:PySem.W.Frag):Sp:=λ vs H Q _=>∃ (y hl fl:Addr) (turn side:V) (hd:V) (hs:List V) (bs:List Bool),vs=[.ref y,.ref hl,.ref fl,turn,side] /\
 SqL K H hl (hd :: hs)/\SqL K H fl (bs.map V.bl)/\bs.length<=1000/\∀ v H',Same H H'->Told H' v (if hd=.non then none else ze7 side (jC bs 0))->Q v H'
theorem vE (T:Txt K mg a):MCal P w K mg base a.m "choice" 3 ["self","heads","free","turn","side"] [] (XM K):=T.gJ.cal T.fS λ F=>by
 refine F.okx w6 ?_ ?_
 ·walk_at "i"
 walk_at "k";refine oE8 h λ y hl fl turn side hd hs bs z1_=>oA5 z1_ λ z2_ hh hf hb k=>?_;clear h;subst z2_;walk_at "T";refine ⟨_,(zi (zx 5 w6.nd (zt ⟨rfl,rfl,rfl⟩ hr (za (zr (pq 1) zd) (za (pq 2) (za zd zc)))))  (zi (zD (zo qL (pq 5) zv (zq _))  (ze (zj zv))  zp)  (ze (zj (qS (za zd (za (pq 5) (za (pq 4) zc)))))))),?_⟩;walk_at "go";refine iE3 _ _ _ ⟨wu T,zn hh at0 (iE4 hd fl bs 0 (iA4 rfl hf hb ?_))⟩;by_cases hn:hd=.non
 ·rw [aq hn] at k ⊢;walk_at "go";exact k _ _ (Same.refl _) rfl
 ·rw [am hn] at k ⊢;cases hp:jC bs 0 with
  | none =>
   rw [hp] at k;simp only [vX];walk_at "go";exact k _ _ (Same.refl _) rfl
  | some p =>
   rw [hp] at k;simp only [vX];walk_at "go";intro q hq;exact k _ _ (zg hq) ⟨q,rfl,upd_same⟩
def zfC (C:Addr):Sp:=λ vs H Q _=>∃ (y dx l1 l2:Addr) (n j:Int),vs=[.ref y,.int j]/\H y=some (.ins C dx (vf l1 l2 n))/\Q (.int (if j=n then 0 else 1)) H
def Zb (T:Txt K mg a):MCal P w K mg base a.n "place_for" 1 ["self","kind"] [] (zfC a.n):=T.hJ.cal T.fN λ F=>by
 refine F.okx Zo ?_ ?_
 ·walk_at "i"
 walk_at "k";refine oE6 h λ y dx l1 l2 n j z1_=>oA3 z1_ λ z2_ hy k=>?_;clear h;subst z2_;walk_at "T";refine ⟨_,(ze (zj (jQ (zo (j5 hr.units1) (pq 1) (zl (pq 0) rfl) (zq _)) zd zd))),?_⟩;walk_at "go";refine ra hy T.fN T.gj zfw ?_;walk_at "go";refine zI (λ h=>?_) (λ h=>?_)
 ·rw [aq h] at k;walk_at "go";exact k
 ·rw [am h] at k;walk_at "go";exact k
noncomputable def zbc (side:V) (n:Int) (bs:List Bool) (hd:V):Option (List V):=if hd=.non then none else if bs.getD (if hd=.int n then 0 else 1) false=true then some [.int 0,.int (if hd=.int n then 0 else 1),side] else none
def XL (K:PySem.W.Frag) (C:Addr):Sp:=λ vs H Q _=>∃ (y dx l1 l2 hl fl:Addr) (n:Int) (turn side:V) (hd:V) (hs:List V) (bs:List Bool),vs=[.ref y,.ref hl,.ref fl,turn,side]/\H y=some (.ins C dx (vf l1 l2 n)) /\
 SqL K H hl (hd :: hs)/\(hd=.non\/∃ j,hd=.int j)/\SqL K H fl (bs.map V.bl)/\bs.length=2/\∀ v H',Same H H'->Told H' v (zbc side n bs hd)->Q v H'
theorem Xo (T:Txt K mg a):MCal P w K mg base a.n "choice" 2 ["self","heads","free","turn","side"] [] (XL K a.n):=T.iR.cal T.fN λ F=>by
 refine F.okx Q2 ?_ ?_
 ·walk_at "i"
 walk_at "k";refine oE8 h λ y dx l1 l2 hl fl n turn z1_=>oE4 z1_ λ side hd hs bs z2_=>oA7 z2_ λ z3_ hy hh hhd hf hb k=>?_;clear h;subst z3_;walk_at "T";refine ⟨_,(zi (zD (zo qL (zr (pq 1) zd) zv (zq _))  (ze (zj zv))  zp)  (zi (zx 5 Q2.nd (Vl ⟨rfl,rfl,rfl⟩ hr (pq 0) (za (zr (pq 1) zd) zc)))  (zi (zD (qR (z7 (zr (pq 2) (pq 5)) (λ _=>rfl)))  (ze (zj zv))  zp)  (ze (zj (qS (za zd (za (pq 5) (za (pq 4) zc))))))))),?_⟩;walk_at "go";refine zn hh at0 ?_;rcases hhd with rfl|⟨j,rfl⟩
 ·walk_at "go";exact k _ _ (Same.refl _) rfl
 ·walk_at "go";refine iE7 y a.n dx _ _ _ _ (iA5 rfl hy (zgB (by decide +kernel) (by decide +kernel) (by decide +kernel)) (Zb T) (zn hh at0 (iE6 y dx l1 l2 n j (iA3 rfl hy ?_))));walk_at "go";obtain ⟨pp,hpp,hp2⟩:∃ pp:Nat,(if j=n then (0:Int) else 1)=pp/\pp < 2:=by split;exact ⟨0,rfl,by decide⟩;exact ⟨1,rfl,by decide⟩
  have e1:(if V.int j=V.int n then (0:Nat) else 1)=pp:=by
   by_cases h:j=n
   ·rw [aq h] at hpp;rw [aq (by rw [h])];omega
   ·rw [am h] at hpp;rw [am (λ z=>h (by cases z;rfl))];omega
  have e2:(if V.int j=V.int n then (0:Int) else 1)=pp:=by
   by_cases h:j=n
   ·rw [aq h] at hpp;rw [aq (by rw [h])];omega
   ·rw [am h] at hpp;rw [am (λ z=>h (by cases z;rfl))];omega
  rw [hpp];have hlt:pp < bs.length:=by omega
  refine zn hf (zy (by rw [aj,ac hlt];rfl)) ?_;have eg:bs.getD pp false=bs[pp]:=by simp [hlt]
  unfold zbc at k;rw [am (by intro z;cases z),e1,e2,eg] at k;walk_at "go";cases hbb:bs[pp] with
  | true =>
   rw [hbb,aq rfl] at k;walk_at "go";intro q hq;exact k _ _ (zg hq) ⟨q,rfl,upd_same⟩
  | false =>
   rw [hbb,am (by decide)] at k;walk_at "go";exact k _ _ (Same.refl _) rfl
noncomputable def zgN (n:Nat) (p:Option Nat):Option (List V):=p.map λ (p:Nat)=>[.int p,.int 0,.int ((p + 1) % n:Nat)]
noncomputable def there (hs:List V):List Bool:=hs.map λ h=>!decide (h=.non)
def JK (K:PySem.W.Frag) (C:Addr):Sp:=λ vs H Q _=>∃ (y dx l1 l2 hl fl:Addr) (turn:V) (side:Nat) (hs ins:List V) (b:Bool) (bs:List V),vs=[.ref y,.ref hl,.ref fl,turn,.int side]/\H y=some (.ins C dx (kf l1 l2))/\H l1=some (.lst ins) /\
 SqL K H hl hs/\SqL K H fl (.bl b :: bs)/\hs.length=ins.length/\hs.length<=900/\∀ v H',Same H H'->Told H' v (if b=true then zgN hs.length (jC (there hs) side) else none)->Q v H'
theorem Ja (T:Txt K mg a):MCal P w K mg base a.o "choice" 2 ["self","heads","free","turn","side"] [] (JK K a.o):=T.iy.cal T.gk λ F=>by
 refine F.okx Qg ?_ ?_
 ·walk_at "i"
 walk_at "k";refine oE8 h λ y dx l1 l2 hl fl turn side z1_=>oE4 z1_ λ hs ins b bs z2_=>oA8 z2_ λ z3_ hy h1 hh hf hlen hb k=>?_;clear h;subst z3_;walk_at "T";refine ⟨_,(zi (zD (qR (z7 (zr (pq 2) zd) (λ _=>rfl)))  (ze (zj zv))  zp)  (zi (zx 5 Qg.nd (zt ⟨rfl,rfl,rfl⟩ hr (za (jY (vars:=["head"]) (caps:=[]) (N:=["head"]) (ON:=["self","heads","free","turn","side","place"]) (osc:=zf jl) rfl rfl (by first|decide +kernel|kernel_rfl) rfl rfl (qd (pq 1)) (λ s H fp pins=>(qk 0 (show (["head"]:List Str).Nodup from by decide +kernel))) (λ s H fp pins=>qf) (λ s H fp pins=>(jz op_notN (pq 0) zv (zq _)))) (za (pq 4) zc))))  (zi (zD (zo qL (pq 5) zv (zq _))  (ze (zj zv))  zp)  (ze (zj (qS (za (pq 5) (za zd (za (zR jA (zR qq (pq 5) zd) (zJ zS zQ (za (zl (pq 0) rfl) zc))) zc))))))))),?_⟩;walk_at "go";refine zn hf at0 ?_;walk_at "go";cases b with
 | false =>
  rw [am (by decide)] at k;walk_at "go";exact k _ _ (Same.refl _) rfl
 | true =>
  rw [aq rfl] at k;walk_at "go";refine iE3 _ _ _ ⟨Zg T,?_⟩;walk_at "lc";walk_at "go";refine ⟨hl,rfl,.inl ⟨⟨_,hh⟩,λ _ _ _ _ acc hacc=>?_⟩⟩;refine qE (K:=K) (a:=hl) (xs:=hs) (λ i σ H'=>∃ (v:Option V),σ=[v]/\Same H H'/\H' acc=some (.lst ((there (hs.take i)).map V.bl))) ⟨_,iA3 rfl (zg hacc) upd_same⟩ (λ i σ H' _ ⟨_,_,s,_⟩=>s.seq hh) ?_ ?_
  ·intro i x σ H' hi zz_;refine oE1 zz_ λ v z1_=>oA3 z1_ λ z2_ s ha=>?_;clear zz_;subst z2_;walk_at "go";refine ⟨_,iA3 ha ?_ ⟨_,iA3 rfl ?_ ?_⟩⟩
   ·simp only [there,ai,aT];exact zm (by omega)
   ·intro b o hb;rw [upd_ne (ne_of_none hb hacc)];exact s b o hb
   ·rw [upd_same,fA,hi];simp [there]
  ·intro σ H' zz_;refine oE1 zz_ λ v z1_=>oA3 z1_ λ z2_ s ha=>?_;clear zz_;subst z2_;rw [aS] at ha;refine iE3 acc (there hs) side (iA4 rfl (SqL.of ha) (by simp [there];omega) ?_);have hlt:(there hs).length=hs.length:=by simp [there]
   cases hp:jC (there hs) side with
   | none =>
    rw [hp] at k;simp only [vX];walk_at "go";exact k _ _ s rfl
   | some p =>
    rw [hp] at k;simp only [vX];have hlt':=wq hp;walk_at "go";refine ra (s _ _ hy) T.gk T.gm zhw ⟨_,.inl ⟨_,SqL.of (s _ _ h1),rfl⟩,?_⟩;walk_at "go";rw [<- hlen];refine And.intro (by omega) ?_;walk_at "go";intro q hq;have e:((p:Int) + 1) % (hs.length:Int)=(((p + 1) % hs.length:Nat):Int):=by push_cast;rfl
    rw [e];exact k _ _ (s.trans (zg hq)) ⟨q,rfl,upd_same⟩
def MCal.imp {C:Addr} {m:Str} {k:Nat} {ps:List Str} {dvs:List V} {sp sp':Sp} (c:MCal P w K mg base C m k ps dvs sp) (h:∀ vs H Q E,sp' vs H Q E->sp vs H Q E):MCal P w K mg base C m k ps dvs sp' :=
 let ⟨f,fd,ds,x,y⟩:=c.ex;⟨c.cl,f,fd,ds,x.imp h,y⟩
theorem VC {fs:List (Str × V)} {k:Str} {ks:List Str} (n:fs.map (·.1)=k :: ks):∃ v gs,fs=(k,v) :: gs/\gs.map (·.1)=ks:=by
 cases fs with
 | nil=>cases n
 | cons x gs =>
  obtain ⟨k',v⟩:=x;injection n with n1 n2
  exact ⟨v,gs,by rw [<- n1],n2⟩
def zhH {fs:List (Str × V)} (n:fs.map (·.1)=[]):fs=[]:=List.map_eq_nil_iff.mp n
def fs2 {H:Hp} {p:Addr->Prop} {fs:List (Str × V)} {k1 k2:Str} {d1 d2:D} (n:fs.map (·.1)=[k1,k2]) (g:∀ (i:Nat) f g,fs[i]?=some f->[(k1,d1),(k2,d2)][i]?=some g->Rep H p f.2 g.2):∃ v1 v2,fs=[(k1,v1),(k2,v2)]/\Rep H p v1 d1/\Rep H p v2 d2:=by
 obtain ⟨v1,f1,rfl,n1⟩:=VC n;obtain ⟨v2,f2,rfl,n2⟩:=VC n1;obtain rfl:=zhH n2;exact ⟨v1,v2,rfl,g 0 _ _ rfl rfl,g 1 _ _ rfl rfl⟩
section
variable {H:Hp} {p:Addr->Prop} {y:Addr} {ins outs kinds:List Int} {pace:Int}
def KnP.parter (h:KnP a H p (.ref y) ⟨.parter,ins,outs,pace,kinds⟩):∃ dx l1 l2,H y=some (.ins a.l dx (kf l1 l2))/\H l2=some (.lst (iv outs)):=by
 cases h with|ob _ hy n g =>
  obtain ⟨v1,v2,rfl,r1,r2⟩:=fs2 n g;obtain ⟨l1,rfl,_,_⟩:=r1.ints';obtain ⟨l2,rfl,_,h2⟩:=r2.ints';exact ⟨_,l1,l2,by rw [Xs];exact hy,h2⟩
end
def fs3 {H:Hp} {p:Addr->Prop} {fs:List (Str × V)} {k1 k2 k3:Str} {d1 d2 d3:D} (n:fs.map (·.1)=[k1,k2,k3]) (g:∀ (i:Nat) f g,fs[i]?=some f->[(k1,d1),(k2,d2),(k3,d3)][i]?=some g->Rep H p f.2 g.2):∃ v1 v2 v3,fs=[(k1,v1),(k2,v2),(k3,v3)]/\Rep H p v1 d1/\Rep H p v2 d2/\Rep H p v3 d3:=by
 obtain ⟨v1,f1,rfl,n1⟩:=VC n;obtain ⟨v2,f2,rfl,n2⟩:=VC n1;obtain ⟨v3,f3,rfl,n3⟩:=VC n2;obtain rfl:=zhH n3;exact ⟨v1,v2,v3,rfl,g 0 _ _ rfl rfl,g 1 _ _ rfl rfl,g 2 _ _ rfl rfl⟩
def fs4 {H:Hp} {p:Addr->Prop} {fs:List (Str × V)} {k1 k2 k3 k4:Str} {d1 d2 d3 d4:D} (n:fs.map (·.1)=[k1,k2,k3,k4]) (g:∀ (i:Nat) f g,fs[i]?=some f->[(k1,d1),(k2,d2),(k3,d3),(k4,d4)][i]?=some g->Rep H p f.2 g.2):∃ v1 v2 v3 v4,fs=[(k1,v1),(k2,v2),(k3,v3),(k4,v4)]/\Rep H p v1 d1/\Rep H p v2 d2/\Rep H p v3 d3/\Rep H p v4 d4:=by
 obtain ⟨v1,f1,rfl,n1⟩:=VC n;obtain ⟨v2,f2,rfl,n2⟩:=VC n1;obtain ⟨v3,f3,rfl,n3⟩:=VC n2;obtain ⟨v4,f4,rfl,n4⟩:=VC n3;obtain rfl:=zhH n4;exact ⟨v1,v2,v3,v4,rfl,g 0 _ _ rfl rfl,g 1 _ _ rfl rfl,g 2 _ _ rfl rfl,g 3 _ _ rfl rfl⟩
section
variable {H:Hp} {p:Addr->Prop} {y:Addr} {ins outs kinds:List Int} {pace:Int}
def KnP.source (h:KnP a H p (.ref y) ⟨.source,ins,outs,pace,kinds⟩):∃ dx l1 l2 l3,H y=some (.ins a.j dx (sf l1 l2 pace l3)):=by
 cases h with|ob _ hy n g =>
  obtain ⟨v1,v2,v3,v4,rfl,r1,r2,r3,r4⟩:=fs4 n g;obtain ⟨l1,rfl,_,_⟩:=r1.ints';obtain ⟨l2,rfl,_,_⟩:=r2.ints';cases r3;obtain ⟨l4,rfl,_,_⟩:=r4.ints';exact ⟨_,l1,l2,l4,by rw [zgH];exact hy⟩
def KnP.drain (h:KnP a H p (.ref y) ⟨.drain,ins,outs,pace,kinds⟩):∃ dx l1 l2,H y=some (.ins a.k dx (df l1 l2 pace)):=by
 cases h with|ob _ hy n g =>
  obtain ⟨v1,v2,v3,rfl,r1,r2,r3⟩:=fs3 n g;obtain ⟨l1,rfl,_,_⟩:=r1.ints';obtain ⟨l2,rfl,_,_⟩:=r2.ints';cases r3;exact ⟨_,l1,l2,by rw [ze9];exact hy⟩
def KnP.sieve {k:Int} (h:KnP a H p (.ref y) ⟨.sieve,ins,outs,pace,[k]⟩):∃ dx l1 l2,H y=some (.ins a.n dx (vf l1 l2 k)):=by
 cases h with|ob _ hy n g =>
  obtain ⟨v1,v2,v3,rfl,r1,r2,r3⟩:=fs3 n g;obtain ⟨l1,rfl,_,_⟩:=r1.ints';obtain ⟨l2,rfl,_,_⟩:=r2.ints';cases r3;exact ⟨_,l1,l2,by rw [zgC];exact hy⟩
def KnP.joiner (h:KnP a H p (.ref y) ⟨.joiner,ins,outs,pace,kinds⟩):∃ dx l1 l2,H y=some (.ins a.o dx (kf l1 l2))/\H l1=some (.lst (iv ins)):=by
 cases h with|ob _ hy n g =>
  obtain ⟨v1,v2,rfl,r1,r2⟩:=fs2 n g;obtain ⟨l1,rfl,_,h1⟩:=r1.ints';obtain ⟨l2,rfl,_,_⟩:=r2.ints';exact ⟨_,l1,l2,by rw [Xs];exact hy,h1⟩
end
noncomputable def hdV:Option Int->V
 | none=>.non
 | some k=>.int k
noncomputable def zO (r:Row) (hs:List (Option Int)) (bs:List Bool) (t:Int) (side:Nat):Option (Option Nat × Option Nat × Nat):=match r.wd with
 | .source=>if bs.getD 0 false=true/\t % r.pace=0 then some (none,some 0,side) else none
 | .drain=>if r.pace=0\/hs.getD 0 none=none\/t % r.pace≠0 then none else some (some 0,none,side)
 | .parter=>if hs.getD 0 none=none then none else (jC bs side).map λ p=>(some 0,some p,(p + 1) % bs.length)
 | .first=>if hs.getD 0 none=none then none else (jC bs 0).map λ p=>(some 0,some p,side)
 | .sieve=>if hs.getD 0 none=none then none else if bs.getD (if hs.getD 0 none=some (r.kinds.headD 0) then 0 else 1) false=true then some (some 0,some (if hs.getD 0 none=some (r.kinds.headD 0) then 0 else 1),side) else none
 | .joiner=>if bs.getD 0 false=true then (jC (hs.map Option.isSome) side).map λ p=>(some p,some 0,(p + 1) % hs.length) else none
noncomputable def chV (x:Option Nat × Option Nat × Nat):List V:=[vX x.1,vX x.2.1,.int (x.2.2:Nat)]
def zea (K:PySem.W.Frag) (a:Ad) (wd:Wd):Sp:=λ vs H Q _=>∃ (y hl fl:Addr) (r:Row) (p:Addr->Prop) (hs:List (Option Int)) (bs:List Bool) (t:Int) (side:Nat),vs=[.ref y,.ref hl,.ref fl,.int t,.int side]/\KnP a H p (.ref y) r/\r.wd=wd/\r.ok /\
 H hl=some (.lst (hs.map hdV))/\H fl=some (.lst (bs.map V.bl))/\hs.length=r.ins.length/\bs.length=r.outs.length/\∀ v H',Same H H'->Told H' v ((zO r hs bs t side).map chV)->Q v H'
def Jr {x:Option Int}:(hdV x=.non)=(x=none):=by
 cases x <;> simp [hdV]
def zdZ (hs:List (Option Int)):there (hs.map hdV)=hs.map Option.isSome:=by
 simp only [there,dW]
 congr 1
 funext x
 cases x <;> simp [hdV]
theorem zeJ (T:Txt K mg a) (wd:Wd):MCal P w K mg base (wt a wd) "choice" 3 ["self","heads","free","turn","side"] [] (zea K a wd):=by
 cases wd with
 | source =>
  refine MCal.imp (Q6 T).mono λ vs H Q E h=>?_;obtain ⟨y,hl,fl,⟨wd,ins,outs,pace,kinds⟩,p,hs,bs,t,side,rfl,hK,hw,ok,hh,hf,l1,l2,k⟩:=h;simp only at hw;subst hw;obtain ⟨dx,m1,m2,m3,hy⟩:=hK.source;obtain ⟨_,⟨o,eo⟩,p1,_⟩:=ok;simp only at eo p1 l2;subst eo
  match bs,l2 with
  | [b],_ =>
   refine ⟨y,dx,m1,m2,m3,fl,pace,t,_,_,b,[],rfl,hy,p1,SqL.of hf,λ v H' s ht=>k v H' s ?_⟩;unfold WS at ht;simp only [zO];by_cases hc:b=true/\t % pace=0
   ·rw [aq hc] at ht;rw [aq (by simpa using hc)];exact ht
   ·rw [am hc] at ht;rw [am (by simpa using hc)];exact ht
 | drain =>
  refine MCal.imp (Xq T).mono λ vs H Q E h=>?_;obtain ⟨y,hl,fl,⟨wd,ins,outs,pace,kinds⟩,p,hs,bs,t,side,rfl,hK,hw,ok,hh,hf,l1,l2,k⟩:=h;simp only at hw;subst hw;obtain ⟨dx,m1,m2,hy⟩:=hK.drain;obtain ⟨⟨o,eo⟩,_,p1,p4⟩:=ok;simp only at eo p1 p4 l1;subst eo
  match hs,l1 with
  | [hd],_ =>
   refine ⟨y,dx,m1,m2,hl,pace,t,_,_,hdV hd,[],rfl,hy,p1,p4,SqL.of hh,λ v H' s ht=>k v H' s ?_⟩;unfold zbW at ht;simp only [Jr] at ht;simp only [zO];by_cases hc:pace=0\/hd=none\/t % pace≠0
   ·rw [aq hc] at ht;rw [aq (by simpa using hc)];exact ht
   ·rw [am hc] at ht;rw [am (by simpa using hc)];exact ht
 | parter =>
  refine MCal.imp (Q8 T).mono λ vs H Q E h=>?_;obtain ⟨y,hl,fl,⟨wd,ins,outs,pace,kinds⟩,p,hs,bs,t,side,rfl,hK,hw,ok,hh,hf,l1,l2,k⟩:=h;simp only at hw;subst hw;obtain ⟨dx,m1,m2,hy,h2⟩:=hK.parter;obtain ⟨⟨o,eo⟩,q1,q2⟩:=ok;simp only at eo l1 l2 q1 q2;subst eo
  match hs,l1 with
  | [hd],_ =>
   refine ⟨y,dx,m1,m2,hl,fl,_,side,hdV hd,[],iv outs,bs,rfl,hy,h2,SqL.of hh,SqL.of hf,by rw [zF];exact l2,by omega,λ v H' s ht=>k v H' s ?_⟩;simp only [Jr] at ht;simp only [zO];by_cases hc:hd=none
   ·rw [aq hc] at ht;rw [aq (by simpa using hc)];exact ht
   ·rw [am hc] at ht;rw [am (by simpa using hc)];unfold zgK at ht;rw [dX];exact ht
 | first =>
  refine MCal.imp (vE T).mono λ vs H Q E h=>?_;obtain ⟨y,hl,fl,⟨wd,ins,outs,pace,kinds⟩,p,hs,bs,t,side,rfl,hK,hw,ok,hh,hf,l1,l2,k⟩:=h;simp only at hw;subst hw;obtain ⟨⟨o,eo⟩,q1,q2⟩:=ok;simp only at eo l1 l2 q1 q2;subst eo
  match hs,l1 with
  | [hd],_ =>
   refine ⟨y,hl,fl,_,_,hdV hd,[],bs,rfl,SqL.of hh,SqL.of hf,by omega,λ v H' s ht=>k v H' s ?_⟩;simp only [Jr] at ht;simp only [zO];by_cases hc:hd=none
   ·rw [aq hc] at ht;rw [aq (by simpa using hc)];exact ht
   ·rw [am hc] at ht;rw [am (by simpa using hc)];unfold ze7 at ht;rw [dX];exact ht
 | sieve =>
  refine MCal.imp (Xo T).mono λ vs H Q E h=>?_;obtain ⟨y,hl,fl,⟨wd,ins,outs,pace,kinds⟩,p,hs,bs,t,side,rfl,hK,hw,ok,hh,hf,l1,l2,k⟩:=h;simp only at hw;subst hw;obtain ⟨⟨o,eo⟩,q1,kk,q2,_⟩:=ok;simp only at eo l1 l2 q1 q2;subst eo q2;obtain ⟨dx,m1,m2,hy⟩:=hK.sieve
  match hs,l1 with
  | [hd],_ =>
   refine ⟨y,dx,m1,m2,hl,fl,kk,_,_,hdV hd,[],bs,rfl,hy,SqL.of hh,by cases hd;exact .inl rfl;exact .inr ⟨_,rfl⟩,SqL.of hf,by omega,λ v H' s ht=>k v H' s ?_⟩;unfold zbc at ht;simp only [Jr] at ht;simp only [zO];by_cases hc:hd=none
   ·rw [aq hc] at ht;rw [aq (by simpa using hc)];exact ht
   ·rw [am hc] at ht;rw [am (by simpa using hc)];have e:(hdV hd=.int kk)=([hd].getD 0 none=some (List.headD [kk] 0)):=by
     cases hd with
     | none=>exact absurd rfl hc
     | some x=>simp [hdV]
    have e1:(if hdV hd=V.int kk then (0:Nat) else 1)=(if [hd].getD 0 none=some (List.headD [kk] 0) then 0 else 1):=by simp only [e]
    have e2:(if hdV hd=V.int kk then (0:Int) else 1)=((if [hd].getD 0 none=some (List.headD [kk] 0) then 0 else 1:Nat):Int):=by simp only [e];split <;> rfl
    rw [e1,e2] at ht;generalize (if [hd].getD 0 none=some (List.headD [kk] 0) then 0 else 1)=q at ht ⊢;by_cases hb:bs.getD q false=true
    ·rw [aq hb] at ht ⊢;exact ht
    ·rw [am hb] at ht ⊢;exact ht
 | joiner =>
  refine MCal.imp (Ja T).mono λ vs H Q E h=>?_;obtain ⟨y,hl,fl,⟨wd,ins,outs,pace,kinds⟩,p,hs,bs,t,side,rfl,hK,hw,ok,hh,hf,l1,l2,k⟩:=h;simp only at hw;subst hw;obtain ⟨⟨o,eo⟩,q1,q2⟩:=ok;simp only at eo l1 l2 q1 q2;subst eo;obtain ⟨dx,m1,m2,hy,h1⟩:=hK.joiner
  match bs,l2 with
  | [b],_ =>
   refine ⟨y,dx,m1,m2,hl,fl,_,side,hs.map hdV,iv ins,b,[],rfl,hy,h1,SqL.of hh,SqL.of hf,by rw [ai,zF];exact l1,by rw [ai];omega,λ v H' s ht=>k v H' s ?_⟩;rw [zdZ,ai] at ht;simp only [zO];by_cases hc:b=true
   ·rw [aq hc] at ht;rw [aq (by simpa using hc)];unfold zgN at ht;rw [dX];exact ht
   ·rw [am hc] at ht;rw [am (by simpa using hc)];exact ht
abbrev zG:=Option (Int × Int)
noncomputable def qc:zG->D
 | none=>.non
 | some (s,n)=>.tup [.int s,.int n]
theorem zdu (x:zG):Hard (qc x):=by
 cases x with
 | none=>exact .non
 | some x =>
  refine .tup λ i d h=>?_;have:d∈[D.int x.1,D.int x.2]:=af h;simp at this;rcases this with rfl|rfl <;> exact .int
structure PSt where
 turn:Int
 cells:List (List zG)
 sides:List Int
 gone:List (List Int)
noncomputable abbrev qe (cs:List (List zG)):List (List D):=cs.map λ c=>c.map qc
noncomputable abbrev qw (gs:List (List Int)):List (List D):=gs.map λ g=>g.map D.int
noncomputable def stF (st:PSt):List (Str × D):=[("turn",.int st.turn),("cells",.lst ((qe st.cells).map D.lst)),("sides",.ints st.sides),("gone",.lst ((qw st.gone).map D.lst))]
noncomputable def QE (a:Ad) (st:PSt):D:=.ob a.p (stF st)
def VX (st:PSt):(stF st).lookup ("turn":Str)=some (.int st.turn):=qZ
def Wi (st:PSt):(stF st).lookup ("cells":Str)=some (.lst ((qe st.cells).map D.lst)):=(zM (by decide +kernel)).trans qZ
def Wh (st:PSt):(stF st).lookup ("sides":Str)=some (.ints st.sides):=(zM (by decide +kernel)).trans ((zM (by decide +kernel)).trans qZ)
def VY (st:PSt):(stF st).lookup ("gone":Str)=some (.lst ((qw st.gone).map D.lst)):=(zM (by decide +kernel)).trans ((zM (by decide +kernel)).trans ((zM (by decide +kernel)).trans qZ))
noncomputable def sff (t:Int) (lc ls lg:Addr):List (Str × V):=[(("turn":Str),V.int t),(("cells":Str),V.ref lc),(("sides":Str),V.ref ls),(("gone":Str),V.ref lg)]
def ziD {t:Int}:qh "turn" (.int t) []=([(("turn":Str),V.int t)]:List (Str × V)):=rfl
def ziC {t:Int} {lc:Addr}:qh "cells" (.ref lc) [(("turn":Str),V.int t)]=([(("turn":Str),V.int t),(("cells":Str),V.ref lc)]:List (Str × V)):=by
 simp only [qh];rw [am (by decide +kernel)]
def ziB {t:Int} {lc ls:Addr}:qh "sides" (.ref ls) [(("turn":Str),V.int t),(("cells":Str),V.ref lc)]=([(("turn":Str),V.int t),(("cells":Str),V.ref lc),(("sides":Str),V.ref ls)]:List (Str × V)):=by
 simp only [qh];rw [am (by decide +kernel),am (by decide +kernel)]
def ziA {t:Int} {lc ls lg:Addr}:qh "gone" (.ref lg) [(("turn":Str),V.int t),(("cells":Str),V.ref lc),(("sides":Str),V.ref ls)]=sff t lc ls lg:=by
 unfold sff;simp only [qh];rw [am (by decide +kernel),am (by decide +kernel),am (by decide +kernel)]
structure SN where
 dx:Addr
 lc:Addr
 ls:Addr
 lg:Addr
 acs:List Addr
 ags:List Addr
noncomputable def SN.all (n:SN):List Addr:=n.ls :: n.lc :: n.lg :: (n.acs ++ n.ags)
structure StO (a:Ad) (H:Hp) (y:Addr) (n:SN) (st:PSt):Prop where
 hy:H y=some (.ins a.p n.dx (sff st.turn n.lc n.ls n.lg))
 hc:NL H (zT H) n.lc n.acs (qe st.cells)
 hs:H n.ls=some (.lst (iv st.sides))
 hg:NL H (zT H) n.lg n.ags (qw st.gone)
 nd:n.all.Nodup
def StO.rep {H:Hp} {y:Addr} {n:SN} {st:PSt} (h:StO a H y n st):Rep H (Off []) (.ref y) (QE a st) :=
 wM (λ z=>nomatch z) h.hy rfl (.cons .int (.cons h.hc.rep (.cons (qj (λ z=>nomatch z) h.hs) (.cons h.hg.rep .nil))))
def StO.same {H H':Hp} {y:Addr} {n:SN} {st:PSt} (h:StO a H y n st) (s:Same H H'):StO a H' y n st :=
 ⟨s _ _ h.hy,h.hc.keep (λ b o _ hb=>s b o hb) (λ b ⟨xs,hx⟩ _=>⟨xs,s _ _ hx⟩),s _ _ h.hs,h.hg.keep (λ b o _ hb=>s b o hb) (λ b ⟨xs,hx⟩ _=>⟨xs,s _ _ hx⟩),h.nd⟩
def va (a:Ad):Sp:=λ vs H Q _=>∃ (y dx:Addr) (vc vs' vg:V) (st:PSt) (p:Addr->Prop),vs=[.ref y,.int st.turn,vc,vs',vg]/\H y=some (.ins a.p dx [])/\(∀ b,p b->b≠y) /\
 Rep H p vc (.lst ((qe st.cells).map D.lst))/\Rep H p vs' (.ints st.sides)/\Rep H p vg (.lst ((qw st.gone).map D.lst))/\st.cells.length<=100/\st.gone.length<=100 /\
 ∀ H' n,n.dx=dx->Own H H' y->StO a H' y n st->(∀ b∈n.all,H b=none)->Q .non H'
def zai {H:Hp} {p:Addr->Prop} {vs:List V} {ds:List D} (h:Reps H p vs ds) (hd:∀ d∈ds,Hard d):Reps H (zT H) vs ds :=
 ⟨h.len,λ i v d e1 e2=>(h.g i v d e1 e2).hard (hd d (af e2)) λ b xs _ hb=>⟨xs,hb⟩⟩
def zbQ (c:List zG):∀ d∈c.map qc,Hard d:=λ d hd=>by
 obtain ⟨x,_,rfl⟩:=aW.mp hd;exact zdu x
def zdv (c:List Int):∀ d∈c.map D.int,Hard d:=λ d hd=>by
 obtain ⟨x,_,rfl⟩:=aW.mp hd;exact .int
theorem X4 (T:Txt K mg a) (F:Fun K "__init__" "State.__init__" jb f fd):FnOk P w K mg base (CXr P w) 1 f fd ["self","turn","cells","sides","gone"] (va a):=by
 refine F.okx X0 ?_ ?_
 ·walk_at "i"
 walk_at "j";refine oE7 h λ y dx vc vs' vg st p z1_=>oA9 z1_ λ z2_ hy hp rc rs rg lc lg k=>?_;clear h;subst z2_;refine oE2 rc.lst' λ c0 ucs z1_=>oA4 z1_ λ z2_ pc0 hc0 rcs=>?_;subst z2_;refine oE1 rs.ints' λ s0 z1_=>oA3 z1_ λ z2_ ps0 hs0=>?_;subst z2_;have hs0:H s0=some (.lst (iv st.sides)):=hs0;refine oE2 rg.lst' λ g0 ugs z1_=>oA4 z1_ λ z2_ pg0 hg0 rgs=>?_;subst z2_;have lcs:ucs.length=st.cells.length:=by rw [rcs.len,ai,ai]
 have lgs:ugs.length=st.gone.length:=by rw [rgs.len,ai,ai]
 walk_at "T";refine ⟨_,(zh (jy (pq 0) (pq 1) rfl)  (zh (jy (pq 0) (jY (vars:=["belt_cells"]) (caps:=[]) (N:=["belt_cells"]) (ON:=["self","turn","cells","sides","gone"]) (osc:=zf jb) rfl rfl (by first|decide +kernel|kernel_rfl) rfl rfl (qd (pq 2)) (λ s H fp pins=>(qk 0 (show (["belt_cells"]:List Str).Nodup from by decide +kernel))) (λ s H fp pins=>qf) (λ s H fp pins=>(wY vV xN (za (pq 0) zc)))) rfl)  (zh (jy (pq 0) (wY vV xN (za (pq 3) zc)) rfl)  (ze (jy (pq 0) (jY (vars:=["counts"]) (caps:=[]) (N:=["counts"]) (ON:=["self","turn","cells","sides","gone"]) (osc:=zf jb) rfl rfl (by first|decide +kernel|kernel_rfl) rfl rfl (qd (pq 4)) (λ s H fp pins=>(qk 0 (show (["counts"]:List Str).Nodup from by decide +kernel))) (λ s H fp pins=>qf) (λ s H fp pins=>(wY vV xN (za (pq 0) zc)))) rfl))))),?_⟩;walk_at "go";refine iE4 y a.p dx ([]) (iA6 rfl hy T.fH T.fP (by decide) ?_);rw [ziD];have o1:Own H (upd H y (.ins a.p dx [(("turn":Str),V.int st.turn)])) y:=jm;have y1:upd H y (.ins a.p dx [(("turn":Str),V.int st.turn)]) y=some (.ins a.p dx [(("turn":Str),V.int st.turn)]):=upd_same;generalize upd H y (.ins a.p dx [(("turn":Str),V.int st.turn)])=H1 at o1 y1 ⊢;have kp:∀ b,zT H b->H b≠none->b≠y:=λ b ⟨xs,hx⟩ _ z=>by rw [z,hy] at hx;cases hx
 walk_at "lc";walk_at "go";refine ⟨c0,rfl,.inl ⟨⟨_,SqL.of (o1 _ _ (hp _ pc0) hc0)⟩,λ _ _ _ _ acc hacc=>?_⟩⟩;let M1_:Nat->St->Hp->Prop:=λ i σ H'=>∃ (v0:Option V) (as:List Addr),σ=[v0]/\Same H1 H'/\NL H' (zT H) acc as (qe (st.cells.take i))/\∀ b∈as,H1 b=none;refine qE (K:=K) (a:=c0) (xs:=ucs) M1_ (iE2 _ ([]) (iA4 rfl (zg hacc) (by rw [cu];exact zbA upd_same) (by simp))) (λ i σ H' _ h=>by obtain ⟨_,_,_,s,_⟩:=h;exact SqL.of (s _ _ (o1 _ _ (hp _ pc0) hc0))) ?_ ?_
 ·intro i x σ H2 hi zz_;refine oE2 zz_ λ v0 as z1_=>oA4 z1_ λ z2_ s2 nl fr=>?_;clear zz_;subst z2_;obtain ⟨d,hd,rx⟩:=rcs.at hi;rw [aj,aj] at hd;obtain ⟨c,hc⟩:∃ c,st.cells[i]?=some c:=by
   cases e:st.cells[i]? with
   | none=>rw [e] at hd;cases hd
   | some c=>exact ⟨c,rfl⟩
  rw [hc] at hd;cases hd;refine oE2 (Rep.lst' rx) λ li vi z1_=>oA4 z1_ λ z2_ pli hli ri=>?_;subst z2_;have hil:=(aa.mp hc).1;have hli2:=s2 _ _ (o1 _ _ (hp _ pli) hli);walk_at "go";refine iE2 li _ (iA3 rfl (.inl (SqL.of hli2)) (λ b hb=>?_));have nb:b ∉ as:=λ z=>by
   obtain ⟨j,hj⟩:=bh z;obtain ⟨vs,h1,_⟩:=nl.g j b _ hj (ac (by rw [<- nl.len];exact (aa.mp hj).1));rw [h1] at hb;cases hb
  have nG:b≠acc:=λ z=>by rw [z,nl.out] at hb;cases hb
  have s3:Same H2 (upd H2 b (.lst vi)):=zg hb;have ac3:=upd_keep (o:=.lst vi) nl.out hb;refine ⟨_,iA3 ac3 (zm (by rw [ai,nl.len,ai,aT];omega)) ?_⟩;have ri3:Reps (upd H2 b (.lst vi)) (zT H) vi (c.map qc):=(zai ri (zbQ c)).keep λ z o pz hz=>⟨pz,s3 _ _ (s2 _ _ (o1 _ _ (kp z pz (by rw [hz];intro q;cases q)) hz))⟩;have nl3:=(nl.same s3).push (b:=b) (vs:=vi) (ys:=c.map qc) upd_same nb nG (λ ⟨xs,hx⟩=>by
   have:=o1 _ _ (kp acc ⟨xs,hx⟩ (by rw [hx];intro q;cases q)) hx;rw [hacc] at this;cases this) ri3
  refine iE2 _ (as ++ [b]) (iA4 rfl ?_ ?_ ?_)
  ·exact λ z o hz=>by rw [upd_ne (ne_of_none hz hacc)];exact s3 _ _ (s2 _ _ hz)
  ·rw [aR,hc];rw [show qe (st.cells.take i ++ (some c).toList)=qe (st.cells.take i) ++ [c.map qc] by simp [qe]];exact nl3
  ·intro z hz;rcases aD.mp hz with hz|hz
   ·exact fr z hz
   ·rw [ay.mp hz];exact zK s2 hb
 intro σ H2 zz_;refine oE2 zz_ λ v0 acs z1_=>oA4 z1_ λ z2_ s2 nlc frc=>?_;clear zz_;subst z2_;rw [lcs,aS] at nlc;have y2:=s2 _ _ y1;walk_at "go";refine iE4 y a.p dx _ (iA6 rfl y2 T.fH T.fI (by simp) ?_);rw [ziC];have nay:acc≠y:=λ z=>by rw [z,y1] at hacc;cases hacc
 have hx0:∀ {z:Addr},H1 z=none->z≠y/\H z=none:=λ {z} hz=>by
  have n1:z≠y:=λ q=>by rw [q,y1] at hz;cases hz
  refine ⟨n1,?_⟩;cases e:H z with
  | none=>rfl
  | some o=>rw [o1 z o n1 e] at hz;cases hz
 have o3:Own H (upd H2 y (.ins a.p dx [(("turn":Str),V.int st.turn),(("cells":Str),V.ref acc)])) y:=(o1.trans (Same.own s2)).trans jm;have y3:upd H2 y (.ins a.p dx [(("turn":Str),V.int st.turn),(("cells":Str),V.ref acc)]) y=some (.ins a.p dx [(("turn":Str),V.int st.turn),(("cells":Str),V.ref acc)]):=upd_same;have nl3:NL (upd H2 y (.ins a.p dx [(("turn":Str),V.int st.turn),(("cells":Str),V.ref acc)])) (zT H) acc acs (qe st.cells):=nlc.keep (λ z o hz ho=>by
  refine (upd_ne (λ q=>?_)).trans ho;rcases hz with h|h|h
  ·exact nay (h.symm.trans q)
  ·exact (hx0 (frc z h)).1 q
  ·obtain ⟨xs,hx⟩:=h;rw [q,hy] at hx;cases hx) λ _ hp _=>hp
 generalize upd H2 y (.ins a.p dx [(("turn":Str),V.int st.turn),(("cells":Str),V.ref acc)])=H3 at o3 y3 nl3 ⊢;walk_at "go";refine iE2 s0 _ (iA3 rfl (.inl (SqL.of (o3 _ _ (hp _ ps0) hs0))) (λ ls hls=>?_));walk_at "go";have y4:=upd_keep (o:=.lst (iv st.sides)) y3 hls;refine iE4 y a.p dx _ (iA6 rfl y4 T.fH T.fW (by simp) ?_);rw [ziB];have nlsy:ls≠y:=λ z=>by rw [z,y3] at hls;cases hls
 have hls0:H ls=none:=by
  cases e:H ls with
  | none=>rfl
  | some o=>rw [o3 ls o nlsy e] at hls;cases hls
 have o5:Own H (upd (upd H3 ls (.lst (iv st.sides))) y (.ins a.p dx [(("turn":Str),V.int st.turn),(("cells":Str),V.ref acc),(("sides":Str),V.ref ls)])) y:=(o3.trans (Same.own (zg hls))).trans jm;have y5:upd (upd H3 ls (.lst (iv st.sides))) y (.ins a.p dx [(("turn":Str),V.int st.turn),(("cells":Str),V.ref acc),(("sides":Str),V.ref ls)]) y=some (.ins a.p dx [(("turn":Str),V.int st.turn),(("cells":Str),V.ref acc),(("sides":Str),V.ref ls)]):=upd_same;have nl5:NL (upd (upd H3 ls (.lst (iv st.sides))) y (.ins a.p dx [(("turn":Str),V.int st.turn),(("cells":Str),V.ref acc),(("sides":Str),V.ref ls)])) (zT H) acc acs (qe st.cells):=nl3.keep (λ z o hz ho=>by
  refine (upd_ne (λ q=>?_)).trans (upd_keep ho hls);rcases hz with h|h|h
  ·exact nay (h.symm.trans q)
  ·exact (hx0 (frc z h)).1 q
  ·obtain ⟨xs,hx⟩:=h;rw [q,hy] at hx;cases hx) λ _ hp _=>hp
 have ls5:upd (upd H3 ls (.lst (iv st.sides))) y (.ins a.p dx [(("turn":Str),V.int st.turn),(("cells":Str),V.ref acc),(("sides":Str),V.ref ls)]) ls=some (.lst (iv st.sides)):=by rw [upd_ne nlsy];exact upd_same
 have nlsa:ls ∉ acc :: acs:=λ z=>by
  rcases ax.mp z with h|h
  ·rw [h,nl3.out] at hls;cases hls
  ·obtain ⟨j,hj⟩:=bh h;obtain ⟨vs,h1,_⟩:=nl3.g j ls _ hj (ac (by rw [<- nl3.len];exact (aa.mp hj).1));rw [h1] at hls;cases hls
 generalize upd (upd H3 ls (.lst (iv st.sides))) y (.ins a.p dx [(("turn":Str),V.int st.turn),(("cells":Str),V.ref acc),(("sides":Str),V.ref ls)])=H5 at o5 y5 nl5 ls5 ⊢;clear nl3 o3 y3 hls y4;walk_at "lc";walk_at "go";refine ⟨g0,rfl,.inl ⟨⟨_,SqL.of (o5 _ _ (hp _ pg0) hg0)⟩,λ _ _ _ _ ag hag=>?_⟩⟩;let M2_:Nat->St->Hp->Prop:=λ i σ H'=>∃ (v0:Option V) (as:List Addr),σ=[v0]/\Same H5 H'/\NL H' (zT H) ag as (qw (st.gone.take i))/\∀ b∈as,H5 b=none;refine qE (K:=K) (a:=g0) (xs:=ugs) M2_ (iE2 _ ([]) (iA4 rfl (zg hag) (by rw [cu];exact zbA upd_same) (by simp))) (λ i σ H' _ h=>by obtain ⟨_,_,_,s,_⟩:=h;exact SqL.of (s _ _ (o5 _ _ (hp _ pg0) hg0))) ?_ ?_
 ·intro i x σ H2 hi zz_;refine oE2 zz_ λ v0 as z1_=>oA4 z1_ λ z2_ s2 nl fr=>?_;clear zz_;subst z2_;obtain ⟨d,hd,rx⟩:=rgs.at hi;rw [aj,aj] at hd;obtain ⟨c,hc⟩:∃ c,st.gone[i]?=some c:=by
   cases e:st.gone[i]? with
   | none=>rw [e] at hd;cases hd
   | some c=>exact ⟨c,rfl⟩
  rw [hc] at hd;cases hd;refine oE2 (Rep.lst' rx) λ li vi z1_=>oA4 z1_ λ z2_ pli hli ri=>?_;subst z2_;have hil:=(aa.mp hc).1;have hli2:=s2 _ _ (o5 _ _ (hp _ pli) hli);walk_at "go";refine iE2 li _ (iA3 rfl (.inl (SqL.of hli2)) (λ b hb=>?_));have nb:b ∉ as:=λ z=>by
   obtain ⟨j,hj⟩:=bh z;obtain ⟨vs,h1,_⟩:=nl.g j b _ hj (ac (by rw [<- nl.len];exact (aa.mp hj).1));rw [h1] at hb;cases hb
  have nG:b≠ag:=λ z=>by rw [z,nl.out] at hb;cases hb
  have s3:Same H2 (upd H2 b (.lst vi)):=zg hb;have ac3:=upd_keep (o:=.lst vi) nl.out hb;refine ⟨_,iA3 ac3 (zm (by rw [ai,nl.len,ai,aT];omega)) ?_⟩;have ri3:Reps (upd H2 b (.lst vi)) (zT H) vi (c.map D.int):=(zai ri (zdv c)).keep λ z o pz hz=>⟨pz,s3 _ _ (s2 _ _ (o5 _ _ (kp z pz (by rw [hz];intro q;cases q)) hz))⟩;have nl3:=(nl.same s3).push (b:=b) (vs:=vi) (ys:=c.map D.int) upd_same nb nG (λ ⟨xs,hx⟩=>by
   have:=o5 _ _ (kp ag ⟨xs,hx⟩ (by rw [hx];intro q;cases q)) hx;rw [hag] at this;cases this) ri3
  refine iE2 _ (as ++ [b]) (iA4 rfl ?_ ?_ ?_)
  ·exact λ z o hz=>by rw [upd_ne (ne_of_none hz hag)];exact s3 _ _ (s2 _ _ hz)
  ·rw [aR,hc];rw [show qw (st.gone.take i ++ (some c).toList)=qw (st.gone.take i) ++ [c.map D.int] by simp [qw]];exact nl3
  ·intro z hz;rcases aD.mp hz with hz|hz
   ·exact fr z hz
   ·rw [ay.mp hz];exact zK s2 hb
 intro σ H6 zz_;refine oE2 zz_ λ v0' ags z1_=>oA4 z1_ λ z2_ s6 nlg frg=>?_;clear zz_;subst z2_;rw [lgs,aS] at nlg;have y6:=s6 _ _ y5;walk_at "go";refine iE4 y a.p dx _ (iA6 rfl y6 T.fH T.fQ (by simp) ?_);rw [ziA];have hx5:∀ {z:Addr},H5 z=none->z≠y/\H z=none:=λ {z} hz=>by
  have n1:z≠y:=λ q=>by rw [q,y5] at hz;cases hz
  refine ⟨n1,?_⟩;cases e:H z with
  | none=>rfl
  | some o=>rw [o5 z o n1 e] at hz;cases hz
 have ngy:=(hx5 hag).1;have o7:Own H (upd H6 y (.ins a.p dx (sff st.turn acc ls ag))) y:=(o5.trans (Same.own s6)).trans jm;have tp:∀ b,zT H b->H b≠none->zT (upd H6 y (.ins a.p dx (sff st.turn acc ls ag))) b:=λ b ⟨xs,hx⟩ hn=>⟨xs,o7 _ _ (kp b ⟨xs,hx⟩ hn) hx⟩;have inA:∀ z,z∈acc :: acs->∃ o,H5 z=some o:=λ z hz=>by
  rcases ax.mp hz with h|h
  ·exact ⟨_,h ▸ nl5.out⟩
  ·obtain ⟨j,hj⟩:=bh h;obtain ⟨vs,h1,_⟩:=nl5.g j z _ hj (ac (by rw [<- nl5.len];exact (aa.mp hj).1));exact ⟨_,h1⟩
 refine k _ ⟨dx,acc,ls,ag,acs,ags⟩ rfl o7 ⟨upd_same,?_,?_,?_,?_⟩ ?_
 ·exact (nl5.same s6).keep (λ z o hz ho=>by
   refine (upd_ne (λ q=>?_)).trans ho;rcases hz with h|h|h
   ·exact nay (h.symm.trans q)
   ·exact (hx0 (frc z h)).1 q
   ·obtain ⟨xs,hx⟩:=h;rw [q,hy] at hx;cases hx) λ b hb hn=>by
    obtain ⟨xs,hx⟩:=hb;exact tp b ⟨xs,hx⟩ (by rw [hx];intro q;cases q)
 ·show upd H6 y _ ls=_
  rw [upd_ne nlsy];exact s6 _ _ ls5
 ·exact nlg.keep (λ z o hz ho=>by
   refine (upd_ne (λ q=>?_)).trans ho;rcases hz with h|h|h
   ·exact ngy (h.symm.trans q)
   ·exact (hx5 (frg z h)).1 q
   ·obtain ⟨xs,hx⟩:=h;rw [q,hy] at hx;cases hx) λ b hb hn=>by
    obtain ⟨xs,hx⟩:=hb;exact tp b ⟨xs,hx⟩ (by rw [hx];intro q;cases q)
 ·show (ls :: acc :: ag :: (acs ++ ags)).Nodup
  have ls5':∀ z,H5 z=none->z≠ls:=λ z hz q=>by rw [q,ls5] at hz;cases hz
  rw [di,di,di];refine iA4 (λ z=>?_) (λ z=>?_) (λ z=>?_) ?_
  ·rcases ax.mp z with h|z
   ·exact nlsa (h ▸ bK ..)
   rcases ax.mp z with h|z
   ·exact ls5' ag hag h.symm
   rcases aD.mp z with z|z
   ·exact nlsa (aG _ z)
   ·exact ls5' ls (frg ls z) rfl
  ·rcases ax.mp z with h|z
   ·rw [<- h,nl5.out] at hag;cases hag
   rcases aD.mp z with z|z
   ·exact nl5.nG z
   ·have:=frg acc z;rw [nl5.out] at this;cases this
  ·rcases aD.mp z with z|z
   ·obtain ⟨o,ho⟩:=inA ag (aG _ z);rw [hag] at ho;cases ho
   ·exact nlg.nG z
  ·rw [nodup_append];refine ⟨nl5.nd,nlg.nd,λ u hu v hv q=>?_⟩;subst q;obtain ⟨o,ho⟩:=inA u (aG _ hu);rw [frg u hv] at ho;cases ho
 ·intro b hb;rcases ax.mp hb with rfl|hb
  ·exact hls0
  rcases ax.mp hb with rfl|hb
  ·exact (hx0 hacc).2
  rcases ax.mp hb with rfl|hb
  ·exact (hx5 hag).2
  rcases aD.mp hb with hb|hb
  ·exact (hx0 (frc b hb)).2
  ·exact (hx5 (frg b hb)).2
def zcj (T:Txt K mg a):KCal P w K mg base "State" a.p 1 ["self","turn","cells","sides","gone"] [] (va a):=T.kB.cal T.mn (X4 T)
def qr {H:Hp} {p:Addr->Prop} {v:V} {bs:List (Int × Int)} {rs:List Row} (h:Rep H p v (zX a bs rs)):∃ y dx fs l1 l2 bvs kvs,v=.ref y/\H y=some (.ins a.q dx fs)/\fs.lookup ("belts":Str)=some (.ref l1)/\fs.lookup ("knots":Str)=some (.ref l2) /\
  H l1=some (.lst bvs)/\H l2=some (.lst kvs)/\Bts a H p bvs bs/\Kns a H p kvs rs/\∀ f:Str,f≠"belts"->f≠"knots"->fs.lookup f=none:=by
 obtain ⟨y,dx,fs,rfl,py,hy,g1,g2⟩:=Rep.ob' h;obtain ⟨u1,e1,r1⟩:=g1 _ _ VQ;obtain ⟨u2,e2,r2⟩:=g1 _ _ zdU;obtain ⟨l1,bvs,rfl,_,h1,b1⟩:=r1.lst';obtain ⟨l2,kvs,rfl,_,h2,b2⟩:=r2.lst';exact ⟨y,dx,fs,l1,l2,bvs,kvs,rfl,hy,e1,e2,h1,h2,.of b1,.of b2,λ f n1 n2=>g2 f (zhR n1 n2)⟩
noncomputable def wS (ks:List Int) (n:Int):Int:=ks.getD (n % (ks.length:Int)).toNat 0
def zdo {ks:List Int} (n:Int) (h:0 < ks.length):atI (iv ks) (n % (ks.length:Int))=some (.int (wS ks n)):=by
 have h0:=bM n (show (ks.length:Int)≠0 by omega);have h1:=bu n (show (0:Int) < ks.length by omega);unfold wS;generalize n % (ks.length:Int)=m at h0 h1 ⊢;have hlt:m.toNat < ks.length:=by omega
 have e:m=(m.toNat:Int):=by omega
 have:=zy (qM (ac hlt));rw [<- e] at this;rw [this];simp [hlt]
def VS {H:Hp} {p:Addr->Prop} {v:V} {s n:Int} (h:Rep H p v (.tup [.int s,.int n])):∃ t,v=.ref t/\H t=some (.tup [.int s,.int n]):=wg (b:=(s,n)) h
def Vx {H:Hp} {p:Addr->Prop} {kvs:List V} {rs:List Row} {j:Nat} {r:Row} (hK:Kns a H p kvs rs) (h:rs[j]?=some r):∃ kv,kvs[j]?=some kv/\KnP a H p kv r:=by
 have hj:=(aa.mp h).1;have e:kvs[j]?=some (kvs[j]'(by rw [hK.len];exact hj)):=ac _;exact ⟨_,e,hK.g j _ r e h⟩
def zd6 (a:Ad):Sp:=λ vs H Q _=>∃ (v vwr:V) (bs:List (Int × Int)) (rs:List Row) (p q:Addr->Prop) (s:Nat) (n:Int) (r:Row),vs=[v,vwr]/\Rep H p v (zX a bs rs)/\Rep H q vwr (.tup [.int s,.int n])/\rs[s]?=some r/\r.wd=.source/\0 < r.kinds.length/\Q (.int (wS r.kinds n)) H
def vU (T:Txt K mg a):Cal P w K mg base "kind_of" 1 ["work","ware"] [] (zd6 a):=T.lE.cal λ F=>by
 refine F.okx zbf ?_ ?_
 ·walk_at "i"
 walk_at "j";refine oE5 h λ v vwr bs rs p z1_=>oE4 z1_ λ q sc n r z2_=>oA7 z2_ λ z3_ hv hw hr' hs hk k=>?_;clear h;subst z3_;refine oE7 (qr hv) λ y dx fs l1 l2 bvs kvs z1_=>oA9 z1_ λ z2_ hy e1 e2 h1 h2 hB hK no=>?_;subst z2_;obtain ⟨t,rfl,ht⟩:=VS hw;obtain ⟨kv,hkv,hKn⟩:=Vx hK hr';refine oE6 hKn.inv λ y1 dx1 m1 m2 m3 fs1 z1_=>oA9 z1_ λ z2_ _ _ _ _ g0 _ _ z3_=>oA5 z3_ λ _ _ _ g3 _=>?_;subst z2_;obtain ⟨g3a,g3b⟩:=g3 hs;walk_at "T";refine ⟨_,(zi (zx 2 zbf.nd (zl (zr (zl (pq 0) rfl) (zr (pq 1) zd)) rfl))  (ze (zj (zr (pq 2) (zR jA (zr (pq 1) zd) (zJ zS zQ (za (pq 2) zc))))))),?_⟩;walk_at "go";refine ra hy T.fK T.fJ e2 (rd_ixT ht at0 (zn (SqL.of h2) (zy hkv) ?_));refine iE5 y1 (wt a r.wd) dx1 fs1 _ (iA6 rfl g0 (CT T _) (by rw [hs];exact T.fZ) g3a ?_);walk_at "go";refine rd_ixT ht rfl ?_;walk_at "go";refine ⟨_,.inl ⟨_,SqL.of g3b,rfl⟩,?_⟩;rw [zF];walk_at "go";exact ⟨by omega,zn (SqL.of g3b) (zdo n hk) k⟩
noncomputable def qC (r:Row):List Int:=List.replicate (max r.ins.length r.outs.length) 0
theorem zfO {α:Type} (n:Nat) (x:α):(List.replicate n [x]).flatten=List.replicate n x:=by
 induction n with
 | zero=>rfl
 | succ n ih=>rw [cM,dq,ih];rfl
def zeT (n:Nat) (x:Int):List.replicate n (V.int x)=iv (List.replicate n x):=by simp [iv]
def zhq (m n:Nat):(if (n:Int) > (m:Int) then (n:Int) else (m:Int))=((max m n:Nat):Int):=by
 by_cases h:(n:Int) > (m:Int)
 ·rw [aq h];omega
 ·rw [am h];omega
def vo {r:Row} (h:r.ok):r.ins.length<=4/\r.outs.length<=4:=by
 obtain ⟨wd,ins,outs,pc,ks⟩:=r;cases wd
 ·obtain ⟨h1,⟨o,h2⟩,_⟩:=h;simp only at h1 h2;subst h1 h2;simp
 ·obtain ⟨⟨o,h1⟩,h2,_⟩:=h;simp only at h1 h2;subst h1 h2;simp
 ·obtain ⟨⟨o,h1⟩,_,h2⟩:=h;simp only at h1 h2;subst h1;exact ⟨by simp,h2⟩
 ·obtain ⟨⟨o,h1⟩,_,h2⟩:=h;simp only at h1 h2;subst h1;exact ⟨by simp,h2⟩
 ·obtain ⟨⟨o,h1⟩,h2,_⟩:=h;simp only at h1 h2;subst h1;exact ⟨by simp,by show outs.length<=4;omega⟩
 ·obtain ⟨⟨o,h1⟩,_,h2⟩:=h;simp only at h1 h2;subst h1;exact ⟨h2,by simp⟩
def WN (a:Ad) (H H':Hp) (v:V) (st:PSt):Prop:=∃ y n,v=.ref y/\StO a H' y n st/\H y=none/\H n.dx=none/\∀ b∈n.all,H b=none
def zaB (T:Txt K mg a) {H:Hp} {st:PSt} {vc vs' vg:V} {Q:Addr->Hp->Prop} {E:XK} {p:Addr->Prop} (rc:Rep H p vc (.lst ((qe st.cells).map D.lst))) (rs:Rep H p vs' (.ints st.sides)) (rg:Rep H p vg (.lst ((qw st.gone).map D.lst))) (lc:st.cells.length<=100) (lg:st.gone.length<=100)
  (k:∀ y H',Same H H'->WN a H H' (.ref y) st->Q y H'):∀ (x dx:Addr),H x=none->H dx=none->dx≠x->va a [.ref x,.int st.turn,vc,vs',vg] (upd (upd H dx (.own x)) x (.ins a.p dx [])) (λ v H2=>v=.non/\Q x H2) E:=by
 intro y dy hy hdy hne;have kp:∀ b o,p b->H b=some o->b≠y/\upd (upd H dy (.own y)) y (.ins a.p dy []) b=some o:=λ b o _ hb=>⟨ne_of_none hb hy,qo hy hdy hb⟩;refine ⟨y,dy,vc,vs',vg,st,λ b=>b≠y,rfl,upd_same,λ _ h=>h,rc.keep kp,rs.keep kp,rg.keep kp,lc,lg,λ H' n en o so fr=>⟨rfl,?_⟩⟩;exact k _ _ (Own.of_new hy hdy o) ⟨y,n,rfl,so,hy,by rw [en];exact hdy,λ b hb=>zL (fr b hb)⟩
def za7 (a:Ad):Sp:=λ vs H Q _=>∃ (v:V) (r:Row) (p:Addr->Prop),vs=[v]/\KnP a H p v r/\r.ins.length<=100/\r.outs.length<=100/\∀ q H',Same H H'->H q=none->H' q=some (.lst (iv (qC r)))->Q (.ref q) H'
def zaT (T:Txt K mg a):Cal P w K mg base "no_counts" 1 ["knot"] [] (za7 a):=T.kJ.cal λ F=>by
 refine F.okx WX ?_ ?_
 ·walk_at "i"
 walk_at "j";obtain ⟨v,r,p,rfl,hKn,l1,l2,k⟩:=h;obtain ⟨y1,dx1,m1,m2,m3,fs1,rfl,_,_,_,_,g0,f1,f2,_,g1,g2,g3,_⟩:=hKn.inv;walk_at "T";refine ⟨_,(ze (zj (zR Vn (zC (za zd zc)) (zJ (zdF rfl) zfn (za (zJ zS zQ (za (zl (pq 0) rfl) zc)) (za (zJ zS zQ (za (zl (pq 0) rfl) zc)) zc)))))),?_⟩;walk_at "go";intro q hq;have sq:=zg (o:=.lst [V.int 0]) hq;refine ⟨lX,gf,?_⟩;refine ra (sq _ _ g0) (CT T _) (NI T _) f1 ⟨_,.inl ⟨_,SqL.of (sq _ _ g1),rfl⟩,?_⟩;refine ⟨gf,?_⟩;refine ra (sq _ _ g0) (CT T _) (NO T _) f2 ⟨_,.inl ⟨_,SqL.of (sq _ _ g2),rfl⟩,?_⟩;rw [zF,zF];refine ⟨_,_,rfl,?_⟩;rw [zhq];refine ⟨q,_,_,rfl,rfl,upd_same,by omega,by omega,?_,λ q2 hq2=>?_⟩
 ·refine j9 ?_;simp;omega
 ·rw [zfO,aK,zeT];exact k q2 _ (sq.trans (zg hq2)) (zK sq hq2) upd_same
noncomputable def qN (bs:List (Int × Int)) (rs:List Row):PSt:=⟨0,bs.map λ b=>List.replicate b.1.toNat none,List.replicate rs.length 0,rs.map qC⟩
def zfH (a:Ad):Sp:=λ vs H Q _=>∃ (v:V) (bs:List (Int × Int)) (rs:List Row) (p:Addr->Prop),vs=[v]/\Rep H p v (zX a bs rs)/\bs.length<=24/\rs.length<=24/\(∀ b∈bs,zu b.1 b.2)/\(∀ r∈rs,r.ok)/\∀ v' H',Same H H'->WN a H H' v' (qN bs rs)->Q v' H'
def Zh (T:Txt K mg a):Cal P w K mg base "empty_state" 3 ["work"] [] (zfH a):=T.iZ.cal λ F=>by
 refine F.okx JS ?_ ?_
 ·walk_at "i"
 walk_at "j";refine oE4 h λ v bs rs p z1_=>oA7 z1_ λ z2_ hv lb lr bo ro k=>?_;clear h;subst z2_;refine oE7 (qr hv) λ y dx fs l1 l2 bvs kvs z1_=>oA9 z1_ λ z2_ hy e1 e2 h1 h2 hB hK no=>?_;subst z2_;walk_at "T";refine ⟨_,(zh (QN (i:=1) JS.nd rfl (Or.inl rfl) (vars:=["belt"]) (caps:=[]) (N:=["belt"]) (ON:=["work","cells","sides"]) (osc:=zf jg) rfl rfl (by first|decide +kernel|kernel_rfl) rfl rfl (qd (zl (pq 0) rfl)) (λ s H fp pins=>(qk 0 (show (["belt"]:List Str).Nodup from by decide +kernel))) (λ s H fp pins=>qf) (λ s H fp pins=>(zR Vn (zC (za zv zc)) (zl (pq 0) rfl))))  (zh (zx 2 JS.nd (zR Vn (zC (za zd zc)) (zJ zS zQ (za (zl (pq 0) rfl) zc))))  (ze (zj (qa (x:="State") ⟨rfl,rfl,rfl⟩ hr (za zd (za (pq 1) (za (pq 2) (za (jY (vars:=["knot"]) (caps:=[]) (N:=["knot"]) (ON:=["work","cells","sides"]) (osc:=zf jg) rfl rfl (by first|decide +kernel|kernel_rfl) rfl rfl (qd (zl (pq 0) rfl)) (λ s H fp pins=>(qk 0 (show (["knot"]:List Str).Nodup from by decide +kernel))) (λ s H fp pins=>qf) (λ s H fp pins=>(Zt hr (za (pq 0) zc)))) zc))))))))),?_⟩;walk_at "go";walk_at "lc";walk_at "go";refine ra hy T.fK T.fR e1 ⟨l1,rfl,.inl ⟨⟨_,SqL.of h1⟩,λ _ _ _ _ acc hacc=>?_⟩⟩;let M1_:Nat->St->Hp->Prop:=λ i σ H'=>∃ (v0:Option V) (us:List V),σ=[v0]/\Same H H'/\H' acc=some (.lst us)/\Reps H' (Off [acc]) us ((bs.take i).map λ b=>D.lst (List.replicate b.1.toNat .non));refine qE (K:=K) (a:=l1) (xs:=bvs) M1_ (iE2 _ ([]) (iA4 rfl (zg hacc) upd_same (by rw [cu];exact .nil))) (λ i σ H' _ h=>by obtain ⟨_,_,_,s,_⟩:=h;exact SqL.of (s _ _ h1)) ?_ ?_
 ·intro i x σ H2 hi zz_;refine oE2 zz_ λ v0 us z1_=>oA4 z1_ λ z2_ s2 ha ru=>?_;clear zz_;subst z2_;obtain ⟨b,hb',hBt⟩:=hB.at hi;refine oE3 hBt.inv λ y1 dx1 fs1 z1_=>oA5 z1_ λ z2_ _ g0 f1 f2=>?_;subst z2_;have hil:=(aa.mp hb').1;have bk:=bo b (af hb');walk_at "go";intro q hq;have sq:=zg (o:=.lst [V.non]) hq;refine ra (sq _ _ (s2 _ _ g0)) T.gH T.gw f1 ?_;have b1:=bk.1;have b2:=bk.2.1;refine iE3 q _ _ (iA7 rfl rfl upd_same (by omega) (by omega) (j9 (by simp;omega)) (λ q2 hq2=>?_));rw [zfO];have s3:=sq.trans (zg (o:=.lst (List.replicate b.1.toNat V.non)) hq2);have h3:upd (upd H2 q (.lst [V.non])) q2 (.lst (List.replicate b.1.toNat V.non)) q2=some (.lst (List.replicate b.1.toNat V.non)):=upd_same;have n2:H2 q2=none:=zK sq hq2;generalize upd (upd H2 q (.lst [V.non])) q2 (.lst (List.replicate b.1.toNat V.non))=H3 at s3 h3 ⊢;have f5:Fr [acc] H3 (upd H3 acc (.lst (us ++ [.ref q2]))):=jH (by simp);have nq:=zeC ha n2;refine ⟨_,iA3 (s3 _ _ ha) (zm (by rw [ru.len,ai,aT];omega)) (iE2 _ (us ++ [.ref q2]) (iA4 rfl (((s2.trans s3).fr.trans f5).same (by intro m hm;rw [ay.mp hm];exact hacc)) upd_same ?_))⟩;rw [aR,hb',a7];refine ((ru.same s3).fr f5).append (.one ?_);refine Reps.mk' ⟨by simp,λ j u d a1 a2=>?_⟩ nq (f5 _ _ nq h3);have a1:=af a1;have a2:=af a2;rw [(bW.mp a1).2,(bW.mp a2).2];exact .non
 intro σ H2 zz_;refine oE2 zz_ λ v0 us z1_=>oA4 z1_ λ z2_ s2 ha ru=>?_;clear zz_;subst z2_;rw [hB.len,aS] at ru;walk_at "go";intro q hq;have sq:=zg (o:=.lst [V.int 0]) hq;walk_at "go";refine ra (sq _ _ (s2 _ _ hy)) T.fK T.fJ e2 ⟨_,.inl ⟨_,SqL.of (sq _ _ (s2 _ _ h2)),rfl⟩,?_⟩;rw [hK.len];refine iE3 q _ _ (iA7 rfl rfl upd_same (by omega) (by omega) (j9 (by simp;omega)) (λ ls hls=>?_));rw [zfO,aK,zeT];have s3:Same H (upd (upd H2 q (.lst [V.int 0])) ls (.lst (iv (List.replicate rs.length 0)))):=(s2.trans sq).trans (zg hls);have ha3:=upd_keep (o:=.lst (iv (List.replicate rs.length 0))) (sq _ _ ha) hls;have ru3:=(ru.same sq).same (zg (o:=.lst (iv (List.replicate rs.length 0))) hls);have h3:upd (upd H2 q (.lst [V.int 0])) ls (.lst (iv (List.replicate rs.length 0))) ls=some (.lst (iv (List.replicate rs.length 0))):=upd_same;generalize upd (upd H2 q (.lst [V.int 0])) ls (.lst (iv (List.replicate rs.length 0)))=H3 at s3 ha3 ru3 h3 ⊢;walk_at "go";refine iE4 a.p _ _ _ ⟨(zcj T).mono,?_⟩;walk_at "lc";walk_at "go";refine ra (s3 _ _ hy) T.fK T.fJ e2 ⟨l2,rfl,.inl ⟨⟨_,SqL.of (s3 _ _ h2)⟩,λ _ _ _ _ ac2 hac2=>?_⟩⟩;let M2_:Nat->St->Hp->Prop:=λ i σ H'=>∃ (v0:Option V) (us:List V),σ=[v0]/\Same H3 H'/\H' ac2=some (.lst us)/\Reps H' (Off [ac2]) us ((rs.take i).map λ r=>D.ints (qC r));refine qE (K:=K) (a:=l2) (xs:=kvs) M2_ (iE2 _ ([]) (iA4 rfl (zg hac2) upd_same (by rw [cu];exact .nil))) (λ i σ H' _ h=>by obtain ⟨_,_,_,s,_⟩:=h;exact SqL.of (s _ _ (s3 _ _ h2))) ?_ ?_
 ·intro i x σ H4 hi zz_;refine oE2 zz_ λ v0 us z1_=>oA4 z1_ λ z2_ s4 ha4 ru4=>?_;clear zz_;subst z2_;obtain ⟨r,hr',hKn⟩:=hK.at hi;have hil:=(aa.mp hr').1;have rl:=vo (ro r (af hr'));walk_at "go";refine uc (zaT T).mono (iE3 x r p (iA5 rfl (hKn.keep (λ b o pb hb=>⟨pb,s4 _ _ (s3 _ _ hb)⟩)) (by omega) (by omega) (λ q2 H5 s5 n2 h5=>?_)));have f5:Fr [ac2] H5 (upd H5 ac2 (.lst (us ++ [.ref q2]))):=jH (by simp);have nq:=zeC ha4 n2;refine ⟨_,iA3 (s5 _ _ ha4) (zm (by rw [ru4.len,ai,aT];omega)) (iE2 _ (us ++ [.ref q2]) (iA4 rfl (((s4.trans s5).fr.trans f5).same (by intro m hm;rw [ay.mp hm];exact hac2)) upd_same ?_))⟩;rw [aR,hr',a7];exact ((ru4.same s5).fr f5).append (.one (qj nq (f5 _ _ nq h5)))
 intro σ H4 zz_;refine oE2 zz_ λ v0' us4 z1_=>oA4 z1_ λ z2_ s4 ha4 ru4=>?_;clear zz_;subst z2_;rw [hK.len,aS] at ru4;have s34:=s3.trans s4;refine zaB T (st:=qN bs rs) (p:=Off []) ?_ ?_ ?_ (by simp [qN];omega) (by simp [qN];omega) (λ v' H5 s5 so=>k _ _ (s34.trans s5) ?_)
 ·have:=(ru3.same s4).all;rw [show (bs.map λ b=>D.lst (List.replicate b.1.toNat .non))=(qe (qN bs rs).cells).map D.lst by simp [qN,qe,qc,dM]] at this;exact this.mk' (λ z=>nomatch z) (s4 _ _ ha3)
 ·exact qj (λ z=>nomatch z) (s4 _ _ h3)
 ·have:=ru4.all;rw [show (rs.map λ r=>D.ints (qC r))=(qw (qN bs rs).gone).map D.lst by simp [qN,qw,dM]] at this;exact this.mk' (λ z=>nomatch z) ha4
 ·refine oE2 so λ y5 n5 z1_=>oA5 z1_ λ e5 o5 f1 f2 f3=>?_;clear so;exact iE2 y5 n5 (iA5 e5 o5 (zK s34 f1) (zK s34 f2) (λ b hb=>zK s34 (f3 b hb)))
def zaQ {r:Row} (h:r.ok) (hw:r.wd=.joiner):qC r=List.replicate r.ins.length 0:=by
 obtain ⟨wd,ins,outs,pc,ks⟩:=r;simp only at hw;subst hw;obtain ⟨⟨o,h1⟩,h2,_⟩:=h;simp only at h1 h2;subst h1;unfold qC;rw [Nat.max_eq_left (by simp;omega)]
def zbX {r:Row} (h:r.ok) (hw:r.wd≠.joiner):qC r=List.replicate (max 1 r.outs.length) 0:=by
 obtain ⟨wd,ins,outs,pc,ks⟩:=r;unfold qC;cases wd
 ·obtain ⟨h1,⟨o,h2⟩,_⟩:=h;simp only at h1 h2;subst h1 h2;rfl
 ·obtain ⟨⟨o,h1⟩,h2,_⟩:=h;simp only at h1 h2;subst h1 h2;rfl
 ·obtain ⟨⟨o,h1⟩,h2,_⟩:=h;simp only at h1 h2;subst h1;rfl
 ·obtain ⟨⟨o,h1⟩,h2,_⟩:=h;simp only at h1 h2;subst h1;rfl
 ·obtain ⟨⟨o,h1⟩,h2,_⟩:=h;simp only at h1 h2;subst h1;rfl
 ·exact absurd rfl hw
def Z1 {r:Row} (h:r.ok):1<=(qC r).length/\(qC r).length<=4:=by
 have:=vo h;by_cases hw:r.wd=.joiner
 ·rw [zaQ h hw,bb];obtain ⟨wd,ins,outs,pc,ks⟩:=r;simp only at hw;subst hw;have:=h.2.1;simp only at this;constructor
  ·show 1<=ins.length;omega
  ·exact h.2.2
 ·rw [zbX h hw,bb];omega
def Zi (rs:List Row) (x:zG):Prop:=∀ s n,x=some (s,n)->∃ (j:Nat) (r:Row),s=j/\rs[j]?=some r/\r.wd=.source/\0<=n
def zbR (rs:List Row) (gss:List (List Int)):Prop:=gss.length=rs.length/\∀ (i:Nat) r g,rs[i]?=some r->gss[i]?=some g->g.length=(qC r).length/\∀ n∈g,0<=n
def jN (bs:List (Int × Int)) (rs:List Row) (css:List (List zG)):Prop:=css.length=bs.length/\∀ (i:Nat) b c,bs[i]?=some b->css[i]?=some c->c.length=b.1.toNat/\∀ x∈c,Zi rs x
def ze0 {rs:List Row} {gss:List (List Int)} (h:zbR rs gss) {j:Nat} {g g':List Int} (e:gss[j]?=some g) (l:g'.length=g.length) (n:∀ x∈g',0<=x):zbR rs (gss.set j g'):=by
 refine ⟨by rw [ck];exact h.1,λ i r x h1 h2=>?_⟩;by_cases hj:i=j
 ·subst hj;rw [aN (aa.mp e).1] at h2;cases h2;exact ⟨by rw [l];exact (h.2 i r g h1 e).1,n⟩
 ·rw [bg (aZ hj)] at h2;exact h.2 i r x h1 h2
def Zl (r:Row) (s:Int):Prop:=0<=s/\(r.wd=.parter->s < r.outs.length)/\(r.wd=.joiner->s < r.ins.length)/\(r.wd≠.parter->r.wd≠.joiner->s=0)
def WV (rs:List Row) (sds:List Int):Prop:=sds.length=rs.length/\∀ (i:Nat) r s,rs[i]?=some r->sds[i]?=some s->Zl r s
noncomputable def zE (cs:List (List zG)) (b:Int):List zG:=cs.getD b.toNat []
noncomputable def zZ (c:List zG):zG:=c.getLastD none
noncomputable def zb5 (c:List zG):zG:=c.headD none
noncomputable def j6 (rs:List Row):zG->Option Int:=Option.map λ x=>wS ((rs[x.1.toNat]?.map Row.kinds).getD []) x.2
noncomputable def z8 (rs:List Row) (cs:List (List zG)) (r:Row):List (Option Int):=r.ins.map λ b=>j6 rs (zZ (zE cs b))
noncomputable def qB (cs:List (List zG)) (r:Row):List Bool:=r.outs.map λ b=>decide (zb5 (zE cs b)=none)
def Jn {α:Type} {xs:List α} {d:α} (h:xs≠[]):atI xs (-1)=some (xs.getLastD d):=by
 have hl:0 < xs.length:=dA.mpr h;unfold atI ixN;rw [am (by decide),aq (by omega)];have e:((-1:Int) + xs.length).toNat=xs.length - 1:=by omega
 simp only [Option.bind_some,e];rw [ac (by omega),aX,bp,ac (by omega)]
 rfl
def zaC {c:List zG}:(c.map qc).getLastD .non=qc (zZ c):=by
 unfold zZ;rw [aX,aX,List.getLast?_map];cases c.getLast? <;> rfl
structure stWf (bs:List (Int × Int)) (rs:List Row) (st:PSt):Prop where
 co:jN bs rs st.cells
 so:WV rs st.sides
 go:zbR rs st.gone
def wW {bs:List (Int × Int)} {rs:List Row} {cs:List (List zG)} (h:jN bs rs cs) (bo:∀ b∈bs,zu b.1 b.2) {b:Int} (hb:b∈rgI bs.length):∃ (i:Nat),b=i/\i < cs.length/\cs[i]?=some (zE cs b)/\zE cs b≠[]/\∀ x∈zE cs b,Zi rs x:=by
 obtain ⟨h0,h1⟩:=zf6 hb;obtain ⟨i,rfl⟩:∃ i:Nat,b=i:=⟨b.toNat,by omega⟩;have hi:i < cs.length:=by rw [h.1];omega
 have e:cs[i]?=some (zE cs i):=by
  unfold zE;rw [aK,ac hi];simp [hi]
 have hib:i < bs.length:=by omega
 obtain ⟨q1,q2⟩:=h.2 i bs[i] _ (ac hib) e;refine ⟨i,rfl,hi,e,?_,q2⟩;intro z;rw [z] at q1;have:=(bo _ (br hib)).1;simp at q1;omega
def Jp {bs:List (Int × Int)} {rs:List Row} {k:Nat} {r:Row} {b:Int} (w:zH bs rs) (h:rs[k]?=some r) (hb:b∈r.ins):b∈rgI bs.length :=
 w.2.2.mem_iff.mp (c9.mpr ⟨r,af h,hb⟩)
def Xe {bs:List (Int × Int)} {rs:List Row} {k:Nat} {r:Row} {b:Int} (w:zH bs rs) (h:rs[k]?=some r) (hb:b∈r.outs):b∈rgI bs.length :=
 w.2.1.mem_iff.mp (c9.mpr ⟨r,af h,hb⟩)
def zcv {c:List zG} (h:c≠[]):zZ c∈c:=by
 unfold zZ;rw [aX,dh h];exact getLast_mem h
def zcO {H:Hp} {p:Addr->Prop} {v:V} {st:PSt} (h:Rep H p v (QE a st)):∃ y dx fs lc ls lg ucs ugs,v=.ref y/\H y=some (.ins a.p dx fs)/\fs.lookup ("turn":Str)=some (.int st.turn)/\fs.lookup ("cells":Str)=some (.ref lc)/\fs.lookup ("sides":Str)=some (.ref ls)/\fs.lookup ("gone":Str)=some (.ref lg) /\
  H lc=some (.lst ucs)/\Reps H p ucs ((qe st.cells).map D.lst)/\H ls=some (.lst (iv st.sides))/\H lg=some (.lst ugs)/\Reps H p ugs ((qw st.gone).map D.lst):=by
 obtain ⟨y,dx,fs,rfl,py,hy,g1,g2⟩:=Rep.ob' h;obtain ⟨u1,e1,r1⟩:=g1 _ _ (VX st);obtain ⟨u2,e2,r2⟩:=g1 _ _ (Wi st);obtain ⟨u3,e3,r3⟩:=g1 _ _ (Wh st);obtain ⟨u4,e4,r4⟩:=g1 _ _ (VY st);cases r1;obtain ⟨lc,ucs,rfl,_,hc,rc⟩:=r2.lst';obtain ⟨ls,rfl,_,hs⟩:=r3.ints';obtain ⟨lg,ugs,rfl,_,hg,rg⟩:=r4.lst';exact ⟨y,dx,fs,lc,ls,lg,ucs,ugs,rfl,hy,e1,e2,e3,e4,hc,rc,hs,hg,rg⟩
def zeX {H:Hp} {p:Addr->Prop} {us:List V} {dss:List (List D)} (h:Reps H p us (dss.map D.lst)) {i:Nat} {ds:List D} (e:dss[i]?=some ds):∃ l vs,us[i]?=some (.ref l)/\H l=some (.lst vs)/\Reps H p vs ds:=by
 obtain ⟨v,h1,h2⟩:=h.of (i:=i) (d:=.lst ds) (by rw [aj,e];rfl);obtain ⟨l,vs,rfl,_,h3,h4⟩:=h2.lst';exact ⟨l,vs,h1,h3,h4⟩
def zcc (a:Ad):Sp:=λ vs H Q _=>∃ (vw vs' vk:V) (bs:List (Int × Int)) (rs:List Row) (st:PSt) (k:Nat) (r:Row) (p q:Addr->Prop),vs=[vw,vs',vk]/\Rep H p vw (zX a bs rs)/\Rep H q vs' (QE a st)/\KnP a H p vk r/\rs[k]?=some r/\zH bs rs/\(∀ b∈bs,zu b.1 b.2)/\(∀ r∈rs,r.ok)/\jN bs rs st.cells /\
 ∀ l H',Same H H'->H l=none->H' l=some (.lst ((z8 rs st.cells r).map hdV))->Q (.ref l) H'
def zdr {a:Ad} {vs:List V} {H:Hp} {Q:VK} {E:XK} (vw vs' vk:V) (bs:List (Int × Int)) (rs:List Row) (st:PSt) (k:Nat) (r:Row) (p q:Addr->Prop) (q0:vs=[vw,vs',vk]) (q1:Rep H p vw (zX a bs rs)) (q2:Rep H q vs' (QE a st)) (q3:KnP a H p vk r) (q4:rs[k]?=some r) (q5:zH bs rs) (q6:(∀ b∈bs,zu b.1 b.2)) (q7:(∀ r∈rs,r.ok)) (q8:jN bs rs st.cells) (q9:∀ l H',Same H H'->H l=none->H' l=some (.lst ((z8 rs st.cells r).map hdV))->Q (.ref l) H'):zcc a vs H Q E:=⟨vw,vs',vk,bs,rs,st,k,r,p,q,q0,q1,q2,q3,q4,q5,q6,q7,q8,q9⟩
theorem zb3 (T:Txt K mg a):Cal P w K mg base "heads_of" 2 ["work","state","knot"] [] (zcc a):=T.ll.cal λ F=>by
 refine F.okx zad ?_ ?_
 ·walk_at "i"
 walk_at "j";refine oE8 h λ vw vs' vk bs rs st kn r z1_=>oE2 z1_ λ p q z2_=>oA6 z2_ λ z3_ hw hs hk hr' z4_=>oA5 z4_ λ wok bo ro co k=>?_;clear h;subst z3_;refine oE8 (zcO hs) λ y dx fs lc ls lg ucs ugs z1_=>oA9 z1_ λ z2_ hy e1 e2 e3 e4 hc rc z3_=>oA3 z3_ λ hsd hg rg=>?_;subst z2_;refine oE6 hk.inv λ y1 dx1 m1 m2 m3 fs1 z1_=>oA9 z1_ λ z2_ _ _ _ _ g0 f1 f2 z3_=>oA5 z3_ λ _ g1 g2 _ _=>?_;subst z2_;have rl:=vo (ro r (af hr'));walk_at "T";refine ⟨_,(zh (QN (i:=3) zad.nd rfl (Or.inl rfl) (vars:=["belt"]) (caps:=[1]) (N:=["belt","state"]) (ON:=["work","state","knot","ends"]) (osc:=zf xo) rfl rfl (by first|decide +kernel|kernel_rfl) rfl rfl (qd (zl (pq 2) rfl)) (λ s H fp pins=>(qk 0 (show (["belt","state"]:List Str).Nodup from by decide +kernel))) (λ s H fp pins=>qf) (λ s H fp pins=>(zr (zr (zl (pq 1) rfl) (pq 0)) (vt xl zd))))  (ze (zj (jY (vars:=["ware"]) (caps:=[0]) (N:=["ware","work"]) (ON:=["work","state","knot","ends"]) (osc:=zf xo) rfl rfl (by first|decide +kernel|kernel_rfl) rfl rfl (qd (pq 3)) (λ s H fp pins=>(qk 0 (show (["ware","work"]:List Str).Nodup from by decide +kernel))) (λ s H fp pins=>qf) (λ s H fp pins=>(jQ (zo qL (pq 0) zv (zq _)) zv (Zt hr (za (pq 1) (za (pq 0) zc))))))))),?_⟩;walk_at "go";walk_at "lc";walk_at "go";refine ra g0 (CT T _) (NI T _) f1 ⟨m1,rfl,.inl ⟨⟨_,SqL.of g1⟩,λ _ _ _ _ acc hacc=>?_⟩⟩;let M1_:Nat->St->Hp->Prop:=λ i σ H'=>∃ (v0:Option V) (us:List V),σ=[v0,some (.ref y)]/\Same H H'/\H' acc=some (.lst us)/\Reps H q us ((r.ins.take i).map λ b=>qc (zZ (zE st.cells b)));refine qE (K:=K) (a:=m1) (xs:=iv r.ins) M1_ (iE2 _ ([]) (iA4 rfl (zg hacc) upd_same (by rw [cu];exact .nil))) (λ i σ H' _ h=>by obtain ⟨_,_,_,s,_⟩:=h;exact SqL.of (s _ _ g1)) ?_ ?_
 ·intro i x σ H2 hi zz_;refine oE2 zz_ λ v0 us z1_=>oA4 z1_ λ z2_ s2 ha ru=>?_;clear zz_;subst z2_;obtain ⟨b,hb,rfl⟩:=ZY hi;have hil:=(aa.mp hb).1;refine oE1 (wW co bo (Jp wok hr' (af hb))) λ j z1_=>oA5 z1_ λ z2_ hj ej nej _=>?_;subst z2_;obtain ⟨li,vi,hu,hli,ri⟩:=zeX rc (i:=j) (ds:=(zE st.cells j).map qc) (by rw [qe,aj,ej];rfl);obtain ⟨ve,he,re⟩:=zgS ri (Jn (d:=.non) (by simpa using nej));rw [zaC] at re;walk_at "go";refine ra (s2 _ _ hy) T.fH T.fI e2 (zn (SqL.of (s2 _ _ hc)) (zy hu) ?_);walk_at "go";refine zn (SqL.of (s2 _ _ hli)) he ?_;refine ⟨_,iA3 ha (zm (by rw [ru.len,ai,aT];omega)) (iE2 _ (us ++ [ve]) (iA4 rfl (λ b o hb=>by rw [upd_ne (ne_of_none hb hacc)];exact s2 b o hb) upd_same ?_))⟩;rw [aR,hb,a7];exact ru.append (.one re)
 intro σ H2 zz_;refine oE2 zz_ λ v0 us z1_=>oA4 z1_ λ z2_ s2 ha ru=>?_;clear zz_;subst z2_;rw [zF,aS] at ru;have lu:us.length=r.ins.length:=by rw [ru.len,ai]
 walk_at "go";walk_at "lc";walk_at "go";refine ⟨acc,rfl,.inl ⟨⟨_,SqL.of ha⟩,λ _ _ _ _ ac2 hac2=>?_⟩⟩;let M2_:Nat->St->Hp->Prop:=λ i σ H'=>∃ (v0:Option V),σ=[v0,some vw]/\Same H2 H'/\H' ac2=some (.lst ((((z8 rs st.cells r).take i).map hdV)));refine qE (K:=K) (a:=acc) (xs:=us) M2_ ⟨_,iA3 rfl (zg hac2) (by rw [cu];exact upd_same)⟩ (λ i σ H' _ h=>by obtain ⟨_,_,s,_⟩:=h;exact SqL.of (s _ _ ha)) ?_ ?_
 ·intro i x σ H3 hi zz_;refine oE1 zz_ λ v0 z1_=>oA3 z1_ λ z2_ s3 ha3=>?_;clear zz_;subst z2_;obtain ⟨d,hd,rx⟩:=ru.at hi;rw [aj,av] at hd;obtain ⟨b,hb,rfl⟩:=hd;have hil:=(aa.mp hb).1;refine oE1 (wW co bo (Jp wok hr' (af hb))) λ j z1_=>oA5 z1_ λ z2_ hj ej nej wk=>?_;subst z2_;have hwk:=wk _ (zcv nej);have hh:(z8 rs st.cells r)[i]?=some (j6 rs (zZ (zE st.cells j))):=by rw [z8,aj,hb];rfl
  have s23:=s2.trans s3;have fin:∀ u:V,u=hdV (j6 rs (zZ (zE st.cells j)))->∃ ys,H3 ac2=some (.lst ys)/\ys.length < sizeLine/\∃ (v0:Option V),([some x,some vw]:St)=[v0,some vw]/\Same H2 (upd H3 ac2 (.lst (ys ++ [u])))/\upd H3 ac2 (.lst (ys ++ [u])) ac2=some (.lst ((((z8 rs st.cells r).take (i + 1)).map hdV))):=by
   rintro u rfl;refine ⟨_,iA3 ha3 (zm (by rw [ai,aT];omega)) ⟨_,iA3 rfl (λ b o hb=>by rw [upd_ne (ne_of_none hb hac2)];exact s3 b o hb) ?_⟩⟩;rw [upd_same,aR,hh,a7]
   rfl
  walk_at "go";cases hE:zZ (zE st.cells j) with
  | none =>
   rw [hE] at rx fin;cases rx;rw [aq rfl];exact fin _ rfl
  | some wr =>
   obtain ⟨sr,nr⟩:=wr;rw [hE] at rx fin hwk;refine oE2 (hwk _ _ rfl) λ j0 r0 z1_=>oA4 z1_ λ z2_ hr0 hw0 _=>?_;subst z2_;have ok0:=ro r0 (af hr0);have kp:0 < r0.kinds.length:=by
    obtain ⟨wd,ins,outs,pc,ks⟩:=r0;simp only at hw0;subst hw0;exact ok0.2.2.2.2.1
   obtain ⟨tw,rfl,htw⟩:=VS rx;rw [am (by intro z;cases z)];refine uc (vU T).mono (iE5 vw _ bs rs p (iE4 q j0 nr r0 (iA7 rfl (qY hw s23) (qY rx s23) hr0 hw0 kp ?_)));exact fin _ (by simp [j6,hr0,hdV])
 ·intro σ H3 zz_;refine oE1 zz_ λ v0 z1_=>oA3 z1_ λ z2_ s3 ha3=>?_;clear zz_;subst z2_;rw [lu,da (by simp [z8])] at ha3;walk_at "go";exact k _ _ (s2.trans s3) (zK s2 hac2) ha3
def zeb (K:PySem.W.Frag):Sp:=λ vs H Q _=>∃ (l:Addr) (ns:List Int) (o:Option Nat),vs=[.ref l,vX o]/\H l=some (.lst (iv ns))/\(∀ j,o=some j->j < ns.length)/\Q (hdV (o.bind λ j=>ns[j]?)) H
theorem WF (T:Txt K mg a):Cal P w K mg base "belt_at" 1 ["belts","place"] [] (zeb K):=T.lF.cal λ F=>by
 refine F.okx zbg ?_ ?_
 ·walk_at "i"
 walk_at "j";refine oE3 h λ l ns o z1_=>oA4 z1_ λ z2_ hl ho k=>?_;clear h;subst z2_;walk_at "T";refine ⟨_,(ze (zj (jQ (zo qL (pq 1) zv (zq _)) zv (zr (pq 0) (pq 1))))),?_⟩;walk_at "go";cases o with
 | none=>exact zI (λ _=>k) (λ b=>absurd rfl b)
 | some j =>
  have hj:=ho j rfl;refine zI (λ b=>by cases b) (λ _=>?_);refine zn (SqL.of hl) (zy (qM (ac hj))) ?_;have e:hdV ((some j).bind λ j=>ns[j]?)=.int ns[j]:=by simp [hj,hdV]
  rw [e] at k;exact k
def ziI (T:Txt K mg a) (wd:Wd):PySem.W.kitOne K (.ref (wt a wd)) (.ref a.o)=some (decide (wd=.joiner)):=by
 cases wd
 ·exact T.ic
 ·exact T.iA
 ·exact T.ie
 ·exact T.gF
 ·exact T.iB
 ·exact T.ig
noncomputable def xz (r:Row) (ch:Option Nat × Option Nat × Nat):Nat:=if r.wd=.joiner then ch.1.getD 0 else ch.2.1.getD 0
def Wk (a:Ad):Sp:=λ vs H Q _=>∃ (vk:V) (t:Addr) (r:Row) (ch:Option Nat × Option Nat × Nat) (p:Addr->Prop),vs=[vk,.ref t]/\KnP a H p vk r/\H t=some (.tup (chV ch))/\(r.wd=.joiner->∃ j,ch.1=some j)/\Q (.int (xz r ch)) H
def zaJ {a:Ad} {vs:List V} {H:Hp} {Q:VK} {E:XK} (vk:V) (t:Addr) (r:Row) (ch:Option Nat × Option Nat × Nat) (p:Addr->Prop) (q0:vs=[vk,.ref t]) (q1:KnP a H p vk r) (q2:H t=some (.tup (chV ch))) (q3:(r.wd=.joiner->∃ j,ch.1=some j)) (q4:Q (.int (xz r ch)) H):Wk a vs H Q E:=⟨vk,t,r,ch,p,q0,q1,q2,q3,q4⟩
theorem Je (T:Txt K mg a):Cal P w K mg base "counted_place" 1 ["knot","chosen"] [] (Wk a):=T.ip.cal λ F=>by
 refine F.okx Qa ?_ ?_
 ·walk_at "i"
 walk_at "j";obtain ⟨vk,t,r,ch,p,rfl,hk,ht,hj,k⟩:=h;obtain ⟨y1,dx1,m1,m2,m3,fs1,rfl,_,_,_,_,g0,f1,f2,_,g1,g2,_,_⟩:=hk.inv;walk_at "T";refine ⟨_,(zi (zD (z7 (zJ qU zB (za (pq 0) (za jq zc))) (λ _=>rfl))  (ze (zj (zr (pq 1) zd)))  zp)  (ze (zj (jQ (zo qL (zr (pq 1) zd) zv (zq _)) zd (zr (pq 1) zd))))),?_⟩;walk_at "go";refine ⟨.ref a.o,_,T.k8,rfl,_,_,_,_,rfl,(WT T r.wd).ty (CT T r.wd) g0,.inl ⟨_,rfl,ziI T r.wd⟩,?_⟩;walk_at "go";unfold xz at k;refine zI (λ b=>?_) (λ b=>?_)
 ·rw [aq b] at k;obtain ⟨j,ej⟩:=hj b;walk_at "go";refine rd_ixT ht at0 ?_;rw [ej] at k ⊢;exact k
 ·rw [am b] at k;walk_at "go";refine rd_ixT ht (show atI (chV ch) 1=some (vX ch.2.1) from rfl) ?_;walk_at "go";cases e:ch.2.1 with
  | none =>
   rw [e] at k;exact zI (λ _=>k) (λ b=>absurd rfl b)
  | some j =>
   rw [e] at k;refine zI (λ b=>by cases b) (λ _=>?_);refine rd_ixT ht (show atI (chV ch) 1=some (vX ch.2.1) from rfl) ?_;rw [e];exact k
section
variable {H:Hp} {y:Addr} {n:SN} {st:PSt}
def StO.nds (h:StO a H y n st):n.ls ∉ n.lc :: n.lg :: (n.acs ++ n.ags)/\n.lc ∉ n.lg :: (n.acs ++ n.ags)/\n.lg ∉ n.acs ++ n.ags/\∀ x∈n.acs,x ∉ n.ags:=by
 have nd:=h.nd;unfold SN.all at nd;rw [di,di,di,nodup_append] at nd;exact ⟨nd.1,nd.2.1,nd.2.2.1,λ x hx hy=>nd.2.2.2.2.2 x hx x hy rfl⟩
def Jg {x:Addr} {us vs:List V} (hx:H x=some (.lst us)) {b:Addr} (h:zT H b):zT (upd H x (.lst vs)) b:=by
 obtain ⟨xs,hb⟩:=h;exact ⟨xs,by rw [upd_ne (λ z=>by rw [z,hx] at hb;cases hb)];exact hb⟩
def StO.putC {i:Nat} {b:Addr} {c':List zG} {vs:List V} (h:StO a H y n st) (e:n.acs[i]?=some b) (r:Reps H (zT H) vs (c'.map qc)):StO a (upd H b (.lst vs)) y n { st with cells:=st.cells.set i c' }:=by
 have hb:=af e;obtain ⟨us,hu⟩:=h.hc.isl (aG _ hb);obtain ⟨n1,n2,n3,n4⟩:=h.nds;have k:∀ c o,c≠b->H c=some o->upd H b (.lst vs) c=some o:=λ c o nc hc=>by rw [upd_ne nc];exact hc
 have ntb:¬ zT H b:=λ ⟨xs,hx⟩=>by rw [hu] at hx;cases hx
 refine ⟨k _ _ (λ z=>by rw [<- z,h.hy] at hu;cases hu) h.hy,?_,k _ _ (λ z=>n1 (by rw [z];simp [hb])) h.hs,h.hg.tup λ c o hz hc=>k c o (λ z=>?_) hc,h.nd⟩
 ·have:=h.hc.put (vs:=vs) (ys:=c'.map qc) e ntb r;rw [show qe (st.cells.set i c')=(qe st.cells).set i (c'.map qc) by simp [qe,eH]];exact this.keep (λ _ _ _ hc=>hc) λ c hc _=>Jg hu hc
 ·subst z;rcases hz with rfl|hz|hz
  ·exact n3 (bH _ hb)
  ·exact n4 c hb hz
  ·exact ntb hz
def StO.putG {i:Nat} {b:Addr} {g':List Int} (h:StO a H y n st) (e:n.ags[i]?=some b):StO a (upd H b (.lst (iv g'))) y n { st with gone:=st.gone.set i g' }:=by
 have hb:=af e;obtain ⟨us,hu⟩:=h.hg.isl (aG _ hb);obtain ⟨n1,n2,n3,n4⟩:=h.nds;have k:∀ c o,c≠b->H c=some o->upd H b (.lst (iv g')) c=some o:=λ c o nc hc=>by rw [upd_ne nc];exact hc
 have ntb:¬ zT H b:=λ ⟨xs,hx⟩=>by rw [hu] at hx;cases hx
 refine ⟨k _ _ (λ z=>by rw [<- z,h.hy] at hu;cases hu) h.hy,h.hc.tup λ c o hz hc=>k c o (λ z=>?_) hc,k _ _ (λ z=>n1 (by rw [z];simp [hb])) h.hs,?_,h.nd⟩
 ·subst z;rcases hz with rfl|hz|hz
  ·exact n2 (aG _ (aV _ hb))
  ·exact n4 c hz hb
  ·exact ntb hz
 ·have:=h.hg.put (vs:=iv g') (ys:=g'.map D.int) e ntb reps_ints;rw [show qw (st.gone.set i g')=(qw st.gone).set i (g'.map D.int) by simp [qw,eH]];exact this.keep (λ _ _ _ hc=>hc) λ c hc _=>Jg hu hc
def StO.putS {s':List Int} (h:StO a H y n st):StO a (upd H n.ls (.lst (iv s'))) y n { st with sides:=s' }:=by
 obtain ⟨n1,n2,n3,n4⟩:=h.nds;have k:∀ c o,c≠n.ls->H c=some o->upd H n.ls (.lst (iv s')) c=some o:=λ c o nc hc=>by rw [upd_ne nc];exact hc
 have kt:∀ c,zT H c->c≠n.ls:=λ c ⟨xs,hx⟩ z=>by rw [z,h.hs] at hx;cases hx
 refine ⟨k _ _ (λ z=>by have:=h.hy;rw [z,h.hs] at this;cases this) h.hy,h.hc.tup λ c o hz hc=>k c o (λ z=>?_) hc,upd_same,h.hg.tup λ c o hz hc=>k c o (λ z=>?_) hc,h.nd⟩
 ·rcases hz with rfl|hz|hz
  ·exact n1 (by rw [<- z];simp)
  ·exact n1 (by rw [<- z];simp [hz])
  ·exact kt c hz z
 ·rcases hz with rfl|hz|hz
  ·exact n1 (by rw [<- z];simp)
  ·exact n1 (by rw [<- z];simp [hz])
  ·exact kt c hz z
def StO.cell {i:Nat} {c:List zG} (h:StO a H y n st) (e:st.cells[i]?=some c):∃ b vs,n.acs[i]?=some b/\H b=some (.lst vs)/\Reps H (zT H) vs (c.map qc):=h.hc.at (by rw [qe,aj,e];rfl)
def StO.goneL {i:Nat} {g:List Int} (h:StO a H y n st) (e:st.gone[i]?=some g):∃ b,n.ags[i]?=some b/\H b=some (.lst (iv g)):=by
 obtain ⟨b,vs,h1,h2,h3⟩:=h.hg.at (i:=i) (xs:=g.map D.int) (by rw [qw,aj,e];rfl);rw [Jo h3] at h2;exact ⟨b,h1,h2⟩
def sff_l {t:Int} {lc ls lg:Addr}:(sff t lc ls lg).lookup ("cells":Str)=some (.ref lc)/\(sff t lc ls lg).lookup ("sides":Str)=some (.ref ls)/\(sff t lc ls lg).lookup ("gone":Str)=some (.ref lg)/\(sff t lc ls lg).lookup ("turn":Str)=some (.int t):=by
 unfold sff;refine ⟨(zM (by decide +kernel)).trans qZ,(zM (by decide +kernel)).trans ((zM (by decide +kernel)).trans qZ),(zM (by decide +kernel)).trans ((zM (by decide +kernel)).trans ((zM (by decide +kernel)).trans qZ)),qZ⟩
def Z6 {i:Nat} {b:Addr} (e:n.acs[i]?=some b):(n.acs.map V.ref)[i]?=some (.ref b):=by rw [aj,e];rfl
def zcI {i:Nat} {b:Addr} (e:n.ags[i]?=some b):(n.ags.map V.ref)[i]?=some (.ref b):=by rw [aj,e];rfl
def VP {b:Addr} {i:Nat} (e:n.acs[i]?=some b):b∈y :: n.all:=by simp [SN.all,af e]
def zgz {b:Addr} {i:Nat} (e:n.ags[i]?=some b):b∈y :: n.all:=by simp [SN.all,af e]
end
noncomputable def JM (c:List zG):List zG:=c.set (c.length - 1) none
noncomputable def qF (st:PSt) (k:Nat):Option Int->zG × PSt
 | none=>(some ((k:Int),(st.gone.getD k []).headD 0),st)
 | some b=>(zZ (zE st.cells b),{ st with cells:=st.cells.set b.toNat (JM (zE st.cells b)) })
def Reps.set {H:Hp} {p:Addr->Prop} {vs:List V} {ds:List D} {v:V} {d:D} (h:Reps H p vs ds) (i:Nat) (r:Rep H p v d):Reps H p (vs.set i v) (ds.set i d):=by
 refine ⟨by rw [ck,ck,h.len],λ j u e h1 h2=>?_⟩;by_cases hj:j=i
 ·subst hj;have hl:j < vs.length:=by have:=(aa.mp h1).1;rw [ck] at this;exact this
  rw [aN hl] at h1;rw [aN (by rw [<- h.len];exact hl)] at h2;cases h1;cases h2;exact r
 ·rw [bg (aZ hj)] at h1 h2;exact h.g j u e h1 h2
def zcb (a:Ad):Sp:=λ vs H Q _=>∃ (y:Addr) (n:SN) (st:PSt) (k:Nat) (fb:Option Int) (g0:Int) (gs:List Int),vs=[.ref y,.int k,hdV fb]/\StO a H y n st/\st.gone[k]?=some (g0 :: gs)/\(∀ b,fb=some b->∃ i:Nat,b=i/\st.cells[i]?=some (zE st.cells b)/\zE st.cells b≠[]) /\
 ∀ v H',Fr (y :: n.all) H H'->StO a H' y n (qF st k fb).2->Rep H' (zT H') v (qc (qF st k fb).1)->Q v H'
def zdq {a:Ad} {vs:List V} {H:Hp} {Q:VK} {E:XK} (y:Addr) (n:SN) (st:PSt) (k:Nat) (fb:Option Int) (g0:Int) (gs:List Int) (q0:vs=[.ref y,.int k,hdV fb]) (q1:StO a H y n st) (q2:st.gone[k]?=some (g0 :: gs)) (q3:(∀ b,fb=some b->∃ i:Nat,b=i/\st.cells[i]?=some (zE st.cells b)/\zE st.cells b≠[])) (q4:∀ v H',Fr (y :: n.all) H H'->StO a H' y n (qF st k fb).2->Rep H' (zT H') v (qc (qF st k fb).1)->Q v H'):zcb a vs H Q E:=⟨y,n,st,k,fb,g0,gs,q0,q1,q2,q3,q4⟩
theorem VI (T:Txt K mg a):Cal P w K mg base "taken_ware" 1 ["state","number","from_belt"] [] (zcb a):=T.km.cal λ F=>by
 refine F.okx XR ?_ ?_
 ·walk_at "i"
 walk_at "j";refine oE7 h λ y n st kn fb g0 gs z1_=>oA5 z1_ λ z2_ so hg hf k=>?_;clear h;subst z2_;refine oA4 (sff_l (t:=st.turn) (lc:=n.lc) (ls:=n.ls) (lg:=n.lg)) λ lk1 lk2 lk3 lk4=>?_;walk_at "T";refine ⟨_,(zi (zD (zo qL (pq 2) zv (zq _))  (ze (zj (qS (za (pq 1) (za (zr (zr (zl (pq 0) rfl) (pq 1)) zd) zc)))))  zp)  (zi (zx 3 XR.nd (zr (zr (zl (pq 0) rfl) (pq 2)) (vt xl zd)))  (zi (Zq zv (Xc (zr (zl (pq 0) rfl) (pq 2)) (vt xl zd) x8))  (ze (zj (pq 3)))))),?_⟩;walk_at "go";cases fb with
 | none =>
  refine zI (λ _=>?_) (λ b=>absurd rfl b);obtain ⟨bG,hbG,hgG⟩:=so.goneL hg;walk_at "go";refine ra so.hy T.fH T.fQ lk3 (zn (SqL.of so.hg.out) (zy (zcI hbG)) (zn (SqL.of hgG) at0 ?_));walk_at "go";intro t ht;refine k _ _ (zbS ht) (so.same (zg ht)) ?_;have e:(st.gone.getD kn []).headD 0=g0:=by simp [List.getD,hg]
  show Rep _ _ _ (D.tup [.int kn,.int ((st.gone.getD kn []).headD 0)])
  rw [e];exact Reps.mkT (vs:=[.int kn,.int g0]) (.cons .int (.cons .int .nil)) ⟨_,upd_same⟩ upd_same
 | some b =>
  refine oE1 (hf b rfl) λ i z1_=>oA3 z1_ λ z2_ hc nc=>?_;subst z2_;refine oE2 (so.cell hc) λ bC vs z1_=>oA3 z1_ λ hbC hvC rvC=>?_;have lv:vs.length=(zE st.cells i).length:=by rw [rvC.len,ai]
  have lp:0 < vs.length:=by rw [lv];exact dA.mpr nc
  obtain ⟨ve,he,re⟩:=zgS rvC (Jn (d:=.non) (by simpa using nc));rw [zaC] at re;refine zI (λ b=>by cases b) (λ _=>?_);walk_at "go";refine ra so.hy T.fH T.fI lk1 (zn (SqL.of so.hc.out) (zy (Z6 hbC)) ?_);walk_at "go";refine zn (SqL.of hvC) he ?_;walk_at "go";refine ra so.hy T.fH T.fI lk1 (zn (SqL.of so.hc.out) (zy (Z6 hbC)) ?_);walk_at "go";refine vO (j:=vs.length - 1) hvC ?_ ?_
  ·unfold ixN;rw [am (by decide),aq (by omega)]
   congr 1
   omega
  have e2:(JM (zE st.cells i)).map qc=((zE st.cells i).map qc).set (vs.length - 1) .non:=by
   unfold JM;rw [eH,lv]
   rfl
  have r2:Reps H (zT H) (vs.set (vs.length - 1) .non) ((JM (zE st.cells i)).map qc):=by rw [e2];exact Reps.set rvC _ .non
  refine k _ _ (jH (VP hbC)) ?_ ?_
  ·have:=so.putC hbC r2;simpa [qF] using this
  ·refine Rep.keep (λ c o pc hc=>⟨Jg hvC pc,?_⟩) re;obtain ⟨xs,hx⟩:=pc;rw [upd_ne (λ z=>by rw [z,hvC] at hx;cases hx)];exact hc
structure Move where
 k:Nat
 ware:zG
 fr:Option Int
 to:Option Int
noncomputable def zhJ:Option Int->D
 | none=>.non
 | some b=>.int b
def zcf {H:Hp} {p:Addr->Prop} (o:Option Int):Rep H p (hdV o) (zhJ o):=by
 cases o
 ·exact .non
 ·exact .int
noncomputable def XB (m:Move):D:=.tup [.int m.k,qc m.ware,zhJ m.fr,zhJ m.to]
noncomputable def zfb:Option Move->D
 | none=>.non
 | some m=>XB m
noncomputable def Qt (st:PSt) (x:zG):Option Int->PSt
 | none=>st
 | some b=>{ st with cells:=st.cells.set b.toNat ((zE st.cells b).set 0 x) }
noncomputable def Wc (g:List Int) (j:Nat):List Int:=g.set j (g.getD j 0 + 1)
noncomputable def xj (r:Row) (ch:Option Nat × Option Nat × Nat):Option Int:=ch.1.bind λ j=>r.ins[j]?
noncomputable def Z9 (r:Row) (ch:Option Nat × Option Nat × Nat):Option Int:=ch.2.1.bind λ j=>r.outs[j]?
noncomputable def movedF (r:Row) (st:PSt) (k:Nat) (ch:Option Nat × Option Nat × Nat):PSt:=Qt (qF st k (xj r ch)).2 (qF st k (xj r ch)).1 (Z9 r ch)
noncomputable def zaN (r:Row) (st:PSt) (k:Nat) (ch:Option Nat × Option Nat × Nat):PSt × Move :=
 ({ movedF r st k ch with sides:=(movedF r st k ch).sides.set k ch.2.2,gone:=(movedF r st k ch).gone.set k (Wc ((movedF r st k ch).gone.getD k []) (xz r ch)) },⟨k,(qF st k (xj r ch)).1,xj r ch,Z9 r ch⟩)
noncomputable def qO (rs:List Row) (st:PSt) (k:Nat):PSt × Option Move:=match rs[k]? with
 | none=>(st,none)
 | some r=>match zO r (z8 rs st.cells r) (qB st.cells r) st.turn (st.sides.getD k 0).toNat with
  | none=>(st,none)
  | some ch=>((zaN r st k ch).1,some (zaN r st k ch).2)
def QG {bs:List (Int × Int)} {rs:List Row} {cs:List (List zG)} (h:jN bs rs cs) {i:Nat} {c c':List zG} (e:cs[i]?=some c) (l:c'.length=c.length) (k:∀ x∈c',Zi rs x):jN bs rs (cs.set i c'):=by
 refine ⟨by rw [ck];exact h.1,λ j b d h1 h2=>?_⟩;by_cases hj:j=i
 ·subst hj;rw [aN (aa.mp e).1] at h2;cases h2;exact ⟨by rw [l];exact (h.2 j b c h1 e).1,k⟩
 ·rw [bg (aZ hj)] at h2;exact h.2 j b d h1 h2
def Z7 {rs:List Row}:Zi rs none:=λ _ _ z=>nomatch z
def vB {α:Type} {xs:List α} {i:Nat} {x y:α} (h:y∈xs.set i x):y∈xs\/y=x:=List.mem_or_eq_of_mem_set h
theorem QF {r:Row} {hs:List (Option Int)} {bs:List Bool} {t:Int} {side:Nat} {ch:Option Nat × Option Nat × Nat} (ok:r.ok) (hl:hs.length=r.ins.length) (bl:bs.length=r.outs.length) (sd:Zl r side) (h:zO r hs bs t side=some ch) :
  (∀ j,ch.1=some j->j < r.ins.length)/\(∀ j,ch.2.1=some j->j < r.outs.length)/\(r.wd=.joiner->∃ j,ch.1=some j)/\(ch.1=none->r.wd=.source)/\Zl r ch.2.2/\xz r ch < (qC r).length:=by
 obtain ⟨wd,ins,outs,pace,kinds⟩:=r;have cp:=Z1 ok;unfold zO at h;cases wd with
 | source =>
  simp only at h;obtain ⟨h1,⟨o,h2⟩,_⟩:=ok;simp only at h1 h2;subst h1 h2
  split at h
  ·cases h;exact ⟨(λ j z=>nomatch z),λ j z=>by cases z;simp,(λ z=>nomatch z),λ _=>rfl,sd,by simp [xz];omega⟩
  ·cases h
 | drain =>
  simp only at h;obtain ⟨⟨o,h1⟩,h2,_⟩:=ok;simp only at h1 h2;subst h1 h2
  split at h
  ·cases h
  ·cases h;exact ⟨λ j z=>by cases z;simp,(λ j z=>nomatch z),(λ z=>nomatch z),(λ z=>nomatch z),sd,by simp [xz];omega⟩
 | parter =>
  simp only at h;obtain ⟨⟨o,h1⟩,h2,h3⟩:=ok;simp only at h1 h2 h3 bl;subst h1
  split at h
  ·cases h
  ·rw [av] at h;obtain ⟨q,hq,rfl⟩:=h;have hlt:=wq hq;refine ⟨λ j z=>by cases z;simp,λ j z=>by cases z;show q < outs.length;omega,(λ z=>nomatch z),(λ z=>nomatch z),⟨bX _,λ _=>?_,(λ z=>nomatch z),λ z=>absurd rfl z⟩,?_⟩
   ·have:=db (q + 1) (show 0 < bs.length by omega);show (((q + 1) % bs.length:Nat):Int) < outs.length
    omega
   ·simp only [xz,bt];rw [am (by decide)];show q < (List.replicate (max 1 outs.length) 0).length
    rw [bb];omega
 | first =>
  simp only at h;obtain ⟨⟨o,h1⟩,h2,h3⟩:=ok;simp only at h1 h2 h3 bl;subst h1
  split at h
  ·cases h
  ·rw [av] at h;obtain ⟨q,hq,rfl⟩:=h;have hlt:=wq hq;refine ⟨λ j z=>by cases z;simp,λ j z=>by cases z;show q < outs.length;omega,(λ z=>nomatch z),(λ z=>nomatch z),sd,?_⟩;simp only [xz,bt];rw [am (by decide)];show q < (List.replicate (max 1 outs.length) 0).length
   rw [bb];omega
 | sieve =>
  simp only at h;obtain ⟨⟨o,h1⟩,h2,_⟩:=ok;simp only at h1 h2 bl;subst h1
  split at h
  ·cases h
  ·generalize (if hs.getD 0 none=some (kinds.headD 0) then 0 else 1)=q at h;have q2:q=q:=rfl
   split at h
   ·rename_i hb;cases h;have hlt:q < outs.length:=by
     rcases Nat.lt_or_ge q bs.length with z|z
     ·omega
     ·rw [ae,d5 z] at hb;cases hb
    refine ⟨λ j z=>by cases z;simp,λ j z=>by cases z;exact hlt,(λ z=>nomatch z),(λ z=>nomatch z),sd,?_⟩;simp only [xz,bt];rw [am (by decide)];show q < (List.replicate (max 1 outs.length) 0).length
    rw [bb];omega
   ·cases h
 | joiner =>
  simp only at h;obtain ⟨⟨o,h1⟩,h2,h3⟩:=ok;simp only at h1 h2 h3 hl;subst h1
  split at h
  ·rw [av] at h;obtain ⟨q,hq,rfl⟩:=h;have hlt:=wq hq;rw [ai] at hlt;refine ⟨λ j z=>by cases z;show q < ins.length;omega,λ j z=>by cases z;simp,λ _=>⟨q,rfl⟩,(λ z=>nomatch z),⟨bX _,(λ z=>nomatch z),λ _=>?_,λ _ z=>absurd rfl z⟩,?_⟩
   ·have:=db (q + 1) (show 0 < hs.length by omega);show (((q + 1) % hs.length:Nat):Int) < ins.length
    omega
   ·simp only [xz,bt];rw [aq trivial];show q < (List.replicate (max ins.length 1) 0).length
    rw [bb];omega
  ·cases h
theorem VU {bs:List (Int × Int)} {rs:List Row} {st:PSt} {k:Nat} {r:Row} {fb:Option Int} (wf:stWf bs rs st) (wok:zH bs rs) (bo:∀ b∈bs,zu b.1 b.2) (ro:∀ r∈rs,r.ok) (hr:rs[k]?=some r) (hf:∀ b,fb=some b->b∈rgI bs.length) (hn:fb=none->r.wd=.source) :
  stWf bs rs (qF st k fb).2/\Zi rs (qF st k fb).1:=by
 cases fb with
 | none =>
  refine ⟨wf,λ s n z=>?_⟩;have z:((k:Int),(st.gone.getD k []).headD 0)=(s,n):=aI z;cases z;refine ⟨k,r,rfl,hr,hn rfl,?_⟩;have hk:=(aa.mp hr).1;have hg:st.gone[k]?=some (st.gone.getD k []):=by
   rw [ae,ac (by rw [wf.go.1];exact hk)]
   rfl
  obtain ⟨q1,q2⟩:=wf.go.2 k r _ hr hg;have cp:=Z1 (ro r (af hr));cases e:st.gone.getD k [] with
  | nil=>rw [e] at q1;simp at q1;omega
  | cons x xs=>exact q2 x (by rw [e];simp)
 | some b =>
  obtain ⟨i,rfl,hi,ei,ne,wk⟩:=wW wf.co bo (hf b rfl);refine ⟨⟨?_,wf.so,wf.go⟩,wk _ (zcv ne)⟩;show jN bs rs (st.cells.set _ _)
  rw [aK];refine QG wf.co ei (by simp [JM]) λ x hx=>?_;rcases vB hx with h|h
  ·exact wk x h
  ·rw [h];exact Z7
theorem zas {bs:List (Int × Int)} {rs:List Row} {st:PSt} {x:zG} {tb:Option Int} (wf:stWf bs rs st) (bo:∀ b∈bs,zu b.1 b.2) (hf:∀ b,tb=some b->b∈rgI bs.length) (hx:Zi rs x):stWf bs rs (Qt st x tb):=by
 cases tb with
 | none=>exact wf
 | some b =>
  obtain ⟨i,rfl,hi,ei,ne,wk⟩:=wW wf.co bo (hf b rfl);refine ⟨?_,wf.so,wf.go⟩;show jN bs rs (st.cells.set _ _)
  rw [aK];refine QG wf.co ei (by simp) λ z hz=>?_;rcases vB hz with h|h
  ·exact wk z h
  ·rw [h];exact hx
def zed {rs:List Row} {sds:List Int} {k:Nat} {r:Row} {s:Int} (h:WV rs sds) (hr:rs[k]?=some r) (hs:Zl r s):WV rs (sds.set k s):=by
 refine ⟨by rw [ck];exact h.1,λ j r2 s2 h1 h2=>?_⟩;by_cases hj:j=k
 ·subst hj;rw [aN (by rw [h.1];exact (aa.mp h1).1)] at h2;cases h2;rw [hr] at h1;cases h1;exact hs
 ·rw [bg (aZ hj)] at h2;exact h.2 j r2 s2 h1 h2
def jf {α:Type} {xs:List α} {k:Nat} {d:α} (h:k < xs.length):xs[k]?=some (xs.getD k d):=by
 rw [ae,ac h];rfl
theorem zcF {g:List Int} {j:Nat} (h:∀ x∈g,0<=x):(Wc g j).length=g.length/\∀ x∈Wc g j,0<=x:=by
 refine ⟨by simp [Wc],λ x hx=>?_⟩;rcases vB hx with z|z
 ·exact h x z
 ·rw [z];have:0<=g.getD j 0:=by
   rw [ae];cases e:g[j]? with
   | none=>simp
   | some v=>exact h v (af e)
  omega
theorem zgA {bs:List (Int × Int)} {rs:List Row} {st:PSt} {k:Nat} (wf:stWf bs rs st) (wok:zH bs rs) (bo:∀ b∈bs,zu b.1 b.2) (ro:∀ r∈rs,r.ok):stWf bs rs (qO rs st k).1:=by
 unfold qO;cases hr:rs[k]? with
 | none=>exact wf
 | some r =>
  simp only;have hk:=(aa.mp hr).1;have ok:=ro r (af hr);have hsd:=wf.so.2 k r _ hr (jf (d:=0) (by rw [wf.so.1];exact hk));have hsd':Zl r ((st.sides.getD k 0).toNat:Int):=by rw [dB hsd.1];exact hsd
  cases hc:zO r (z8 rs st.cells r) (qB st.cells r) st.turn (st.sides.getD k 0).toNat with
  | none=>exact wf
  | some ch =>
   obtain ⟨c1,c2,c3,c4,c5,c6⟩:=QF ok (by simp [z8]) (by simp [qB]) hsd' hc;have hfb:∀ b,xj r ch=some b->b∈rgI bs.length:=λ b hb=>by
    unfold xj at hb;obtain ⟨j,hj1,hj2⟩:=cB.mp hb;exact Jp wok hr (af hj2)
   have htb:∀ b,Z9 r ch=some b->b∈rgI bs.length:=λ b hb=>by
    unfold Z9 at hb;obtain ⟨j,hj1,hj2⟩:=cB.mp hb;exact Xe wok hr (af hj2)
   have hfn:xj r ch=none->r.wd=.source:=λ hb=>by
    cases e:ch.1 with
    | none=>exact c4 e
    | some j =>
     unfold xj at hb;rw [e] at hb;simp at hb;have:=c1 j e;omega
   obtain ⟨w1,w2⟩:=VU wf wok bo ro hr hfb hfn;have w3:=zas w1 bo htb w2;refine ⟨w3.co,zed w3.so hr c5,?_⟩;have hg:=jf (xs:=(movedF r st k ch).gone) (k:=k) (d:=[]) (by rw [show (movedF r st k ch).gone.length=rs.length from w3.go.1];exact hk);obtain ⟨q1,q2⟩:=w3.go.2 k r _ hr hg;exact ze0 w3.go hg (zcF q2).1 (zcF q2).2
def KnP.no {H:Hp} {p:Addr->Prop} {y C dx:Addr} {fs:List (Str × V)} {r:Row} {f:Str} (h:KnP a H p (.ref y) r) (hy:H y=some (.ins C dx fs)) (h1:f≠"ins") (h2:f≠"outs") (h3:f≠"pace") (h4:f≠"kinds") (h5:f≠"kind"):fs.lookup f=none:=by
 obtain ⟨y',dx',fs',e,_,hy',_,g⟩:=Rep.ob' h;cases e;rw [hy] at hy';cases hy';exact g f (zeP h1 h2 h3 h4 h5)
def StO.offT {H:Hp} {y:Addr} {n:SN} {st:PSt} (h:StO a H y n st) {b:Addr} (t:zT H b):b ∉ y :: n.all:=by
 obtain ⟨xs,hx⟩:=t;intro hb;have no:∀ us,H b≠some (.lst us):=λ us e=>by rw [hx] at e;cases e
 unfold SN.all at hb;rcases ax.mp hb with rfl|hb
 ·rw [h.hy] at hx;cases hx
 rcases ax.mp hb with rfl|hb
 ·exact no _ h.hs
 rcases ax.mp hb with rfl|hb
 ·exact no _ h.hc.out
 rcases ax.mp hb with rfl|hb
 ·exact no _ h.hg.out
 rcases aD.mp hb with hb|hb
 ·obtain ⟨us,e⟩:=h.hc.isl (aG _ hb);exact no _ e
 ·obtain ⟨us,e⟩:=h.hg.isl (aG _ hb);exact no _ e
def StO.repT {H H':Hp} {y:Addr} {n:SN} {st:PSt} (h:StO a H y n st) (s:Fr (y :: n.all) H H') {v:V} {d:D} (r:Rep H (zT H) v d):Rep H' (zT H') v d :=
 Rep.keep (λ b o hp hb=>⟨by obtain ⟨xs,hx⟩:=hp;exact ⟨xs,s _ _ (h.offT ⟨xs,hx⟩) hx⟩,s _ _ (h.offT hp) hb⟩) r
def zeS (ns:List Int) (k:Nat) (x:Int):(iv ns).set k (.int x)=iv (ns.set k x):=by simp [iv]
def zc4 {H H':Hp} {v:V} {d:D} (r:Rep H (zT H) v d) (s:Same H H'):Rep H' (zT H') v d:=Rep.keep (λ b o ⟨xs,hx⟩ hb=>⟨⟨xs,s _ _ hx⟩,s _ _ hb⟩) r
def zec (a:Ad):Sp:=λ vs H Q _=>∃ (vw:V) (y:Addr) (n:SN) (st:PSt) (k:Nat) (bs:List (Int × Int)) (rs:List Row),vs=[vw,.ref y,.int k]/\Rep H (Off (y :: n.all)) vw (zX a bs rs)/\StO a H y n st/\stWf bs rs st/\zH bs rs/\(∀ b∈bs,zu b.1 b.2)/\(∀ r∈rs,r.ok)/\k < rs.length /\
 ∀ v H',Fr (y :: n.all) H H'->StO a H' y n (qO rs st k).1->Rep H' (zT H') v (zfb (qO rs st k).2)->Q v H'
def zgh {a:Ad} {vs:List V} {H:Hp} {Q:VK} {E:XK} (vw:V) (y:Addr) (n:SN) (st:PSt) (k:Nat) (bs:List (Int × Int)) (rs:List Row) (q0:vs=[vw,.ref y,.int k]) (q1:Rep H (Off (y :: n.all)) vw (zX a bs rs)) (q2:StO a H y n st) (q3:stWf bs rs st) (q4:zH bs rs) (q5:(∀ b∈bs,zu b.1 b.2)) (q6:(∀ r∈rs,r.ok)) (q7:k < rs.length) (q8:∀ v H',Fr (y :: n.all) H H'->StO a H' y n (qO rs st k).1->Rep H' (zT H') v (zfb (qO rs st k).2)->Q v H'):zec a vs H Q E:=⟨vw,y,n,st,k,bs,rs,q0,q1,q2,q3,q4,q5,q6,q7,q8⟩
theorem zhm (T:Txt K mg a) (F:Fun K "act" "act" zaf f fd):FnOk P w K mg base (CXr P w) 4 f fd ["work","state","number"] (zec a):=by
 refine F.okx zg6 ?_ ?_
 ·walk_at "i"
 walk_at "j";refine oE7 h λ vw y n st kn bs rs z1_=>oA9 z1_ λ z2_ hw so wf wok bo ro hk k=>?_;clear h;subst z2_;refine oE7 (qr hw) λ yw dw fw l1 l2 bvs kvs z1_=>oA9 z1_ λ z2_ hyw ew1 ew2 hl1 hl2 hB hK no=>?_;subst z2_;obtain ⟨r,hr'⟩:∃ r,rs[kn]?=some r:=⟨rs[kn],ac hk⟩;have ok:=ro r (af hr');have rl:=vo ok;obtain ⟨kv,hkv,hKn⟩:=Vx hK hr';refine oE6 hKn.inv λ y1 dx1 m1 m2 m3 fs1 z1_=>oA9 z1_ λ z2_ _ _ _ _ g0 f1 f2 z3_=>oA5 z3_ λ _ g1 g2 _ _=>?_;subst z2_;have fno:=hKn.no (f:="choice") g0 (by decide +kernel) (by decide +kernel) (by decide +kernel) (by decide +kernel) (by decide +kernel);have hsd:=wf.so.2 kn r _ hr' (jf (d:=0) (by rw [wf.so.1];exact hk));obtain ⟨side,esd⟩:∃ sd:Nat,st.sides.getD kn 0=sd:=⟨(st.sides.getD kn 0).toNat,(dB hsd.1).symm⟩;have hside:st.sides[kn]?=some (side:Int):=by rw [<- esd];exact jf (by rw [wf.so.1];exact hk)
 have hsd':Zl r (side:Int):=by rw [<- esd];exact hsd
 have esd':(st.sides.getD kn 0).toNat=side:=by rw [esd];rfl
 refine oA4 (sff_l (t:=st.turn) (lc:=n.lc) (ls:=n.ls) (lg:=n.lg)) λ lk1 lk2 lk3 lk4=>?_;have hAct:∀ x,zO r (z8 rs st.cells r) (qB st.cells r) st.turn side=x->qO rs st kn=match x with|none=>(st,none)|some ch=>((zaN r st kn ch).1,some (zaN r st kn ch).2):=λ x e=>by
  unfold qO;rw [hr'];simp only;rw [esd',e]
  all_goals (cases x <;> rfl)
 walk_at "T";refine ⟨_,(zh (zx 3 zg6.nd (zr (zl (pq 0) rfl) (pq 2)))  (zh (QN (i:=4) zg6.nd rfl (Or.inl rfl) (vars:=["belt"]) (caps:=[1]) (N:=["belt","state"]) (ON:=["work","state","number","knot","free","chosen","from_belt","to_belt","ware"]) (osc:=zf zaf) rfl rfl (by first|decide +kernel|kernel_rfl) rfl rfl (qd (zl (pq 3) rfl)) (λ s H fp pins=>(qk 0 (show (["belt","state"]:List Str).Nodup from by decide +kernel))) (λ s H fp pins=>qf) (λ s H fp pins=>(jz op_isN (zr (zr (zl (pq 1) rfl) (pq 0)) zd) zv (zq _))))  (zh (zx 5 zg6.nd (Vl ⟨rfl,rfl,rfl⟩ hr (pq 3) (za (zt ⟨rfl,rfl,rfl⟩ hr (za (pq 0) (za (pq 1) (za (pq 3) zc)))) (za (pq 4) (za (zl (pq 1) rfl) (za (zr (zl (pq 1) rfl) (pq 2)) zc))))))  (zh (zD (zo qL (pq 5) zv (zq _))  (ze (zj zv))  zp)  (zh (zx 6 zg6.nd (zt ⟨rfl,rfl,rfl⟩ hr (za (zl (pq 3) rfl) (za (zr (pq 5) zd) zc))))  (zh (zx 7 zg6.nd (zt ⟨rfl,rfl,rfl⟩ hr (za (zl (pq 3) rfl) (za (zr (pq 5) zd) zc))))  (zh (zx 8 zg6.nd (zt ⟨rfl,rfl,rfl⟩ hr (za (pq 1) (za (pq 2) (za (pq 6) zc)))))  (qJ (zD (zo wP (pq 7) zv (zq _))  (ze (Zq (pq 8) (Xc (zr (zl (pq 1) rfl) (pq 7)) zd x8)))  zp)  (zh (Zq (zr (pq 5) zd) (Xc (zl (pq 1) rfl) (pq 2) x8))  (zh (zfW (zr (zl (pq 1) rfl) (pq 2)) (zt ⟨rfl,rfl,rfl⟩ hr (za (pq 3) (za (pq 5) zc))) ze2 zd zhE x8)  (ze (zj (qS (za (pq 2) (za (pq 8) (za (pq 6) (za (pq 7) zc))))))))))))))))),?_⟩;walk_at "go";refine ra hyw T.fK T.fJ ew2 (zn (SqL.of hl2) (zy hkv) ?_);walk_at "go";walk_at "lc";walk_at "go";refine ra g0 (CT T _) (NO T _) f2 ⟨m2,rfl,.inl ⟨⟨_,SqL.of g2⟩,λ _ _ _ _ acc hacc=>?_⟩⟩;refine qE (K:=K) (a:=m2) (xs:=iv r.outs) (λ i σ H'=>∃ (v0:Option V),σ=[v0,some (.ref y)]/\Same H H'/\H' acc=some (.lst (((qB st.cells r).take i).map V.bl))) ⟨_,iA3 rfl (zg hacc) (by rw [cu];exact upd_same)⟩ (λ i σ H' _ h=>by obtain ⟨_,_,s,_⟩:=h;exact SqL.of (s _ _ g2)) ?_ ?_
 ·intro i x σ H2 hi zz_;refine oE1 zz_ λ v0 z1_=>oA3 z1_ λ z2_ s2 ha=>?_;clear zz_;subst z2_;obtain ⟨b,hb,rfl⟩:=ZY hi;have hil:=(aa.mp hb).1;refine oE1 (wW wf.co bo (Xe wok hr' (af hb))) λ j z1_=>oA5 z1_ λ z2_ hj ej nej _=>?_;subst z2_;refine oE2 (so.cell ej) λ bC vs z1_=>oA3 z1_ λ hbC hvC rvC=>?_;obtain ⟨c0,cs,ec⟩:∃ c0 cs,zE st.cells j=c0 :: cs:=cO nej;have hfr:(qB st.cells r)[i]?=some (decide (c0=none)):=by rw [qB,aj,hb];simp [ec,zb5]
  rw [ec] at rvC;obtain ⟨v1,hv1,rv1⟩:=rvC.of (i:=0) (d:=qc c0) rfl;walk_at "go";refine ra (s2 _ _ so.hy) T.fH T.fI lk1 (zn (SqL.of (s2 _ _ so.hc.out)) (zy (Z6 hbC)) (zn (SqL.of (s2 _ _ hvC)) (zy (j:=0) hv1) ?_));walk_at "go";have ev:decide (v1=V.non)=decide (c0=none):=by
   cases c0 with
   | none=>cases rv1;rfl
   | some x=>obtain ⟨t,us,rfl,_⟩:=Rep.tup' rv1;rfl
  rw [ev];refine ⟨_,iA3 ha (zm (by rw [ai,aT];omega)) ⟨_,iA3 rfl (λ b o hb=>by rw [upd_ne (ne_of_none hb hacc)];exact s2 b o hb) ?_⟩⟩;rw [upd_same,aR,hfr,a7]
  rfl
 intro σ H2 zz_;refine oE1 zz_ λ v0 z1_=>oA3 z1_ λ z2_ s2 ha=>?_;clear zz_;subst z2_;rw [zF,da (by simp [qB])] at ha;walk_at "go";refine iE7 y1 (wt a r.wd) dx1 fs1 _ _ _ (iA5 rfl (s2 _ _ g0) fno ((zeJ T r.wd).mono) ?_);refine uc (zb3 T).mono (zdr _ _ _ bs rs st kn r _ _ rfl (qY hw s2) ((so.same s2).rep) (qY hKn s2) hr' wok bo ro wf.co (λ hl H3 s3 nhl hhl=>?_));have s23:=s2.trans s3;refine ra (s23 _ _ so.hy) T.fH T.fP lk4 ?_;refine ra (s23 _ _ so.hy) T.fH T.fW lk2 (zn (SqL.of (s23 _ _ so.hs)) (zy (qM hside)) ?_);refine iE5 y1 hl acc r _ (iE4 (z8 rs st.cells r) (qB st.cells r) st.turn side (iA9 rfl (qY hKn s23) rfl ok hhl (s3 _ _ ha) (by simp [z8]) (by simp [qB]) (λ vc H4 s4 tc=>?_)));have s24:=s23.trans s4;have so4:=so.same s24;have hKn4:=qY hKn s24;walk_at "go";cases hc:zO r (z8 rs st.cells r) (qB st.cells r) st.turn side with
 | none =>
  rw [hc] at tc;have tc:vc=.non:=tc;subst tc;have e:=hAct _ hc;refine zI (λ _=>?_) (λ b=>absurd rfl b);walk_at "go";refine k _ _ s24.fr ?_ ?_
  ·rw [e];exact so4
  ·rw [e];exact .non
 | some ch =>
  rw [hc] at tc;obtain ⟨ct,rfl,hct⟩:=tc;have e:=hAct _ hc;refine oA6 (QF ok (by simp [z8]) (by simp [qB]) hsd' hc) λ c1 c2 c3 c4 c5 c6=>?_;have hfb:∀ b,xj r ch=some b->b∈rgI bs.length:=λ b hb=>by
   unfold xj at hb;obtain ⟨j,hj1,hj2⟩:=cB.mp hb;exact Jp wok hr' (af hj2)
  have htb:∀ b,Z9 r ch=some b->b∈rgI bs.length:=λ b hb=>by
   unfold Z9 at hb;obtain ⟨j,hj1,hj2⟩:=cB.mp hb;exact Xe wok hr' (af hj2)
  have hfn:xj r ch=none->r.wd=.source:=λ hb=>by
   cases e:ch.1 with
   | none=>exact c4 e
   | some j =>
    unfold xj at hb;rw [e] at hb;simp at hb;have:=c1 j e;omega
  obtain ⟨w1,w2⟩:=VU wf wok bo ro hr' hfb hfn;have w3:=zas w1 bo htb w2;have hg0:=jf (xs:=st.gone) (k:=kn) (d:=[]) (by rw [wf.go.1];exact hk);obtain ⟨q1,q2⟩:=wf.go.2 kn r _ hr' hg0;have cp:=Z1 ok;obtain ⟨g0',gs,eg⟩:∃ g0 gs,st.gone.getD kn []=g0 :: gs:=cO λ z=>by rw [z] at q1;simp at q1;omega
  rw [eg] at hg0;refine zI (λ b=>by cases b) (λ _=>?_);walk_at "go";refine uc (WF T).mono (ra (s24 _ _ g0) (CT T _) (NI T _) f1 (rd_ixT hct at0 ?_));refine iE3 m1 r.ins ch.1 (iA4 rfl (s24 _ _ g1) c1 ?_);walk_at "go";refine uc (WF T).mono (ra (s24 _ _ g0) (CT T _) (NO T _) f2 (rd_ixT hct (show atI (chV ch) 1=some (vX ch.2.1) from rfl) ?_));refine iE3 m2 r.outs ch.2.1 (iA4 rfl (s24 _ _ g2) c2 ?_);walk_at "go";refine uc (VI T).mono (zdq y n st kn (xj r ch) g0' gs rfl so4 hg0 (λ b hb=>?_) (λ v5 H5 f5 so5 rv5=>?_))
  ·refine oE1 (wW wf.co bo (hfb b hb)) λ i z1_=>oA5 z1_ λ e1 _ e2 e3 _=>?_;exact ⟨i,iA3 e1 e2 e3⟩
  have hct5:=f5 _ _ (so4.offT ⟨_,hct⟩) hct;have hKn5:=hKn4.fr f5;have fr5:=(s24.fr (ms:=y :: n.all)).trans f5;rw [show (ch.1.bind λ j=>r.ins[j]?)=xj r ch from rfl,show (ch.2.1.bind λ j=>r.outs[j]?)=Z9 r ch from rfl];walk_at "go";refine cut (λ σ' H'=>σ'=[some (.ref yw),some (.ref y),some (.int kn),some (.ref y1),some (.ref acc),some (.ref ct),some (hdV (xj r ch)),some (hdV (Z9 r ch)),some v5]/\Fr (y :: n.all) H5 H'/\StO a H' y n (movedF r st kn ch)) ?_ ?_
  ·have w4:=λ b (hb:Z9 r ch=some b)=>wW w1.co bo (htb b hb);unfold movedF;generalize Z9 r ch=tb at w4 ⊢;walk_at "go";cases tb with
   | none =>
    refine zI (λ b=>absurd rfl b) (λ _=>?_);walk_at "go";exact ⟨.refl,so5⟩
   | some b =>
    refine oE1 (w4 b rfl) λ i z1_=>oA5 z1_ λ z2_ _ e2 e3 _=>?_;subst z2_;refine oE2 (so5.cell e2) λ bC vs z1_=>oA3 z1_ λ hbC hvC rvC=>?_;have lv:vs.length=(zE (qF st kn (xj r ch)).2.cells i).length:=by rw [rvC.len,ai]
    have lp:0 < vs.length:=by rw [lv];exact dA.mpr e3
    refine zI (λ _=>?_) (λ b=>absurd (λ z=>by cases z) b);walk_at "go";refine ra so5.hy T.fH T.fI sff_l.1 (zn (SqL.of so5.hc.out) (zy (Z6 hbC)) ?_);walk_at "go";refine vO (j:=0) hvC (Xt (by decide) (by simpa using lp)) ?_;refine ⟨jH (VP hbC),?_⟩;have:=so5.putC hbC (c':=(zE (qF st kn (xj r ch)).2.cells i).set 0 (qF st kn (xj r ch)).1) (by rw [eH];exact Reps.set rvC 0 rv5);simpa [Qt] using this
  rintro σ H6 ⟨rfl,f6,so6⟩;have hct6:=f6 _ _ (so5.offT ⟨_,hct5⟩) hct5;have hKn6:=hKn5.fr f6;have rv6:=so5.repT f6 rv5;have fr6:=fr5.trans f6;walk_at "go";refine rd_ixT hct6 (show atI (chV ch) 2=some (.int ch.2.2) from rfl) ?_;walk_at "go";refine ra so6.hy T.fH T.fW sff_l.2.1 (vO so6.hs (Xt (bX _) (by rw [zF,show (movedF r st kn ch).sides.length=rs.length from w3.so.1];exact Int.ofNat_lt.mpr hk)) ?_);rw [aK,zeS];have so7:=so6.putS (s':=(movedF r st kn ch).sides.set kn ch.2.2);have f7:Fr (y :: n.all) H6 (upd H6 n.ls (.lst (iv ((movedF r st kn ch).sides.set kn ch.2.2)))):=jH (by simp [SN.all]);have hct7:=f7 _ _ (so6.offT ⟨_,hct6⟩) hct6;have hKn7:=hKn6.fr f7;have rv7:=so6.repT f7 rv6;have fr7:=fr6.trans f7;generalize upd H6 n.ls (.lst (iv ((movedF r st kn ch).sides.set kn ch.2.2)))=H7 at so7 hct7 hKn7 rv7 fr7 ⊢;have hg7:=jf (xs:=(movedF r st kn ch).gone) (k:=kn) (d:=[]) (by rw [show (movedF r st kn ch).gone.length=rs.length from w3.go.1];exact hk);obtain ⟨p1,p2⟩:=w3.go.2 kn r _ hr' hg7;obtain ⟨bG,hbG,hgG⟩:=so7.goneL hg7;have e0:zaN r st kn ch=({ movedF r st kn ch with sides:=(movedF r st kn ch).sides.set kn ch.2.2,gone:=(movedF r st kn ch).gone.set kn (Wc ((movedF r st kn ch).gone.getD kn []) (xz r ch)) },⟨kn,(qF st kn (xj r ch)).1,xj r ch,Z9 r ch⟩):=rfl;have so8:=so7.putG (g':=Wc ((movedF r st kn ch).gone.getD kn []) (xz r ch)) hbG;generalize (movedF r st kn ch).gone.getD kn []=g at *;have hcp:xz r ch < g.length:=by rw [p1];exact c6
  walk_at "go";unfold zgG;walk_at "go";refine ra so7.hy T.fH T.fQ sff_l.2.2.1 (zn (SqL.of so7.hg.out) (zy (zcI hbG)) ?_);walk_at "go";refine uc (Je T).mono (zaJ _ ct r ch _ rfl hKn7 hct7 c3 ?_);refine iE4 bG _ (xz r ch) _ (iA6 rfl rfl (SqL.of hgG) (bX _) (zy (qM (jf (d:=0) hcp))) ?_);walk_at "go";refine vO hgG (Xt (bX _) (by rw [zF];exact Int.ofNat_lt.mpr hcp)) ?_;rw [aK,zeS];have f8:Fr (y :: n.all) H7 (upd H7 bG (.lst (iv (g.set (xz r ch) (g.getD (xz r ch) 0 + 1))))):=jH (zgz hbG);have rv8:=so7.repT f8 rv7;change StO a (upd H7 bG (.lst (iv (g.set (xz r ch) (g.getD (xz r ch) 0 + 1))))) y n _ at so8;have fr8:=fr7.trans f8;generalize e8:upd H7 bG (.lst (iv (g.set (xz r ch) (g.getD (xz r ch) 0 + 1))))=H8 at so8 f8 rv8 fr8 ⊢;walk_at "go";intro t ht;refine k _ _ (fr8.trans (zbS ht)) ?_ ?_
  ·rw [e];simp only;rw [e0];exact so8.same (zg ht)
  ·rw [e];simp only;rw [e0];exact Reps.mkT (vs:=[.int kn,v5,hdV (xj r ch),hdV (Z9 r ch)]) (.cons .int (.cons (zc4 rv8 (zg ht)) (.cons (zcf _) (.cons (zcf _) .nil)))) ⟨_,upd_same⟩ upd_same
def zio (T:Txt K mg a):Cal P w K mg base "act" 4 ["work","state","number"] [] (zec a):=T.mD.cal (zhm T)
noncomputable def zw (rs:List Row) (st:PSt):Nat->PSt × List Move
 | 0=>(st,[])
 | i + 1=>((qO rs (zw rs st i).1 i).1,(zw rs st i).2 ++ (qO rs (zw rs st i).1 i).2.toList)
theorem wx {bs:List (Int × Int)} {rs:List Row} {st:PSt} (wf:stWf bs rs st) (wok:zH bs rs) (bo:∀ b∈bs,zu b.1 b.2) (ro:∀ r∈rs,r.ok):∀ i,stWf bs rs (zw rs st i).1
 | 0=>wf
 | i + 1=>zgA (wx wf wok bo ro i) wok bo ro
theorem XH (rs:List Row) (st:PSt):∀ i,(zw rs st i).2.length<=i
 | 0=>ar _
 | i + 1=>by
  have:=XH rs st i;show ((zw rs st i).2 ++ (qO rs (zw rs st i).1 i).2.toList).length<=i + 1
  rw [aP];cases (qO rs (zw rs st i).1 i).2 with
  | none=>exact Nat.le_succ_of_le this
  | some _=>exact Nat.succ_le_succ this
section
variable {H H':Hp} {y:Addr} {n:SN} {st:PSt}
def StO.offN (h:StO a H y n st) {b:Addr} (e:H b=none):b ∉ y :: n.all:=by
 have no:∀ o,H b≠some o:=λ o z=>by rw [e] at z;cases z
 intro hb;unfold SN.all at hb;rcases ax.mp hb with rfl|hb
 ·exact no _ h.hy
 rcases ax.mp hb with rfl|hb
 ·exact no _ h.hs
 rcases ax.mp hb with rfl|hb
 ·exact no _ h.hc.out
 rcases ax.mp hb with rfl|hb
 ·exact no _ h.hg.out
 rcases aD.mp hb with hb|hb
 ·obtain ⟨us,z⟩:=h.hc.isl (aG _ hb);exact no _ z
 ·obtain ⟨us,z⟩:=h.hg.isl (aG _ hb);exact no _ z
def StO.out {M:Addr} {us vs:List V} (h:StO a H y n st) (e:H M=some (.lst us)) (nM:M ∉ y :: n.all):StO a (upd H M (.lst vs)) y n st:=by
 have k:∀ c o,c≠M->H c=some o->upd H M (.lst vs) c=some o:=λ c o nc hc=>by rw [upd_ne nc];exact hc
 have kt:∀ c,zT H c->c≠M:=λ c ⟨xs,hx⟩ z=>by rw [z,e] at hx;cases hx
 refine ⟨k _ _ (λ z=>nM (by rw [<- z];simp)) h.hy,h.hc.tup λ c o hz hc=>k c o (λ z=>?_) hc,k _ _ (λ z=>nM (by rw [<- z];simp [SN.all])) h.hs,h.hg.tup λ c o hz hc=>k c o (λ z=>?_) hc,h.nd⟩
 ·rcases hz with rfl|hz|hz
  ·exact nM (by rw [<- z];simp [SN.all])
  ·exact nM (by rw [<- z];simp [SN.all,hz])
  ·exact kt c hz z
 ·rcases hz with rfl|hz|hz
  ·exact nM (by rw [<- z];simp [SN.all])
  ·exact nM (by rw [<- z];simp [SN.all,hz])
  ·exact kt c hz z
def StO.repsT (h:StO a H y n st) (s:Fr (y :: n.all) H H') {vs:List V} {ds:List D} (r:Reps H (zT H) vs ds):Reps H' (zT H') vs ds :=
 ⟨r.len,λ i v d h1 h2=>h.repT s (r.g i v d h1 h2)⟩
def zaj {M:Addr} {us vs:List V} (e:H M=some (.lst us)) {v:V} {d:D} (r:Rep H (zT H) v d):Rep (upd H M (.lst vs)) (zT (upd H M (.lst vs))) v d :=
 Rep.keep (λ b o hp hb=>⟨Jg e hp,by obtain ⟨xs,hx⟩:=hp;rw [upd_ne (λ z=>by rw [z,e] at hx;cases hx)];exact hb⟩) r
def zc3 {M:Addr} {us vs:List V} (e:H M=some (.lst us)) {ws:List V} {ds:List D} (r:Reps H (zT H) ws ds):Reps (upd H M (.lst vs)) (zT (upd H M (.lst vs))) ws ds :=
 ⟨r.len,λ i v d h1 h2=>zaj e (r.g i v d h1 h2)⟩
end
def V8 (a:Ad):Sp:=λ vs H Q _=>∃ (vw:V) (y:Addr) (n:SN) (st:PSt) (bs:List (Int × Int)) (rs:List Row),vs=[vw,.ref y]/\Rep H (Off (y :: n.all)) vw (zX a bs rs)/\StO a H y n st/\stWf bs rs st/\zH bs rs/\(∀ b∈bs,zu b.1 b.2)/\(∀ r∈rs,r.ok) /\
 ∀ l us H',Fr (y :: n.all) H H'->StO a H' y n (zw rs st rs.length).1->H l=none->l ∉ y :: n.all->H' l=some (.lst us)->Reps H' (zT H') us ((zw rs st rs.length).2.map XB)->Q (.ref l) H'
def zbP {a:Ad} {vs:List V} {H:Hp} {Q:VK} {E:XK} (vw:V) (y:Addr) (n:SN) (st:PSt) (bs:List (Int × Int)) (rs:List Row) (q0:vs=[vw,.ref y]) (q1:Rep H (Off (y :: n.all)) vw (zX a bs rs)) (q2:StO a H y n st) (q3:stWf bs rs st) (q4:zH bs rs) (q5:(∀ b∈bs,zu b.1 b.2)) (q6:(∀ r∈rs,r.ok)) (q7:∀ l us H',Fr (y :: n.all) H H'->StO a H' y n (zw rs st rs.length).1->H l=none->l ∉ y :: n.all->H' l=some (.lst us)->Reps H' (zT H') us ((zw rs st rs.length).2.map XB)->Q (.ref l) H'):V8 a vs H Q E:=⟨vw,y,n,st,bs,rs,q0,q1,q2,q3,q4,q5,q6,q7⟩
theorem zdH (T:Txt K mg a):Cal P w K mg base "act_all" 5 ["work","state"] [] (V8 a):=T.lH.cal λ F=>by
 refine F.okx zbh ?_ ?_
 ·walk_at "i"
 walk_at "j";refine oE6 h λ vw y n st bs rs z1_=>oA8 z1_ λ z2_ hw so wf wok bo ro k=>?_;clear h;subst z2_;refine oE7 (qr hw) λ yw dw fw l1 l2 bvs kvs z1_=>oA9 z1_ λ z2_ hyw ew1 ew2 hl1 hl2 hB hK no=>?_;subst z2_;have lk:kvs.length=rs.length:=hK.len;have r24:=wok.1.2.2;walk_at "T";refine ⟨_,(zi (zx 2 zbh.nd (zC zc))  (qJ (qK ji rfl (wN (za (zJ zS zQ (za (zl (pq 0) rfl) zc)) zc)) (qk 3 zbh.nd)  (zi (zx 4 zbh.nd (zt ⟨rfl,rfl,rfl⟩ hr (za (pq 0) (za (pq 1) (za (pq 3) zc)))))  (ze (zD (zo wP (pq 4) zv (zq _))  (ze (zA (qQ ap aC aB zU (pq 2) (za (pq 4) zc))))  zp))))  (ze (zj (pq 2))))),?_⟩;walk_at "go";intro M hM;have nM:=so.offN hM;have s1:=zg (o:=.lst []) hM;have hM1:upd H M (.lst []) M=some (.lst []):=upd_same;generalize upd H M (.lst [])=H1 at s1 hM1 ⊢;walk_at "go";refine cut (λ σ' H'=>∃ (v3 v4:Option V) (us:List V),σ'=[some (.ref yw),some (.ref y),some (.ref M),v3,v4]/\Fr (y :: n.all) H H'/\StO a H' y n (zw rs st rs.length).1/\H' M=some (.lst us)/\Reps H' (zT H') us ((zw rs st rs.length).2.map XB)) ?_ ?_
 ·walk_at "for";walk_at "go";refine ra (s1 _ _ hyw) T.fK T.fJ ew2 ?_;refine ⟨_,.inl ⟨_,SqL.of (s1 _ _ hl2),rfl⟩,?_⟩;rw [lk];walk_at "go";refine ⟨by omega,by omega,?_⟩;refine Zd (n:=(rs.length:Int).toNat) (λ i σ H'=>∃ (v3 v4:Option V) (us:List V),σ=[some (.ref yw),some (.ref y),some (.ref M),v3,v4]/\Fr (y :: n.all) H H'/\StO a H' y n (zw rs st i).1/\H' M=some (.lst us)/\Reps H' (zT H') us ((zw rs st i).2.map XB)) (iE3 _ _ _ (iA5 rfl s1.fr (so.same s1) hM1 (.nil))) ?_ (λ σ H' h=>?_)
  ·intro i σ H2 hi zz_;refine oE3 zz_ λ v3 v4 us z1_=>oA5 z1_ λ z2_ f2 so2 hM2 r2=>?_;clear zz_;subst z2_;have hi:i < rs.length:=by simpa using hi
   have al:=XH rs st i;have lu:us.length=(zw rs st i).2.length:=by rw [r2.len,ai]
   walk_at "go";simp only [dc];refine uc (zio T).mono (zgh (.ref yw) y n _ i bs rs rfl (hw.fr f2) so2 (wx wf wok bo ro i) wok bo ro hi (λ v H3 f3 so3 rv=>?_));have f23:=f2.trans f3;have hM3:=f3 _ _ nM hM2;have r3:=so2.repsT f3 r2;have eA:zw rs st (i + 1)=((qO rs (zw rs st i).1 i).1,(zw rs st i).2 ++ (qO rs (zw rs st i).1 i).2.toList):=rfl;walk_at "go";cases e:(qO rs (zw rs st i).1 i).2 with
   | none =>
    rw [e] at rv eA;cases rv;refine zI (λ b=>absurd rfl b) (λ _=>?_);rw [eA];exact iE3 _ _ _ (iA5 rfl f23 so3 hM3 (by rw [show (none:Option Move).toList=[] from rfl,cn];exact r3))
   | some m =>
    rw [e] at rv eA;refine zI (λ _=>?_) (λ b=>?_)
    ·walk_at "go";refine ⟨.inl ⟨rfl,_,SqL.of hM3⟩,iE3 M _ _ (iA5 rfl rfl hM3 (zm (by omega)) (iE3 _ _ _ (iA5 rfl (λ b o nb hb=>by rw [upd_ne (ne_of_none hb hM)];exact f23 b o nb hb) ?_ upd_same ?_)))⟩
     ·rw [eA];exact so3.out hM3 nM
     ·rw [eA];show Reps _ _ _ (List.map XB ((zw rs st i).2 ++ [m]))
      rw [a7];exact (zc3 hM3 r3).append (Reps.one (zaj hM3 rv))
    ·exfalso;refine b λ z=>?_;subst z;cases rv
  ·have e:((rs.length:Int)).toNat=rs.length:=by simp
   rw [e] at h;exact h
 intro σ' H2 zz_;refine oE3 zz_ λ v3 v4 us z1_=>oA5 z1_ λ z2_ f2 so2 hM2 r2=>?_;clear zz_;subst z2_;walk_at "go";exact k _ _ _ f2 so2 hM nM hM2 r2
noncomputable def jG (c:List zG) (p:Nat):List zG:=if c.getD (p + 1) none=none then (c.set (p + 1) (c.getD p none)).set p none else c
noncomputable def xW (c:List zG):Nat->List zG
 | 0=>c
 | k + 1=>jG (xW c k) (c.length - 2 - k)
noncomputable def ZS (c:List zG):List zG:=xW c (c.length - 1)
def zbD {c:List zG} {p:Nat}:(jG c p).length=c.length:=by
 unfold jG
 split <;> simp
theorem vA {c:List zG}:∀ k,(xW c k).length=c.length
 | 0=>rfl
 | k + 1=>by rw [xW,zbD,vA k]
theorem zbC {c:List zG} {p:Nat} {x:zG} (h:x∈jG c p):x∈c\/x=none:=by
 unfold jG at h
 split at h
 ·rcases vB h with h|h
  ·rcases vB h with h|h
   ·exact .inl h
   ·rw [ae] at h;cases e:c[p]? with
    | none=>rw [e] at h;exact .inr h
    | some y=>rw [e] at h;exact .inl (by rw [h];exact af e)
  ·exact .inr h
 ·exact .inl h
theorem zay {c:List zG} {x:zG}:∀ k,x∈xW c k->x∈c\/x=none
 | 0=>λ h=>.inl h
 | k + 1=>λ h=>by
  rcases zbC h with h|h
  ·exact zay k h
  ·exact .inr h
def zdX {H:Hp} {b:Addr} {o:HO} (h:H b=some o):upd H b o=H:=by
 funext x
 by_cases e:x=b
 ·rw [e,upd_same,h]
 ·rw [upd_ne e]
theorem VR {H:Hp} {p:Addr->Prop} {v:V} {x:zG} (r:Rep H p v (qc x)):v=.non ↔ x=none:=by
 cases x with
 | none=>cases r;simp
 | some x=>obtain ⟨t,us,rfl,_⟩:=Rep.tup' r;simp
def atD {xs:List zG} {p:Nat} (h:p < xs.length):xs[p]?=some (xs.getD p none):=jf h
def za8:Sp:=λ vs H Q _=>∃ (b:Addr) (us:List V) (c:List zG),vs=[.ref b]/\H b=some (.lst us)/\Reps H (zT H) us (c.map qc)/\c.length<=100/\∀ us',Reps H (zT H) us' ((ZS c).map qc)->Q .non (upd H b (.lst us'))
def zaU (T:Txt K mg a):Cal P w K mg base "move_belt" 1 ["cells"] [] za8:=T.kK.cal λ F=>by
 refine F.okx WY ?_ ?_
 ·walk_at "i"
 walk_at "j";obtain ⟨b,us,c,rfl,hb,rb,lc,k⟩:=h;have lu:us.length=c.length:=by rw [rb.len,ai]
 walk_at "T";refine ⟨_,(ze (qK ji rfl (zhe (za (zR Vm (zJ zS zQ (za (pq 0) zc)) zd) (za (vt xl zd) (za (vt xl zd) zc)))) (qk 1 WY.nd)  (ze (zD (zo qL (zr (pq 0) (zR qq (pq 1) zd)) zv (zq _))  (zi (Zq (zr (pq 0) (pq 1)) (Xc (pq 0) (zR qq (pq 1) zd) x8))  (ze (Zq zv (Xc (pq 0) (pq 1) x8))))  zp)))),?_⟩;walk_at "go";walk_at "for";walk_at "go";refine ⟨_,.inl ⟨_,SqL.of hb,rfl⟩,?_⟩;rw [lu];walk_at "go";refine ⟨_,_,rfl,⟨by omega,by omega,by omega,by omega⟩,?_⟩;rw [show ((c.length:Int) - 2 - -1).toNat=c.length - 1 by omega];refine zih (K:=K) (λ i σ H'=>∃ (v1:Option V) (us':List V),σ=[some (.ref b),v1]/\H'=upd H b (.lst us')/\Reps H (zT H) us' ((xW c i).map qc)) ⟨_,us,rfl,(zdX hb).symm,rb⟩ ?_ ?_
 ·rintro i σ H' hi ⟨v1,us',rfl,rfl,r1⟩;have lm:=vA (c:=c) i;have l1:us'.length=c.length:=by rw [r1.len,ai,lm]
  obtain ⟨p,hp⟩:∃ p,c.length - 2 - i=p:=⟨_,rfl⟩;have ep:(c.length:Int) - 2 - i=p:=by omega
  have hp1:p + 1 < c.length:=by omega
  rw [ep];have eS:xW c (i + 1)=jG (xW c i) p:=by rw [xW,hp]
  rw [eS];generalize xW c i=m at r1 lm ⊢;have m0:m[p]?=some (m.getD p none):=atD (by omega);have m1:m[p + 1]?=some (m.getD (p + 1) none):=atD (by omega);obtain ⟨u0,hu0,ru0⟩:=r1.of (i:=p) (d:=qc (m.getD p none)) (by rw [aj,m0];rfl);obtain ⟨u1,hu1,ru1⟩:=r1.of (i:=p + 1) (d:=qc (m.getD (p + 1) none)) (by rw [aj,m1];rfl);have e1:((p:Int) + 1)=((p + 1:Nat):Int):=by omega
  walk_at "go";rw [e1];refine zn (SqL.of upd_same) (zy hu1) ?_;walk_at "go";refine zI (λ z=>?_) (λ z=>?_)
  ·have z:=(VR ru1).mp z;walk_at "go";refine zn (SqL.of upd_same) (zy hu0) ?_;walk_at "go";refine vO upd_same (Xt (by omega) (by omega)) ?_;walk_at "go";refine vO upd_same (Xt (by omega) (by simp;omega)) ?_;rw [ZH,ZH];refine ⟨_,_,rfl,rfl,?_⟩;unfold jG;rw [aq z,eH,eH,aK,aK];exact Reps.set (Reps.set r1 _ ru0) _ .non
  ·have z:m.getD (p + 1) none≠none:=λ y=>z ((VR ru1).mpr y);walk_at "go";refine ⟨_,us',rfl,rfl,?_⟩;unfold jG;rw [am z];exact r1
 ·rintro σ H' ⟨v1,us',rfl,rfl,r1⟩;exact k _ r1
noncomputable def z9 (bs:List (Int × Int)) (t:Int) (cs:List (List zG)):Nat->List (List zG)
 | 0=>cs
 | i + 1=>if t % (bs.getD i (0,1)).2=0 then (z9 bs t cs i).set i (ZS ((z9 bs t cs i).getD i [])) else z9 bs t cs i
theorem ZE {bs:List (Int × Int)} {rs:List Row} {t:Int} {cs:List (List zG)} (h:jN bs rs cs):∀ i,jN bs rs (z9 bs t cs i)
 | 0=>h
 | i + 1=>by
  have ih:=ZE h i (t:=t);rw [z9]
  split
  ·generalize z9 bs t cs i=ds at ih ⊢;cases e:ds[i]? with
   | none=>rw [cV (cW.mp e)];exact ih
   | some c =>
    have ec:ds.getD i []=c:=by rw [ae,e];rfl
    rw [ec];have hi:i < bs.length:=by rw [<- ih.1];exact (aa.mp e).1
    refine QG ih e (vA _) λ x hx=>?_;rcases zay _ hx with hx|hx
    ·exact (ih.2 i _ c (ac hi) e).2 x hx
    ·rw [hx];exact Z7
  ·exact ih
noncomputable def passF (bs:List (Int × Int)) (rs:List Row) (st:PSt):PSt × List Move:=({ (zw rs st rs.length).1 with turn:=(zw rs st rs.length).1.turn + 1,cells:=z9 bs (zw rs st rs.length).1.turn (zw rs st rs.length).1.cells bs.length },(zw rs st rs.length).2)
def zex {bs:List (Int × Int)} {rs:List Row} {st:PSt} (wf:stWf bs rs st) (wok:zH bs rs) (bo:∀ b∈bs,zu b.1 b.2) (ro:∀ r∈rs,r.ok):stWf bs rs (passF bs rs st).1:=by
 have w:=wx wf wok bo ro rs.length;exact ⟨ZE w.co _,w.so,w.go⟩
def StO.ney {H:Hp} {y:Addr} {n:SN} {st:PSt} (h:StO a H y n st):y ∉ n.all:=λ z=>by
 have hy:=h.hy;have c:∀ vs,H y≠some (.lst vs):=λ vs z=>by rw [hy] at z;cases z
 simp only [SN.all,ax,aD] at z;rcases z with z|z|z|z|z
 ·exact c _ (by rw [z];exact h.hs)
 ·exact c _ (by rw [z];exact h.hc.out)
 ·exact c _ (by rw [z];exact h.hg.out)
 ·obtain ⟨vs,hv⟩:=h.hc.isl (aG _ z);exact c _ hv
 ·obtain ⟨vs,hv⟩:=h.hg.isl (aG _ z);exact c _ hv
def StO.putT {H:Hp} {y:Addr} {n:SN} {st:PSt} {t:Int} (h:StO a H y n st):StO a (upd H y (.ins a.p n.dx (sff t n.lc n.ls n.lg))) y n { st with turn:=t }:=by
 have ny:=h.ney;have tn:∀ b,zT H b->b≠y:=λ b ⟨xs,hx⟩ z=>by rw [z,h.hy] at hx;cases hx
 simp only [SN.all,ax,aD,not_or] at ny;obtain ⟨n1,n2,n3,n4,n5⟩:=ny;refine ⟨upd_same,h.hc.tup λ b o c hb=>?_,?_,h.hg.tup λ b o c hb=>?_,h.nd⟩
 ·rw [upd_ne ?_]
  ·exact hb
  ·rcases c with rfl|c|c
   ·exact aZ n2
   ·exact λ z=>n4 (by rw [<- z];exact c)
   ·exact tn b c
 ·rw [upd_ne (aZ n1)];exact h.hs
 ·rw [upd_ne ?_]
  ·exact hb
  ·rcases c with rfl|c|c
   ·exact aZ n3
   ·exact λ z=>n5 (by rw [<- z];exact c)
   ·exact tn b c
def zaZ {H:Hp} {p:Addr->Prop} {v:V} {bs:List (Int × Int)} {rs:List Row} (h:Rep H p v (zX a bs rs)):∃ y dx fs l1 bvs,v=.ref y/\p y/\H y=some (.ins a.q dx fs)/\fs.lookup ("belts":Str)=some (.ref l1)/\p l1/\H l1=some (.lst bvs)/\Bts a H p bvs bs:=by
 obtain ⟨y,dx,fs,rfl,py,hy,g1,g2⟩:=Rep.ob' h;obtain ⟨u1,e1,r1⟩:=g1 _ _ VQ;obtain ⟨l1,bvs,rfl,pl,h1,b1⟩:=r1.lst';exact ⟨y,dx,fs,l1,bvs,rfl,py,hy,e1,pl,h1,.of b1⟩
def zhW {t u:Int} {lc ls lg:Addr}:qh "turn" (.int u) (sff t lc ls lg)=sff u lc ls lg:=rfl
def zd4 (a:Ad):Sp:=λ vs H Q _=>∃ (vw:V) (y:Addr) (n:SN) (st:PSt) (bs:List (Int × Int)) (rs:List Row),vs=[vw,.ref y]/\Rep H (Off (y :: n.all)) vw (zX a bs rs)/\StO a H y n st/\stWf bs rs st/\zH bs rs/\(∀ b∈bs,zu b.1 b.2)/\(∀ r∈rs,r.ok) /\
 ∀ l us H',Fr (y :: n.all) H H'->StO a H' y n (passF bs rs st).1->H l=none->l ∉ y :: n.all->H' l=some (.lst us)->Reps H' (zT H') us ((passF bs rs st).2.map XB)->Q (.ref l) H'
def Vo (T:Txt K mg a) (F:Fun K "pass_turn" "pass_turn" xC f fd):FnOk P w K mg base (CXr P w) 6 f fd ["work","state"] (zd4 a):=by
 refine F.okx WW ?_ ?_
 ·walk_at "i"
 walk_at "j";refine oE6 h λ vw y n st bs rs z1_=>oA8 z1_ λ z2_ hw so wf wok bo ro k=>?_;clear h;subst z2_;have b24:=wok.1.1.2;walk_at "T";refine ⟨_,(zh (zx 2 WW.nd (zt ⟨rfl,rfl,rfl⟩ hr (za (pq 0) (za (pq 1) zc))))  (qJ (qK ji rfl (xg (za (zl (pq 0) rfl) zc)) (Zr (n:=2) rfl (qu (qk 3 WW.nd) (qu (qk 4 WW.nd) wO)))  (ze (zD (zo (j5 hr.units1) (zR jA (zl (pq 1) rfl) (zl (pq 4) rfl)) zd (zq _))  (ze (zA (zt ⟨rfl,rfl,rfl⟩ hr (za (zr (zl (pq 1) rfl) (pq 3)) zc))))  zp)))  (zh (zc9 (pq 1) zd zhF)  (ze (zj (pq 2)))))),?_⟩;walk_at "go";refine uc (zdH T).mono (zbP vw y n st bs rs rfl hw so wf wok bo ro (λ l us H1 f1 so1 nl nl' hl rl=>?_));have wA:=wx wf wok bo ro rs.length;have hw1:=hw.fr f1;refine oE5 (zaZ hw1) λ yw dw fw l1 bvs z1_=>oA7 z1_ λ z2_ _ hyw ew1 pl1 hl1 hB=>?_;subst z2_;have lb:bvs.length=bs.length:=hB.len;generalize hA:zw rs st rs.length=A at so1 rl wA;refine oA4 (sff_l (t:=A.1.turn) (lc:=n.lc) (ls:=n.ls) (lg:=n.lg)) λ lk1 lk2 lk3 lk4=>?_;walk_at "go";let M1_:St->Hp->Prop:=λ σ' H'=>∃ (v3 v4:Option V),σ'=[some (.ref yw),some (.ref y),some (.ref l),v3,v4]/\Fr (y :: n.all) H1 H'/\StO a H' y n { A.1 with cells:=z9 bs A.1.turn A.1.cells bs.length };refine cut M1_ ?_ ?_
 ·walk_at "for";walk_at "go";refine ra hyw T.fK T.fR ew1 (iE2 l1 _ (iA3 rfl hl1 ?_));let M2_:Nat->St->Hp->Prop:=λ i σ H'=>∃ (v3 v4:Option V),σ=[some (.ref yw),some (.ref y),some (.ref l),v3,v4]/\Fr (y :: n.all) H1 H'/\StO a H' y n { A.1 with cells:=z9 bs A.1.turn A.1.cells i };refine zcs (K:=K) (a:=l1) (xs:=bvs) M2_ (iE2 _ _ (iA3 rfl Fr.refl so1)) (λ i σ H' _ h=>by obtain ⟨_,_,_,f,_⟩:=h;exact SqL.of (f _ _ pl1 hl1)) ?_ ?_
  ·intro i x t σ H2 hi ht zz_;refine oE2 zz_ λ v3 v4 z1_=>oA3 z1_ λ z2_ f2 so2=>?_;clear zz_;subst z2_;obtain ⟨b,hb',hBt⟩:=hB.at hi;refine oE3 hBt.inv λ y1 dx1 fs1 z1_=>oA5 z1_ λ z2_ py1 g0 _ e2=>?_;subst z2_;have g02:=f2 _ _ py1 g0;have hil:=(aa.mp hb').1;have bk:=bo b (af hb');have f3:=f2.trans (zbS (ms:=y :: n.all) (o:=.tup [.int i,.ref y1]) ht);have so3:=so2.same (zg (o:=.tup [.int i,.ref y1]) ht);have g03:=upd_keep (o:=.tup [.int i,.ref y1]) g02 ht;refine un2 upd_same ?_;generalize upd H2 t (.tup [.int i,.ref y1])=H3 at f3 so3 g03 ⊢;have eb:bs.getD i (0,1)=b:=by rw [ae,hb'];rfl
   have co:=ZE (t:=A.1.turn) wA.co i;have hc:=jf (xs:=z9 bs A.1.turn A.1.cells i) (d:=[]) (show i < _ by rw [co.1];exact hil);refine oE2 (so3.cell hc) λ bC vs z1_=>oA3 z1_ λ hbC hvC rvC=>?_;have lc:=(co.2 i b _ hb' hc).1;have b1:=bk.1;have b2:=bk.2.1;have b3:=bk.2.2.1;walk_at "go";refine ra so3.hy T.fH T.fP lk4 ?_;refine ra g03 T.gH T.gx e2 ?_;walk_at "go";refine zI (λ z=>?_) (λ z=>?_)
   ·walk_at "go";refine uc (zaU T).mono ?_;refine ra so3.hy T.fH T.fI lk1 (zn (SqL.of so3.hc.out) (zy (Z6 hbC)) ?_);refine iE3 bC vs _ (iA5 rfl hvC rvC (by omega) (λ us' r'=>?_));refine iE2 _ _ (iA3 rfl (f3.trans (jH (VP hbC))) ?_);have:=so3.putC hbC r';rw [z9,eb,aq z];exact this
   ·refine iE2 _ _ (iA3 rfl f3 ?_);rw [z9,eb,am z];exact so3
  ·intro σ H2 zz_;refine oE2 zz_ λ v3 v4 z1_=>oA3 z1_ λ z2_ f2 so2=>?_;clear zz_;subst z2_;rw [lb] at so2;exact iE2 _ _ (iA3 rfl f2 so2)
 intro σ' H2 zz_;refine oE2 zz_ λ v3 v4 z1_=>oA3 z1_ λ z2_ f2 so2=>?_;clear zz_;subst z2_;walk_at "go";refine ⟨y,?_⟩;refine iE4 a.p n.dx _ _ (iA6 rfl so2.hy T.fH T.fP lk4 ?_);refine iE2 _ 1 (iA3 rfl rfl (iE2 n.dx _ (iA3 so2.hy (show 4 < 1000 by decide) ?_)));rw [zhW];have f3:=f2.trans (jH (x:=y) (o:=.ins a.p n.dx (sff (A.1.turn + 1) n.lc n.ls n.lg)) (by simp));walk_at "go";refine k l us _ (f1.trans f3) (by rw [passF,hA];exact so2.putT) nl nl' (f3 _ _ nl' hl) (by rw [passF,hA];exact so1.repsT f3 rl)
def QU (T:Txt K mg a):Cal P w K mg base "pass_turn" 6 ["work","state"] [] (zd4 a):=T.kN.cal (Vo T)
def zd9 (a:Ad):Sp:=λ vs H Q _=>∃ (v:V) (st:PSt) (p:Addr->Prop),vs=[v]/\Rep H p v (QE a st)/\st.cells.length<=100/\st.gone.length<=100/\∀ v' H',Same H H'->WN a H H' v' st->Q v' H'
def XF (T:Txt K mg a):Cal P w K mg base "copied_state" 3 ["state"] [] (zd9 a):=T.iO.cal λ F=>by
 refine F.okx QZ ?_ ?_
 ·walk_at "i"
 walk_at "j";obtain ⟨v,st,p,rfl,hs,lc,lg,k⟩:=h;obtain ⟨y,dx,fs,rfl,py,hy,g1,g2⟩:=Rep.ob' hs;obtain ⟨u1,e1,r1⟩:=g1 _ _ (VX st);obtain ⟨u2,e2,r2⟩:=g1 _ _ (Wi st);obtain ⟨u3,e3,r3⟩:=g1 _ _ (Wh st);obtain ⟨u4,e4,r4⟩:=g1 _ _ (VY st);cases r1;walk_at "T";refine ⟨_,(ze (zj (qa (x:="State") ⟨rfl,rfl,rfl⟩ hr (za (zl (pq 0) rfl) (za (zl (pq 0) rfl) (za (zl (pq 0) rfl) (za (zl (pq 0) rfl) zc))))))),?_⟩;walk_at "go";refine ⟨a.p,_,_,_,(zcj T).mono,y,a.p,dx,fs,_,rfl,hy,T.fH,T.fP,e1,?_⟩;refine ra hy T.fH T.fI e2 ?_;refine ra hy T.fH T.fW e3 ?_;refine ra hy T.fH T.fQ e4 ?_;exact zaB T (st:=st) r2 r3 r4 lc lg λ y' H' s' sn=>k _ _ s' sn
def zcP (a:Ad):Sp:=λ vs H Q _=>∃ (vw v:V) (st:PSt) (bs:List (Int × Int)) (rs:List Row) (p:Addr->Prop),vs=[vw,v]/\Rep H (Off []) vw (zX a bs rs)/\Rep H p v (QE a st)/\stWf bs rs st/\zH bs rs/\(∀ b∈bs,zu b.1 b.2)/\(∀ r∈rs,r.ok) /\
 ∀ v' H',Same H H'->WN a H H' v' (passF bs rs st).1->Q v' H'
def zb0 (T:Txt K mg a):Cal P w K mg base "one_turn" 7 ["work","state"] [] (zcP a):=T.ly.cal λ F=>by
 refine F.okx zab ?_ ?_
 ·walk_at "i"
 walk_at "j";obtain ⟨vw,v,st,bs,rs,p,rfl,hw,hv,wf,wok,bo,ro,k⟩:=h;have b24:=wok.1.1.2;have r24:=wok.1.2.2;walk_at "T";refine ⟨_,(zi (zx 2 zab.nd (zt ⟨rfl,rfl,rfl⟩ hr (za (pq 1) zc)))  (zi (zA (zt ⟨rfl,rfl,rfl⟩ hr (za (pq 0) (za (pq 2) zc))))  (ze (zj (pq 2))))),?_⟩;walk_at "go";refine uc (XF T).mono ⟨v,st,p,rfl,hv,by rw [wf.co.1];omega,by rw [wf.go.1];omega,λ v' H1 s1 sn=>?_⟩;obtain ⟨y,n,rfl,so1,ny,nd,nn⟩:=sn;have na:∀ b∈y :: n.all,H b=none:=λ b hb=>by
  rcases ax.mp hb with rfl|hb
  ·exact ny
  ·exact nn b hb
 have hw1:Rep H1 (Off (y :: n.all)) vw (zX a bs rs):=qY (hw.more (ns:=y :: n.all) λ b hb=>.inr (na b hb)) s1;walk_at "go";refine uc (QU T).mono ⟨vw,y,n,st,bs,rs,rfl,hw1,so1,wf,wok,bo,ro,λ l us H2 f2 so2 _ _ _ _=>?_⟩;walk_at "go";exact k _ _ (λ b o hb=>f2 b o (λ z=>by rw [na b z] at hb;cases hb) (s1 b o hb)) ⟨y,n,rfl,so2,ny,nd,nn⟩
noncomputable def zk (bs:List (Int × Int)) (rs:List Row):Nat->PSt
 | 0=>qN bs rs
 | n + 1=>(passF bs rs (zk bs rs n)).1
def ze8 {bs:List (Int × Int)} {rs:List Row} (ro:∀ r∈rs,r.ok):stWf bs rs (qN bs rs):=by
 refine ⟨⟨by simp [qN],λ i b c h1 h2=>?_⟩,⟨by simp [qN],λ i r s h1 h2=>?_⟩,⟨by simp [qN],λ i r g h1 h2=>?_⟩⟩
 ·simp only [qN,aj,h1,Option.map_some,Option.some.injEq] at h2;subst h2;refine ⟨by simp,λ x hx=>?_⟩;rw [(bW.mp hx).2];exact Z7
 ·have hs:=af h2;have e:s=0:=(bW.mp hs).2;subst e;have ok:=ro r (af h1);obtain ⟨wd,ins,outs,pc,ks⟩:=r;refine ⟨by decide,λ hw=>?_,λ hw=>?_,λ _ _=>rfl⟩
  ·simp only at hw;subst hw;have:=ok.2.1;simp only at this ⊢;omega
  ·simp only at hw;subst hw;have:=ok.2.1;simp only at this ⊢;omega
 ·simp only [qN,aj,h1,Option.map_some,Option.some.injEq] at h2;subst h2;refine ⟨rfl,λ n hn=>?_⟩;rw [(bW.mp hn).2];decide
theorem qb {bs:List (Int × Int)} {rs:List Row} (wok:zH bs rs) (bo:∀ b∈bs,zu b.1 b.2) (ro:∀ r∈rs,r.ok):∀ n,stWf bs rs (zk bs rs n)
 | 0=>ze8 ro
 | n + 1=>zex (qb wok bo ro n) wok bo ro
def V0 (a:Ad):Sp:=λ vs H Q _=>∃ (vw:V) (n:Nat) (bs:List (Int × Int)) (rs:List Row),vs=[vw,.int n]/\Rep H (Off []) vw (zX a bs rs)/\zH bs rs/\(∀ b∈bs,zu b.1 b.2)/\(∀ r∈rs,r.ok)/\n<=1000/\∀ v' H',Same H H'->WN a H H' v' (zk bs rs n)->Q v' H'
def zbO {a:Ad} {vs:List V} {H:Hp} {Q:VK} {E:XK} (vw:V) (n:Nat) (bs:List (Int × Int)) (rs:List Row) (q0:vs=[vw,.int n]) (q1:Rep H (Off []) vw (zX a bs rs)) (q2:zH bs rs) (q3:(∀ b∈bs,zu b.1 b.2)) (q4:(∀ r∈rs,r.ok)) (q5:n<=1000) (q6:∀ v' H',Same H H'->WN a H H' v' (zk bs rs n)->Q v' H'):V0 a vs H Q E:=⟨vw,n,bs,rs,q0,q1,q2,q3,q4,q5,q6⟩
def zfg (T:Txt K mg a):Cal P w K mg base "played" 7 ["work","turns"] [] (V0 a):=T.lY.cal λ F=>by
 refine F.okx zcT ?_ ?_
 ·walk_at "i"
 walk_at "j";obtain ⟨vw,m,bs,rs,rfl,hw,wok,bo,ro,hm,k⟩:=h;have b24:=wok.1.1.2;have r24:=wok.1.2.2;walk_at "T";refine ⟨_,(zi (zx 2 zcT.nd (zt ⟨rfl,rfl,rfl⟩ hr (za (pq 0) zc)))  (qJ (qK ji rfl (wN (za (pq 1) zc)) (qk 3 zcT.nd)  (ze (zA (zt ⟨rfl,rfl,rfl⟩ hr (za (pq 0) (za (pq 2) zc))))))  (ze (zj (pq 2))))),?_⟩;walk_at "go";refine uc (Zh T).mono ⟨vw,bs,rs,_,rfl,hw,b24,r24,bo,ro,λ v' H1 s1 sn=>?_⟩;obtain ⟨y,n,rfl,so1,ny,nd,nn⟩:=sn;have na:∀ b∈y :: n.all,H b=none:=λ b hb=>by
  rcases ax.mp hb with rfl|hb
  ·exact ny
  ·exact nn b hb
 have hw1:Rep H1 (Off (y :: n.all)) vw (zX a bs rs):=qY (hw.more (ns:=y :: n.all) λ b hb=>.inr (na b hb)) s1;walk_at "go";refine cut (λ σ' H'=>∃ (v3:Option V),σ'=[some vw,some (.int m),some (.ref y),v3]/\Fr (y :: n.all) H1 H'/\StO a H' y n (zk bs rs m)) ?_ ?_
 ·walk_at "for";walk_at "go";refine ⟨by omega,by omega,?_⟩;refine Zd (n:=(m:Int).toNat) (λ i σ H'=>∃ (v3:Option V),σ=[some vw,some (.int m),some (.ref y),v3]/\Fr (y :: n.all) H1 H'/\StO a H' y n (zk bs rs i)) ⟨_,rfl,Fr.refl,so1⟩ ?_ (λ σ H' h=>?_)
  ·rintro i σ H2 hi ⟨v3,rfl,f2,so2⟩;walk_at "go";refine uc (QU T).mono ⟨vw,y,n,_,bs,rs,rfl,hw1.fr f2,so2,qb wok bo ro i,wok,bo,ro,λ l us H3 f3 so3 _ _ _ _=>?_⟩;exact ⟨_,rfl,f2.trans f3,so3⟩
  ·rw [show ((m:Int)).toNat=m by simp] at h;exact h
 rintro σ' H2 ⟨v3,rfl,f2,so2⟩;walk_at "go";exact k _ _ (λ b o hb=>f2 b o (λ z=>by rw [na b z] at hb;cases hb) (s1 b o hb)) ⟨y,n,rfl,so2,ny,nd,nn⟩
def V3:Sp:=λ vs H Q _=>∃ a b:Int,vs=[.int a,.int b]/\0<=a/\0<=b/\Q (.int (Int.gcd a b:Int)) H
def zdh (F:Fun K "common" "common" ZK f fd):FnOk P w K mg base (CXr P w) 1 f fd ["one","other"] V3:=by
 refine F.okx zcU ?_ ?_
 ·walk_at "i"
 walk_at "k";obtain ⟨a,b,rfl,ha,hb,k⟩:=h;refine ⟨_,(zi (zx 2 zcU.nd (pq 0))  (zi (zx 3 zcU.nd (pq 1))  (zi (zao ji (zo Xf (pq 3) zd (zq _))  (zi (zx 4 zcU.nd (zR jA (pq 2) (pq 3)))  (zi (zx 2 zcU.nd (pq 3))  (ze (zx 3 zcU.nd (pq 4))))))  (ze (zj (pq 2)))))),?_⟩;walk_at "r";refine ⟨λ m σ H'=>∃ p r v,σ=[some (.int a),some (.int b),some (.int p),some (.int r),v]/\H'=H/\0<=p/\0<=r/\Int.gcd p r=Int.gcd a b/\m=r.toNat,⟨_,a,b,none,rfl,rfl,ha,hb,rfl,rfl⟩,?_⟩;rintro m σ H' ⟨p,r,v,rfl,rfl,hp,hr',hg,rfl⟩;walk_at "r";refine zI (λ h=>?_) (λ h=>?_)
 ·refine zh0 ?_;have h1:=bM p (show r≠0 by omega);have h2:=bu p h;exact ⟨h,_,by omega,r,p % r,_,rfl,rfl,hr',h1,(ze3 hp h).trans hg,rfl⟩
 ·have e:r=0:=by omega
  subst e;have e2:=zgj hp;rw [hg] at e2;rw [<- e2];exact k
def Pac (ns:List Int):Prop:=∀ n∈ns,0 < n/\n<=1000000000000
def Pac.nil:Pac []:=λ _ h=>nomatch h
def Pac.snoc {ns:List Int} {n:Int} (h:Pac ns) (h1:0 < n) (h2:n<=1000000000000):Pac (ns ++ [n]):=λ k hk=>by
 rcases aD.mp hk with z|z
 ·exact h k z
 ·rw [ay.mp z];exact ⟨h1,h2⟩
def Pac.at {ns:List Int} (h:Pac ns) {i:Nat} {x:V} (e:(ns.map V.int)[i]?=some x):∃ n,x=.int n/\0 < n/\n<=1000000000000/\n∈ns/\ns.take (i + 1)=ns.take i ++ [n]:=by
 rw [aj,av] at e;obtain ⟨n,hn,rfl⟩:=e;have hm:=af hn;refine ⟨n,rfl,(h n hm).1,(h n hm).2,hm,?_⟩;rw [fA,hn]
 rfl
def zcQ (K:PySem.W.Frag):Sp:=λ vs H Q _=>∃ (l:Addr) (ns:List Int),vs=[.ref l]/\SqL K H l (ns.map V.int)/\Pac ns/\∀ L,IsLcm ns L->Q (.int L) H
def zfh (T:Txt K mg a):Cal P w K mg base "common" 1 ["one","other"] [] V3:=T.lZ.cal zdh
def zdG (T:Txt K mg a):Cal P w K mg base "lasting" 2 ["paces"] [] (zcQ K):=T.lI.cal λ F=>by
 refine F.okx zbe ?_ ?_
 ·walk_at "i"
 walk_at "k";obtain ⟨l,ns,rfl,hl,hn,k⟩:=h;refine ⟨_,(zi (zx 1 zbe.nd zd)  (zi (qK ji rfl (qd (pq 0)) (qk 2 zbe.nd)  (ze (zx 1 zbe.nd (zR Vt (zR zf3 (pq 1) (zt ⟨rfl,rfl,rfl⟩ hr (za (pq 1) (za (pq 2) zc)))) (pq 2)))))  (ze (zj (pq 1))))),?_⟩;walk_at "go";walk_at "for";refine ⟨l,rfl,.inl ⟨⟨_,hl⟩,?_⟩⟩;refine qE (K:=K) (a:=l) (xs:=ns.map V.int) (λ i σ H'=>∃ (m:Int) (v:Option V),σ=[some (V.ref l),some (V.int m),v]/\H'=H/\IsLcm (ns.take i) m) ⟨1,none,rfl,rfl,IsLcm.nil⟩ (λ i σ H' _ ⟨_,_,_,e,_⟩=>e ▸ hl) ?_ ?_
 ·rintro i x σ H1 hi ⟨m,v,rfl,rfl,hm⟩;obtain ⟨p,rfl,p0,p1,_,ht⟩:=hn.at hi;walk_at "r";have g0:(0:Int) < (Int.gcd m p:Int):=by have:=zcp (a:=m) (b:=p) (by omega);omega
  have g1:(Int.gcd m p:Int)<=p:=VB p0;refine ⟨_,_,_,zfh T,m,p,rfl,cE hm.pos,cE p0,?_⟩;walk_at "r";refine ⟨fd_ok g0 ?_,mul_okR (by omega) (by omega),?_⟩
  ·have:(1000000000000:Nat) < 2 ^ 8999:=by decide +kernel
   omega
  ·rw [fdiv_pos g0,ht];exact ⟨_,_,rfl,hm.step p0⟩
 ·rintro σ H1 ⟨m,v,rfl,rfl,hm⟩;rw [ai,aS] at hm;walk_at "r";exact k m hm
theorem IsLcm.ex:∀ {ns:List Int},Pac ns->∃ L,IsLcm ns L:=λ {ns} h=>by
 have:∀ k,k<=ns.length->∃ L,IsLcm (ns.take k) L:=λ k=>by
  induction k with
  | zero=>exact λ _=>⟨1,IsLcm.nil⟩
  | succ k ih =>
   intro hk;obtain ⟨L,hL⟩:=ih (by omega);have e:ns.take (k + 1)=ns.take k ++ [ns[k]]:=by rw [fA,ac (by omega)];rfl
   rw [e];exact ⟨_,hL.step (h _ (br _)).1⟩
 have:=this ns.length (ar _)
 rwa [aS] at this
def zgb (T:Txt K mg a) (wd:Wd):PySem.W.kitOne K (.ref (wt a wd)) (.ref a.k)=some (decide (wd=.drain)):=by
 cases wd
 ·exact T.iC
 ·exact T.iU
 ·exact T.iD
 ·exact T.gP
 ·exact T.iV
 ·exact T.iE
def ziH (T:Txt K mg a) (wd:Wd):PySem.W.kitOne K (.ref (wt a wd)) (.ref a.j)=some (decide (wd=.source)):=by
 cases wd
 ·exact T.ii
 ·exact T.iI
 ·exact T.ij
 ·exact T.gG
 ·exact T.iJ
 ·exact T.io
noncomputable def jn (wd:Wd) (rs:List Row) (n:Nat):List Int:=((List.range n).filter λ i=>decide (rs[i]?.map Row.wd=some wd)).map λ (i:Nat)=>(i:Int)
def xH {wd:Wd} {rs:List Row} {n:Nat} {r:Row} (h:rs[n]?=some r):jn wd rs (n + 1)=jn wd rs n ++ if r.wd=wd then [(n:Int)] else []:=by
 unfold jn;rw [eR,List.filter_append,a7]
 congr 1
 by_cases e:r.wd=wd <;> simp [h,e]
noncomputable def zP (wd:Wd) (rs:List Row):List Int:=jn wd rs rs.length
def xw (wd:Wd) (rs:List Row) (n:Nat):(jn wd rs n).length<=n:=by
 unfold jn;rw [ai];exact bw (List.length_filter_le _ _) (by simp)
def ZT {wd:Wd} {rs:List Row} {m:Int} (h:m∈zP wd rs):∃ (i:Nat) (r:Row),m=i/\rs[i]?=some r/\r.wd=wd:=by
 unfold zP jn at h;obtain ⟨i,hi,rfl⟩:=aW.mp h;rw [cw] at hi;have h2:=bO hi.2;rw [av] at h2;obtain ⟨r,h3,h4⟩:=h2;exact ⟨i,r,rfl,h3,h4⟩
def zaw {wd:Wd} {rs:List Row} {i:Nat} {r:Row} (h:rs[i]?=some r) (hw:r.wd=wd):(i:Int)∈zP wd rs:=by
 unfold zP jn;refine aW.mpr ⟨i,cw.mpr ⟨aY.mpr (aa.mp h).1,?_⟩,rfl⟩;rw [h];exact aJ (by rw [<- hw];rfl)
def zd5 (a:Ad) (wd:Wd):Sp:=λ vs H Q _=>∃ (v:V) (bs:List (Int × Int)) (rs:List Row) (p:Addr->Prop),vs=[v]/\Rep H p v (zX a bs rs)/\rs.length<=100/\∀ q H',Same H H'->H q=none->H' q=some (.lst (iv (zP wd rs)))->Q (.ref q) H'
def X8 (T:Txt K mg a):MCal P w K mg base a.q "drains" 1 ["self"] [] (zd5 a .drain):=T.kb.cal T.fK λ F=>by
 refine F.okx JT ?_ ?_
 ·walk_at "i"
 walk_at "j";refine oE4 h λ v bs rs p z1_=>oA4 z1_ λ z2_ hv l100 k=>?_;clear h;subst z2_;refine oE7 (qr hv) λ y dx fs l1 l2 bvs kvs z1_=>oA9 z1_ λ z2_ hy e1 e2 h1 h2 hB hK no=>?_;subst z2_;walk_at "T";refine ⟨_,(ze (zj (jY (vars:=["number","knot"]) (caps:=[]) (N:=["number","knot"]) (ON:=["self"]) (osc:=zf jI) rfl rfl (by first|decide +kernel|kernel_rfl) rfl rfl (xg (za (zl (pq 0) rfl) zc)) (λ s H fp pins=>(Zr (n:=2) rfl (qu (qk 0 (show (["number","knot"]:List Str).Nodup from by decide +kernel)) (qu (qk 1 (show (["number","knot"]:List Str).Nodup from by decide +kernel)) wO)))) (λ s H fp pins=>(Vj (z7 (zJ qU zB (za (pq 1) (za jq zc))) (λ _=>rfl)))) (λ s H fp pins=>(pq 0))))),?_⟩;walk_at "go";walk_at "lc";walk_at "go";refine ra hy T.fK T.fJ e2 (iE2 l2 _ (iA3 rfl h2 (λ _ _ _ _ acc hacc=>?_)));refine zcs (K:=K) (a:=l2) (xs:=kvs) (λ i σ H'=>∃ (v0 v1:Option V),σ=[v0,v1]/\Same H H'/\H' acc=some (.lst (iv (jn .drain rs i)))) (iE2 _ _ (iA3 rfl (zg hacc) upd_same)) (λ i σ H' _ h=>by obtain ⟨_,_,_,s,_⟩:=h;exact SqL.of (s _ _ h2)) ?_ ?_
 ·intro i x t σ H' hi ht zz_;refine oE2 zz_ λ v0 v1 z1_=>oA3 z1_ λ z2_ s7 e1'=>?_;clear zz_;subst z2_;obtain ⟨r,hr',hKn⟩:=hK.at hi;refine oE6 hKn.inv λ y1 dx1 m1 m2 m3 fs1 z1_=>oA9 z1_ λ z2_ _ _ _ _ g0 f1 f2 z3_=>oA5 z3_ λ _ g1 g2 _ _=>?_;subst z2_;have hil:=(aa.mp hr').1;have s8:=s7.trans (zg (o:=.tup [.int i,.ref y1]) ht);have e8:=upd_keep (o:=.tup [.int i,.ref y1]) e1' ht;refine un2 upd_same ?_;generalize upd H' t (.tup [.int i,.ref y1])=H8 at s8 e8 ⊢;walk_at "go";refine iE2 (.ref a.k) _ (iA3 T.hX rfl (iE4 _ _ _ _ (iA4 rfl ((WT T r.wd).ty (CT T r.wd) (s8 _ _ g0)) (.inl ⟨_,rfl,zgb T r.wd⟩) ?_)));walk_at "go";refine zI (λ b=>?_) (λ b=>?_)
  ·refine ⟨_,iA3 e8 (zm (by have:=xw .drain rs i;rw [zF];omega)) (iE2 _ _ (iA3 rfl (λ b o hb=>by rw [upd_ne (ne_of_none hb hacc)];exact s8 b o hb) ?_))⟩;rw [upd_same,xH hr',aq b,je]
  ·exact iE2 _ _ (iA3 rfl s8 (by rw [xH hr',am b,cn];exact e8))
 intro σ H2 zz_;refine oE2 zz_ λ v0 v1 z1_=>oA3 z1_ λ z2_ s2 ha=>?_;clear zz_;subst z2_;rw [hK.len] at ha;exact k _ _ s2 hacc ha
def vC (T:Txt K mg a):MCal P w K mg base a.q "sources" 1 ["self"] [] (zd5 a .source):=T.iT.cal T.fK λ F=>by
 refine F.okx Q0 ?_ ?_
 ·walk_at "i"
 walk_at "j";obtain ⟨v,bs,rs,p,rfl,hv,l100,k⟩:=h;obtain ⟨y,dx,fs,l1,l2,bvs,kvs,rfl,hy,e1,e2,h1,h2,hB,hK,no⟩:=qr hv;walk_at "T";refine ⟨_,(ze (zj (jY (vars:=["number","knot"]) (caps:=[]) (N:=["number","knot"]) (ON:=["self"]) (osc:=zf jv) rfl rfl (by first|decide +kernel|kernel_rfl) rfl rfl (xg (za (zl (pq 0) rfl) zc)) (λ s H fp pins=>(Zr (n:=2) rfl (qu (qk 0 (show (["number","knot"]:List Str).Nodup from by decide +kernel)) (qu (qk 1 (show (["number","knot"]:List Str).Nodup from by decide +kernel)) wO)))) (λ s H fp pins=>(Vj (z7 (zJ qU zB (za (pq 1) (za jq zc))) (λ _=>rfl)))) (λ s H fp pins=>(pq 0))))),?_⟩;walk_at "go";walk_at "lc";walk_at "go";refine ra hy T.fK T.fJ e2 ⟨l2,_,rfl,h2,λ _ _ _ _ acc hacc=>?_⟩;refine zcs (K:=K) (a:=l2) (xs:=kvs) (λ i σ H'=>∃ (v0 v1:Option V),σ=[v0,v1]/\Same H H'/\H' acc=some (.lst (iv (jn .source rs i)))) ⟨_,_,rfl,zg hacc,upd_same⟩ (λ i σ H' _ h=>by obtain ⟨_,_,_,s,_⟩:=h;exact SqL.of (s _ _ h2)) ?_ ?_
 ·rintro i x t σ H' hi ht ⟨v0,v1,rfl,s7,e1'⟩;obtain ⟨r,hr',hKn⟩:=hK.at hi;obtain ⟨y1,dx1,m1,m2,m3,fs1,rfl,_,_,_,_,g0,f1,f2,_,g1,g2,_,_⟩:=hKn.inv;have hil:=(aa.mp hr').1;have s8:=s7.trans (zg (o:=.tup [.int i,.ref y1]) ht);have e8:=upd_keep (o:=.tup [.int i,.ref y1]) e1' ht;refine un2 upd_same ?_;generalize upd H' t (.tup [.int i,.ref y1])=H8 at s8 e8 ⊢;walk_at "go";refine ⟨.ref a.j,_,T.kZ,rfl,_,_,_,_,rfl,(WT T r.wd).ty (CT T r.wd) (s8 _ _ g0),.inl ⟨_,rfl,ziH T r.wd⟩,?_⟩;walk_at "go";refine zI (λ b=>?_) (λ b=>?_)
  ·refine ⟨_,e8,zm (by have:=xw .source rs i;rw [zF];omega),_,_,rfl,(λ b o hb=>by rw [upd_ne (ne_of_none hb hacc)];exact s8 b o hb),?_⟩;rw [upd_same,xH hr',aq b,je]
  ·exact ⟨_,_,rfl,s8,by rw [xH hr',am b,cn];exact e8⟩
 rintro σ H2 ⟨v0,v1,rfl,s2,ha⟩;rw [hK.len] at ha;exact k _ _ s2 hacc ha
def xP (bs:List (Int × Int)) (rs:List Row) (n:Int):Prop:=(∃ b∈bs,b.2=n)\/∃ r∈rs,(r.wd=.source\/r.wd=.drain)/\r.pace=n/\0 < n
def zag {r:Row} (h:r.ok) (hw:r.wd=.source\/r.wd=.drain):0<=r.pace/\r.pace<=4:=by
 obtain ⟨wd,ins,outs,pc,ks⟩:=r;rcases hw with hw|hw
 ·simp only at hw;subst hw;have h1:=h.2.2.1;have h2:=h.2.2.2.1;simp only at h1 h2;exact ⟨by show 0<=pc;omega,h2⟩
 ·simp only at hw;subst hw;exact ⟨h.2.2.1,h.2.2.2⟩
def zg4 (a:Ad):Sp:=λ vs H Q _=>∃ (v:V) (bs:List (Int × Int)) (rs:List Row) (p:Addr->Prop),vs=[v]/\Rep H p v (zX a bs rs)/\bs.length<=100/\rs.length<=100/\(∀ b∈bs,zu b.1 b.2)/\(∀ r∈rs,r.ok) /\
 ∀ L ns H',IsLcm ns L->(∀ n,n∈ns ↔ xP bs rs n)->Same H H'->Q (.int L) H'
def zaE (T:Txt K mg a):MCal P w K mg base a.q "beat" 3 ["self"] [] (zg4 a):=T.kU.cal T.fK λ F=>by
 refine F.okx Va ?_ ?_
 ·walk_at "i"
 walk_at "j";refine oE4 h λ v bs rs p z1_=>oA7 z1_ λ z2_ hv lb lr bo ro k=>?_;clear h;subst z2_;have hv0:=hv;refine oE7 (qr hv) λ y dx fs l1 l2 bvs kvs z1_=>oA9 z1_ λ z2_ hy e1 e2 h1 h2 hB hK no=>?_;subst z2_;walk_at "T";refine ⟨_,(zi (QN (i:=1) Va.nd rfl (Or.inl rfl) (vars:=["belt"]) (caps:=[]) (N:=["belt"]) (ON:=["self","paces","number","pace"]) (osc:=zf xF) rfl rfl (by first|decide +kernel|kernel_rfl) rfl rfl (qd (zl (pq 0) rfl)) (λ s H fp pins=>(qk 0 (show (["belt"]:List Str).Nodup from by decide +kernel))) (λ s H fp pins=>qf) (λ s H fp pins=>(zl (pq 0) rfl)))  (zi (qK ji rfl (qd (zR qq (Jl ⟨rfl,rfl,rfl⟩ hr (pq 0)) (Jl ⟨rfl,rfl,rfl⟩ hr (pq 0)))) (qk 2 Va.nd)  (zi (zx 3 Va.nd (zl (zr (zl (pq 0) rfl) (pq 2)) rfl))  (ze (zD (zo Xf (pq 3) zd (zq _))  (ze (zA (qQ ap aC aB zU (pq 1) (za (pq 3) zc))))  zp))))  (ze (zj (zt ⟨rfl,rfl,rfl⟩ hr (za (pq 1) zc)))))),?_⟩;walk_at "go";walk_at "lc";walk_at "go";refine ra hy T.fK T.fR e1 ⟨l1,rfl,.inl ⟨⟨_,SqL.of h1⟩,λ _ _ _ _ acc hacc=>?_⟩⟩;let M1_:Nat->St->Hp->Prop:=λ i σ H'=>∃ (v0:Option V),σ=[v0]/\Same H H'/\H' acc=some (.lst (iv ((bs.take i).map (·.2))));refine qE (K:=K) (a:=l1) (xs:=bvs) M1_ ⟨_,iA3 rfl (zg hacc) (by rw [cu];exact upd_same)⟩ (λ i σ H' _ h=>by obtain ⟨_,_,s,_⟩:=h;exact SqL.of (s _ _ h1)) ?_ ?_
 ·intro i x σ H' hi zz_;refine oE1 zz_ λ v0 z1_=>oA3 z1_ λ z2_ s7 e7=>?_;clear zz_;subst z2_;obtain ⟨b,hr',hBt⟩:=hB.at hi;refine oE3 hBt.inv λ y1 dx1 fs1 z1_=>oA5 z1_ λ z2_ _ g0 f1 f2=>?_;subst z2_;have hil:=(aa.mp hr').1;walk_at "go";refine ra (s7 _ _ g0) T.gH T.gx f2 ?_;refine ⟨_,iA3 e7 (zm (by rw [zF,ai,aT];omega)) ⟨_,iA3 rfl (λ b o hb=>by rw [upd_ne (ne_of_none hb hacc)];exact s7 b o hb) ?_⟩⟩;rw [upd_same,aR,hr',a7,je]
  rfl
 intro σ H2 zz_;refine oE1 zz_ λ v0 z1_=>oA3 z1_ λ z2_ s2 ha=>?_;clear zz_;subst z2_;rw [hB.len,aS] at ha;walk_at "go";walk_at "for";walk_at "go";refine iE7 y a.q dx fs _ _ _ (iA5 rfl (s2 _ _ hy) (no _ (by decide +kernel) (by decide +kernel)) ((vC T).mono) ?_);refine iE4 _ bs rs p (iA4 rfl (hv0.keep λ b o pb hb=>⟨pb,s2 _ _ hb⟩) lr (λ q1 H3 s3 n1 hq1=>?_));refine iE7 y a.q dx fs _ _ _ (iA5 rfl (s3 _ _ (s2 _ _ hy)) (no _ (by decide +kernel) (by decide +kernel)) ((X8 T).mono) ?_);refine iE4 _ bs rs p (iA4 rfl (hv0.keep λ b o pb hb=>⟨pb,s3 _ _ (s2 _ _ hb)⟩) lr (λ q2 H4 s4 n2 hq2=>?_));have l3:=xw .source rs rs.length;have l4:=xw .drain rs rs.length;refine ZO (SqL.of (s4 _ _ hq1)) (SqL.of hq2) (j9 (by rw [zF,zF];show (jn _ _ _).length + (jn _ _ _).length<=_;omega)) λ q3 hq3=>?_;rw [zbJ];have s5:Same H (upd H4 q3 (.lst (iv (zP .source rs ++ zP .drain rs)))):=((s2.trans s3).trans s4).trans (zg hq3);have ha5:upd H4 q3 (.lst (iv (zP .source rs ++ zP .drain rs))) acc=some (.lst (iv (bs.map (·.2)))):=upd_keep (s4 _ _ (s3 _ _ ha)) hq3;have hq5:upd H4 q3 (.lst (iv (zP .source rs ++ zP .drain rs))) q3=some (.lst (iv (zP .source rs ++ zP .drain rs))):=upd_same;have nq:q3≠acc:=(ne_of_none (s4 _ _ (s3 _ _ ha)) hq3).symm;have hq0:H q3=none:=zK ((s2.trans s3).trans s4) hq3;generalize upd H4 q3 (.lst (iv (zP .source rs ++ zP .drain rs)))=H5 at s5 ha5 hq5 ⊢;refine ⟨q3,rfl,.inl ⟨⟨_,SqL.of hq5⟩,?_⟩⟩;let M2_:Nat->St->Hp->Prop:=λ i σ H'=>∃ (v2 v3:Option V) (ns:List Int),σ=[some (.ref y),some (.ref acc),v2,v3]/\Same H H'/\H' q3=some (.lst (iv (zP .source rs ++ zP .drain rs)))/\H' acc=some (.lst (iv ns))/\Pac ns/\ns.length<=bs.length + i/\∀ n,n∈ns ↔ n∈bs.map (·.2)\/∃ (m:Nat) (r:Row),(m:Int)∈(zP .source rs ++ zP .drain rs).take i/\rs[m]?=some r/\r.pace=n/\0 < n;refine qE (K:=K) (a:=q3) (xs:=iv (zP .source rs ++ zP .drain rs)) M2_
  ⟨_,_,bs.map (·.2),rfl,s5,hq5,ha5,?_,by simp,?_⟩ (λ i σ H' _ h=>by obtain ⟨_,_,_,_,_,h,_⟩:=h;exact SqL.of h) ?_ ?_
 ·intro n hn;obtain ⟨b,hb,rfl⟩:=aW.mp hn;have:=bo b hb;exact ⟨by have:=this.2.2.1;omega,by have:=this.2.2.2;omega⟩
 ·intro n;simp
 ·intro i x σ H6 hi zz_;refine oE3 zz_ λ v2 v3 ns z1_=>oA7 z1_ λ z2_ s6 hq6 ha6 pn ln mem=>?_;clear zz_;subst z2_;obtain ⟨m,hm,rfl⟩:=ZY hi;have hmm:=af hm;have hil:=(aa.mp hm).1;have hlen:(zP .source rs ++ zP .drain rs).length<=200:=by
   rw [aP];show (jn _ _ _).length + (jn _ _ _).length<=_
   omega
  obtain ⟨j,r,rfl,hr',hw⟩:∃ (j:Nat) (r:Row),m=j/\rs[j]?=some r/\(r.wd=.source\/r.wd=.drain):=by
   rcases aD.mp hmm with z|z
   ·obtain ⟨j,r,q1,q2,q3⟩:=ZT z;exact ⟨j,r,q1,q2,.inl q3⟩
   ·obtain ⟨j,r,q1,q2,q3⟩:=ZT z;exact ⟨j,r,q1,q2,.inr q3⟩
  have hp:=zag (ro r (af hr')) hw;obtain ⟨kv,hkv,hKn⟩:∃ kv,kvs[j]?=some kv/\KnP a H p kv r:=by
   have hj:=(aa.mp hr').1;have e:kvs[j]?=some (kvs[j]'(by rw [hK.len];exact hj)):=ac _;exact ⟨_,e,hK.g j _ r e hr'⟩
  refine oE6 hKn.inv λ y1 dx1 m1 m2 m3 fs1 z1_=>oA9 z1_ λ z2_ _ _ _ _ g0 _ _ z3_=>oA5 z3_ λ _ _ _ _ fp=>?_;subst z2_;walk_at "go";refine ra (s6 _ _ hy) T.fK T.fJ e2 (zn (SqL.of (s6 _ _ h2)) (zy hkv) ?_);have NP:NoAttr K (wt a r.wd) "pace":=by
   rcases hw with z|z
   ·rw [z];exact T.gb
   ·rw [z];exact T.fU
  refine iE5 y1 (wt a r.wd) dx1 fs1 _ (iA6 rfl (s6 _ _ g0) (CT T _) NP (fp hw) ?_);walk_at "go";have tk:(zP .source rs ++ zP .drain rs).take (i + 1)=(zP .source rs ++ zP .drain rs).take i ++ [(j:Int)]:=by rw [aR,hm];rfl
  refine zI (λ b=>?_) (λ b=>?_)
  ·walk_at "go";refine ⟨.inl ⟨rfl,_,SqL.of ha6⟩,iE3 acc _ _ (iA5 rfl rfl ha6 (zm (by rw [zF];omega)) ?_)⟩;rw [je];refine iE3 _ _ (ns ++ [r.pace]) (iA7 rfl (λ b o hb=>by rw [upd_ne (ne_of_none hb hacc)];exact s6 b o hb) (by rw [upd_ne nq];exact hq6) upd_same (pn.snoc b (by omega)) (by simp;omega) (λ n=>?_));rw [aD,mem n,ay,tk];constructor
   ·rintro ((h|⟨m',r',h1,h2,h3,h4⟩)|h)
    ·exact .inl h
    ·exact .inr (iE2 m' r' (iA4 (bH _ h1) h2 h3 h4))
    ·subst h;exact .inr (iE2 j r (iA4 (aV _ (ay.mpr rfl)) hr' rfl b))
   ·rintro (h|⟨m',r',h1,h2,h3,h4⟩)
    ·exact .inl (.inl h)
    ·rcases aD.mp h1 with h1|h1
     ·exact .inl (.inr (iE2 m' r' (iA4 h1 h2 h3 h4)))
     ·have e:m'=j:=by have:=ay.mp h1;omega
      subst e;rw [hr'] at h2;cases h2;exact .inr h3.symm
  ·refine iE3 _ _ ns (iA7 rfl s6 hq6 ha6 pn (by omega) (λ n=>?_));rw [mem n,tk];constructor
   ·rintro (h|⟨m',r',h1,h2,h3,h4⟩)
    ·exact .inl h
    ·exact .inr (iE2 m' r' (iA4 (bH _ h1) h2 h3 h4))
   ·rintro (h|⟨m',r',h1,h2,h3,h4⟩)
    ·exact .inl h
    ·rcases aD.mp h1 with h1|h1
     ·exact .inr (iE2 m' r' (iA4 h1 h2 h3 h4))
     ·have e:m'=j:=by have:=ay.mp h1;omega
      subst e;rw [hr'] at h2;cases h2;omega
 ·intro σ H6 zz_;refine oE3 zz_ λ v2 v3 ns z1_=>oA7 z1_ λ z2_ s6 hq6 ha6 pn ln mem=>?_;clear zz_;subst z2_;rw [zF,aS] at mem;walk_at "go";refine uc (zdG T).mono (iE2 acc ns (iA4 rfl (SqL.of ha6) pn (λ L hL=>k L ns _ hL (λ n=>?_) s6)));rw [mem n];unfold xP;constructor
  ·rintro (h|⟨m',r',h1,h2,h3,h4⟩)
   ·obtain ⟨b,hb,e⟩:=aW.mp h;exact .inl ⟨b,hb,e⟩
   ·refine .inr ⟨r',iA4 (af h2) ?_ h3 h4⟩;rcases aD.mp h1 with z|z
    ·refine oE2 (ZT z) λ j r z1_=>oA3 z1_ λ q1 q2 q3=>?_;have e:m'=j:=by omega
     subst e;rw [h2] at q2;cases q2;exact .inl q3
    ·refine oE2 (ZT z) λ j r z1_=>oA3 z1_ λ q1 q2 q3=>?_;have e:m'=j:=by omega
     subst e;rw [h2] at q2;cases q2;exact .inr q3
  ·rintro (⟨b,hb,e⟩|⟨r,hr',hw,h3,h4⟩)
   ·exact .inl (aW.mpr ⟨b,hb,e⟩)
   ·obtain ⟨m',hm'⟩:=bh hr';refine .inr (iE2 m' r (iA4 ?_ hm' h3 h4));rcases hw with hw|hw
    ·exact bH _ (zaw hm' hw)
    ·exact aV _ (zaw hm' hw)
def VA {H:Hp} {p:Addr->Prop} {G:Addr} {ags:List Addr} {gss:List (List Int)} {i:Nat} {g:List Int} (h:NL H p G ags (qw gss)) (e:gss[i]?=some g):∃ b,ags[i]?=some b/\H b=some (.lst (iv g)):=by
 obtain ⟨b,vs,h1,h2,h3⟩:=h.at (i:=i) (xs:=g.map D.int) (by rw [qw,aj,e];rfl);rw [Jo h3] at h2;exact ⟨b,h1,h2⟩
noncomputable def kdW (rs:List Row) (x:Int × Int):Int:=wS ((rs[x.1.toNat]?.map Row.kinds).getD []) x.2
noncomputable def qA (rs:List Row) (c:List zG):List (Option Int):=c.map λ wr=>wr.map (kdW rs)
def zcR (a:Ad):Sp:=λ vs H Q _=>∃ (vw:V) (cb:Addr) (us:List V) (bs:List (Int × Int)) (rs:List Row) (c:List zG) (p q:Addr->Prop),vs=[vw,.ref cb]/\Rep H p vw (zX a bs rs)/\H cb=some (.lst us)/\Reps H q us (c.map qc)/\(∀ wr∈c,Zi rs wr)/\(∀ r∈rs,r.ok)/\c.length<=6/\∀ t H',Same H H'->H t=none->H' t=some (.tup ((qA rs c).map oiV))->Q (.ref t) H'
theorem zb1 (T:Txt K mg a):Cal P w K mg base "kinds_in" 2 ["work","cells"] [] (zcR a):=T.k9.cal λ F=>by
 refine F.okx zac ?_ ?_
 ·walk_at "i"
 walk_at "j";refine oE8 h λ vw cb us bs rs c p q z1_=>oA8 z1_ λ z2_ hw hcb rus wk ro c6 k=>?_;clear h;subst z2_;have lu:us.length=c.length:=by rw [rus.len,ai]
 walk_at "T";refine ⟨_,(ze (zj (wY Z4 vJ (za (jY (vars:=["ware"]) (caps:=[0]) (N:=["ware","work"]) (ON:=["work","cells"]) (osc:=zf wF) rfl rfl (by first|decide +kernel|kernel_rfl) rfl rfl (qd (pq 1)) (λ s H fp pins=>(qk 0 (show (["ware","work"]:List Str).Nodup from by decide +kernel))) (λ s H fp pins=>qf) (λ s H fp pins=>(jQ (zo qL (pq 0) zv (zq _)) zv (Zt hr (za (pq 1) (za (pq 0) zc)))))) zc)))),?_⟩;walk_at "lc";walk_at "go";refine ⟨cb,rfl,.inl ⟨⟨_,SqL.of hcb⟩,λ _ _ _ _ acc hacc=>?_⟩⟩;let M1_:Nat->St->Hp->Prop:=λ j σ H'=>∃ (v0:Option V),σ=[v0,some vw]/\Same H H'/\H' acc=some (.lst ((qA rs (c.take j)).map oiV));refine qE (K:=K) (a:=cb) (xs:=us) M1_ ⟨_,iA3 rfl (zg hacc) upd_same⟩ (λ i σ H' _ h=>by obtain ⟨_,_,s,_⟩:=h;exact SqL.of (s _ _ hcb)) ?_ ?_
 ·intro j v σ H1 hj zz_;refine oE1 zz_ λ v0 z1_=>oA3 z1_ λ z2_ s1 ha=>?_;clear zz_;subst z2_;obtain ⟨d,hd,rv⟩:=rus.at hj;rw [aj,av] at hd;obtain ⟨wr,hwr,rfl⟩:=hd;have hjl:=(aa.mp hwr).1;have e:(qA rs (c.take (j + 1))).map oiV=(qA rs (c.take j)).map oiV ++ [oiV (wr.map (kdW rs))]:=by
   rw [aR,hwr];simp [qA]
  have lk:((qA rs (c.take j)).map oiV).length<=6:=by simp [qA];omega
  have sn:∀ (x:V),Same H (upd H1 acc (.lst ((qA rs (c.take j)).map oiV ++ [x]))):=λ x b o hb=>by rw [upd_ne (ne_of_none hb hacc)];exact s1 b o hb
  cases wr with
  | none =>
   have rv:Rep H q v .non:=rv;cases rv;walk_at "go";exact ⟨_,iA3 ha (zm (by omega)) ⟨_,iA3 rfl (sn _) (by rw [upd_same,e];rfl)⟩⟩
  | some x =>
   obtain ⟨tx,rfl,htx⟩:=wg (b:=x) rv;refine oE2 (wk _ (af hwr) x.1 x.2 rfl) λ jj r z1_=>oA4 z1_ λ e1 hr' hs _=>?_;have kp:0 < r.kinds.length:=by
    have ok:=ro r (af hr');unfold Row.ok at ok;rw [hs] at ok;have:=ok.2.2.2.2.1;omega
   have hw1:Rep H1 p vw (zX a bs rs):=hw.keep λ b o hb ho=>⟨hb,s1 _ _ ho⟩;have rx:Rep H1 q (.ref tx) (.tup [.int jj,.int x.2]):=by
    have:=rv.keep (H':=H1) (q:=q) λ b o hb ho=>⟨hb,s1 _ _ ho⟩;have e2:qc (some x)=.tup [.int x.1,.int x.2]:=rfl;rw [e2,e1] at this;exact this
   walk_at "go";refine uc (vU T).mono (iE5 vw (.ref tx) bs rs p (iE4 q jj x.2 r (iA7 rfl hw1 rx hr' hs kp ?_)));refine ⟨_,iA3 ha (zm (by omega)) ⟨_,iA3 rfl (sn _) ?_⟩⟩;rw [upd_same,e];show _=some (HO.lst (_ ++ [V.int (kdW rs x)]))
   unfold kdW;rw [e1,aK,hr']
   rfl
 intro σ H1 zz_;refine oE1 zz_ λ v0 z1_=>oA3 z1_ λ z2_ s1 ha=>?_;clear zz_;subst z2_;rw [lu,aS] at ha;refine iE2 acc _ ⟨rfl,.inl ⟨SqL.of ha,λ t ht=>?_⟩⟩;exact k t _ (s1.trans (zg ht)) (zK s1 ht) upd_same
def QJ (bs:List (Int × Int)) (rs:List Row) (L:Int):Prop:=∃ ns,IsLcm ns L/\∀ n,n∈ns ↔ xP bs rs n
def zfp {bs:List (Int × Int)} {rs:List Row} {L L':Int} (h:QJ bs rs L) (h':QJ bs rs L'):L=L':=by
 obtain ⟨ns,i,m⟩:=h;obtain ⟨ns',i',m'⟩:=h';have d:L ∣ L':=i.least _ λ n hn=>i'.dv n ((m' n).mpr ((m n).mp hn));have d':L' ∣ L:=i'.least _ λ n hn=>i.dv n ((m n).mpr ((m' n).mp hn));exact Int.dvd_antisymm (cE i.pos) (cE i'.pos) d d'
open Classical in
noncomputable def xO (bs:List (Int × Int)) (rs:List Row):Int:=if h:∃ L,QJ bs rs L then Classical.choose h else 1
def XG {bs:List (Int × Int)} {rs:List Row} {L:Int} (h:QJ bs rs L):L=xO bs rs:=by
 unfold xO;rw [dif_pos ⟨L,h⟩];exact zfp h (Classical.choose_spec (⟨L,h⟩:∃ L,QJ bs rs L))
noncomputable def xV (rs:List Row) (st:PSt) (j:Int):Int:=match rs[j.toNat]? with
 | some r=>(st.gone.getD j.toNat []).headD 0 % (r.kinds.length:Int)
 | none=>0
noncomputable def zbd (bs:List (Int × Int)) (rs:List Row) (st:PSt):ShK:=(some (st.turn % xO bs rs),st.cells.map (qA rs),st.sides.map some,(zP .source rs).map λ j=>some (xV rs st j))
def V2 (a:Ad):Sp:=λ vs H Q _=>∃ (vw:V) (y:Addr) (n:SN) (j:Nat) (bs:List (Int × Int)) (rs:List Row) (st:PSt) (r:Row) (p:Addr->Prop),vs=[vw,.ref y,.int j]/\Rep H p vw (zX a bs rs)/\StO a H y n st/\rs[j]?=some r/\r.wd=.source/\r.ok/\stWf bs rs st/\Q (.int (xV rs st j)) H
def VM (T:Txt K mg a):Cal P w K mg base "kind_place" 1 ["work","state","number"] [] (V2 a):=T.kj.cal λ F=>by
 refine F.okx XU ?_ ?_
 ·walk_at "i"
 walk_at "j";refine oE5 h λ vw y n j bs z1_=>oE4 z1_ λ rs st r p z2_=>oA8 z2_ λ z3_ hv so hr' hs ok wf k=>?_;clear h;subst z3_;refine oE7 (qr hv) λ yw dx fs l1 l2 bvs kvs z1_=>oA9 z1_ λ z2_ hy e1 e2 h1 h2 hB hK no=>?_;subst z2_;obtain ⟨kv,hkv,hKn⟩:=Vx hK hr';refine oE6 hKn.inv λ y1 dx1 m1 m2 m3 fs1 z1_=>oA9 z1_ λ z2_ _ _ _ _ g0 _ _ z3_=>oA5 z3_ λ _ _ _ g3 _=>?_;subst z2_;obtain ⟨g3a,g3b⟩:=g3 hs;have kp:0 < r.kinds.length:=by
  unfold Row.ok at ok;rw [hs] at ok;have:=ok.2.2.2.2.1;omega
 have hj:=(aa.mp hr').1;obtain ⟨g,hg⟩:∃ g,st.gone[j]?=some g:=⟨_,ac (by rw [wf.go.1];exact hj)⟩;have q1:=(wf.go.2 j r g hr' hg).1;have cp:=Z1 ok;obtain ⟨gh,gs,rfl⟩:=cO (ci (by omega:0 < g.length));obtain ⟨bG,hbG,hgG⟩:=VA so.hg hg;have hmap:(n.ags.map V.ref)[j]?=some (.ref bG):=by rw [aj,hbG];rfl
 have ek:xV rs st j=gh % (r.kinds.length:Int):=by
  unfold xV;rw [aK,hr',ae,hg]
  rfl
 rw [ek] at k;walk_at "T";refine ⟨_,(ze (zj (zR jA (zr (zr (zl (pq 1) rfl) (pq 2)) zd) (zJ zS zQ (za (zl (zr (zl (pq 0) rfl) (pq 2)) rfl) zc))))),?_⟩;walk_at "go";refine ra so.hy T.fH T.fQ rfl (zn (SqL.of so.hg.out) (zy hmap) (zn (SqL.of hgG) at0 ?_));walk_at "go";refine ra hy T.fK T.fJ e2 (zn (SqL.of h2) (zy hkv) ?_);refine iE5 y1 (wt a r.wd) dx1 fs1 _ (iA6 rfl g0 (CT T _) (by rw [hs];exact T.fZ) g3a ?_);refine ⟨_,.inl ⟨_,SqL.of g3b,rfl⟩,?_⟩;rw [zF];walk_at "go";exact ⟨by omega,k⟩
theorem Vf {H:Hp} {p:Addr->Prop}:∀ c:List (Option Int),Reps H p (c.map oiV) (c.map oiD)
 | []=>.nil
 | none :: c=>.cons .non (Vf c)
 | some n :: c=>.cons .int (Vf c)
def zbs {H:Hp} {t:Addr} {c:List (Option Int)} (h:H t=some (.tup (c.map oiV))):Rep H (zT H) (.ref t) (.tup (c.map oiD)):=(Vf c).mkT ⟨_,h⟩ h
def JA {H H':Hp} {v:V} {d:D} (r:Rep H (zT H) v d) (s:Same H H'):Rep H' (zT H') v d:=r.keep λ b o ⟨xs,hx⟩ hb=>⟨⟨xs,s _ _ hx⟩,s _ _ hb⟩
def Wf {H H':Hp} {vs:List V} {ds:List D} (r:Reps H (zT H) vs ds) (s:Same H H'):Reps H' (zT H') vs ds:=r.keep λ b o ⟨xs,hx⟩ hb=>⟨⟨xs,s _ _ hx⟩,s _ _ hb⟩
def zeD {wd:Wd} {rs:List Row} {m:Int} (h:m∈zP wd rs):∃ (j:Nat) (r:Row),m=j/\rs[j]?=some r/\r.wd=wd:=by
 unfold zP jn at h;obtain ⟨j,hj,rfl⟩:=aW.mp h;obtain ⟨h1,h2⟩:=cw.mp hj;have h2:=bO h2;obtain ⟨r,hr,e⟩:=av.mp h2;exact ⟨j,r,rfl,hr,e⟩
def zfB (a:Ad):Sp:=λ vs H Q _=>∃ (vw:V) (y:Addr) (n:SN) (bs:List (Int × Int)) (rs:List Row) (st:PSt) (p:Addr->Prop),vs=[vw,.ref y]/\Rep H p vw (zX a bs rs)/\StO a H y n st/\stWf bs rs st/\bs.length<=24/\rs.length<=24/\(∀ b∈bs,zu b.1 b.2)/\(∀ r∈rs,r.ok)/\∀ t H',Same H H'->Rep H' (zT H') (.ref t) (shD (zbd bs rs st))->Q (.ref t) H'
def zbZ (T:Txt K mg a):Cal P w K mg base "shape_of" 4 ["work","state"] [] (zfB a):=T.lh.cal λ F=>by
 refine F.okx zaa ?_ ?_
 ·walk_at "i"
 walk_at "j";refine oE7 h λ vw y n bs rs st p z1_=>oA9 z1_ λ z2_ hv so wf b24 r24 bo ro k=>?_;clear h;subst z2_;refine oE7 (qr hv) λ yw dx fs l1 l2 bvs kvs z1_=>oA9 z1_ λ z2_ hy e1 e2 h1 h2 hB hK no=>?_;subst z2_;walk_at "T";refine ⟨_,(zi (zx 2 zaa.nd (zR jA (zl (pq 1) rfl) (Jl ⟨rfl,rfl,rfl⟩ hr (pq 0))))  (zi (zx 3 zaa.nd (wY Z4 vJ (za (jY (vars:=["cells"]) (caps:=[0]) (N:=["cells","work"]) (ON:=["work","state","beat_place","kinds","places"]) (osc:=zf xn) rfl rfl (by first|decide +kernel|kernel_rfl) rfl rfl (qd (zl (pq 1) rfl)) (λ s H fp pins=>(qk 0 (show (["cells","work"]:List Str).Nodup from by decide +kernel))) (λ s H fp pins=>qf) (λ s H fp pins=>(Zt hr (za (pq 1) (za (pq 0) zc))))) zc)))  (zi (zx 4 zaa.nd (wY Z4 vJ (za (jY (vars:=["number"]) (caps:=[0,1]) (N:=["number","work","state"]) (ON:=["work","state","beat_place","kinds","places"]) (osc:=zf xn) rfl rfl (by first|decide +kernel|kernel_rfl) rfl rfl (qd (Jl ⟨rfl,rfl,rfl⟩ hr (pq 0))) (λ s H fp pins=>(qk 0 (show (["number","work","state"]:List Str).Nodup from by decide +kernel))) (λ s H fp pins=>qf) (λ s H fp pins=>(Zt hr (za (pq 1) (za (pq 2) (za (pq 0) zc)))))) zc)))  (ze (zj (qS (za (pq 2) (za (pq 3) (za (wY Z4 vJ (za (zl (pq 1) rfl) zc)) (za (pq 4) zc)))))))))),?_⟩;walk_at "go";refine ra so.hy T.fH T.fP rfl ?_;refine iE7 yw a.q dx fs _ _ _ (iA5 rfl hy (no _ (by decide +kernel) (by decide +kernel)) ((zaE T).mono) ?_);refine iE4 (.ref yw) bs rs p (iA7 rfl hv (by omega) (by omega) bo ro (λ L ns H1 il im s1=>?_));have lp:=il.pos;have eL:=XG ⟨ns,il,im⟩;walk_at "go";rw [eL];clear il im lp eL;have so1:=so.same s1;have hv1:Rep H1 p (.ref yw) (zX a bs rs):=hv.keep λ b o hb ho=>⟨hb,s1 _ _ ho⟩;have lc:n.acs.length=st.cells.length:=by rw [so.hc.len,qe,ai]
 have lcb:st.cells.length=bs.length:=wf.co.1;walk_at "lc";walk_at "go";refine ra so1.hy T.fH T.fI rfl ⟨n.lc,rfl,.inl ⟨⟨_,SqL.of so1.hc.out⟩,λ _ _ _ _ acc hacc=>?_⟩⟩;let M1_:Nat->St->Hp->Prop:=λ i σ H'=>∃ (v0:Option V) (us:List V),σ=[v0,some (.ref yw)]/\Same H1 H'/\H' acc=some (.lst us)/\us.length=i/\Reps H' (zT H') us ((st.cells.take i).map λ c=>.tup ((qA rs c).map oiD));refine qE (K:=K) (a:=n.lc) (xs:=n.acs.map V.ref) M1_ (iE2 _ ([]) (iA5 rfl (zg hacc) upd_same rfl (.nil))) (λ i σ H' _ h=>by obtain ⟨_,_,_,s,_⟩:=h;exact SqL.of (s _ _ so1.hc.out)) ?_ ?_
 ·intro i x σ H2 hi zz_;refine oE2 zz_ λ v0 us z1_=>oA5 z1_ λ z2_ s2 ha lu ru=>?_;clear zz_;subst z2_;rw [aj,av] at hi;obtain ⟨cb,hcb,rfl⟩:=hi;have hil:i < st.cells.length:=by rw [<- lc];exact (aa.mp hcb).1
  obtain ⟨c,ec⟩:∃ c,st.cells[i]?=some c:=⟨_,ac hil⟩;obtain ⟨vs,hvs,rvs⟩:=so1.hc.g i cb _ hcb (show (qe st.cells)[i]?=some (c.map qc) by rw [qe,aj,ec];rfl);obtain ⟨b,hb⟩:∃ b,bs[i]?=some b:=⟨_,ac (by rw [<- wf.co.1];exact hil)⟩;obtain ⟨lc6,wk⟩:=wf.co.2 i b c hb ec;have bk:=(bo b (af hb)).2.1;walk_at "go";refine uc (zb1 T).mono (iE8 (.ref yw) cb vs bs rs c p _ (iA8 rfl (hv1.keep (λ b o hb ho=>⟨hb,s2 _ _ ho⟩)) (s2 _ _ hvs) (rvs.keep (λ b o hb ho=>⟨hb,s2 _ _ ho⟩)) wk ro (by omega) (λ t H3 s3 nt ht=>?_)));have nta:∀ b,zT H3 b->b≠acc:=λ b ⟨xs,hx⟩ z=>by rw [z,s3 _ _ ha] at hx;cases hx
  refine ⟨_,iA3 (s3 _ _ ha) (zm (by omega)) (iE2 _ (us ++ [.ref t]) (iA5 rfl (λ b o hb=>by rw [upd_ne (ne_of_none hb hacc)];exact s3 _ _ (s2 b o hb)) upd_same (by simp [lu]) ?_))⟩;rw [aR,ec,a7];refine ((Wf ru s3).append (.one (zbs ht))).keep λ b o tb hb=>?_;have ne:=nta b tb;obtain ⟨xs,hx⟩:=tb;exact ⟨⟨xs,by rw [upd_ne ne];exact hx⟩,by rw [upd_ne ne];exact hb⟩
 intro σ H2 zz_;refine oE2 zz_ λ v0 us z1_=>oA5 z1_ λ z2_ s2 ha lu ru=>?_;clear zz_;subst z2_;rw [ai,lc,aS] at ru;refine iE2 acc _ ⟨rfl,.inl ⟨SqL.of ha,λ t1 ht1=>?_⟩⟩;have s3:=zg (o:=.tup us) ht1;have ru3:=Wf ru s3;have hT1:upd H2 t1 (.tup us) t1=some (.tup us):=upd_same;have s13:=s2.trans s3;generalize upd H2 t1 (.tup us)=H3 at s3 ru3 hT1 s13 ⊢;have r1:Rep H3 (zT H3) (.ref t1) (.tup ((st.cells.map (qA rs)).map λ r=>.tup (r.map oiD))):=by
  rw [dW];exact ru3.mkT ⟨_,hT1⟩ hT1
 clear ru ru3 ha hT1 s2 s3;have so3:=so1.same s13;have hv3:Rep H3 p (.ref yw) (zX a bs rs):=hv1.keep λ b o hb ho=>⟨hb,s13 _ _ ho⟩;walk_at "go";refine iE7 yw a.q dx fs _ _ _ (iA5 rfl (s13 _ _ (s1 _ _ hy)) (no _ (by decide +kernel) (by decide +kernel)) ((vC T).mono) ?_);refine iE4 (.ref yw) bs rs p (iA4 rfl hv3 (by omega) (λ q H4 s4 nq hq=>?_));have ln:=xw .source rs rs.length;have so4:=so3.same s4;have hv4:Rep H4 p (.ref yw) (zX a bs rs):=hv3.keep λ b o hb ho=>⟨hb,s4 _ _ ho⟩;refine ⟨q,rfl,.inl ⟨⟨_,SqL.of hq⟩,λ _ _ _ _ ac2 hac2=>?_⟩⟩;let M2_:Nat->St->Hp->Prop:=λ i σ H'=>∃ (v0:Option V),σ=[v0,some (.ref yw),some (.ref y)]/\Same H4 H'/\H' ac2=some (.lst ((((zP .source rs).take i).map λ j=>some (xV rs st j)).map oiV));refine qE (K:=K) (a:=q) (xs:=iv (zP .source rs)) M2_ ⟨_,iA3 rfl (zg hac2) upd_same⟩ (λ i σ H' _ h=>by obtain ⟨_,_,s,_⟩:=h;exact SqL.of (s _ _ hq)) ?_ ?_
 ·intro i x σ H5 hi zz_;refine oE1 zz_ λ v0 z1_=>oA3 z1_ λ z2_ s5 ha=>?_;clear zz_;subst z2_;obtain ⟨m,hm,rfl⟩:=ZY hi;have hil:=(aa.mp hm).1;refine oE2 (zeD (af hm)) λ jj r z1_=>oA3 z1_ λ z2_ hr' hs=>?_;subst z2_;have ln:(zP .source rs).length<=rs.length:=ln;walk_at "go";refine uc (VM T).mono (iE5 (.ref yw) y n jj bs (iE4 rs st r p (iA8 rfl (hv4.keep (λ b o hb ho=>⟨hb,s5 _ _ ho⟩)) (so4.same s5) hr' hs (ro r (af hr')) wf ?_)));refine ⟨_,iA3 ha (zm (by rw [ai,ai,aT];omega)) ⟨_,iA3 rfl (λ b o hb=>by rw [upd_ne (ne_of_none hb hac2)];exact s5 b o hb) ?_⟩⟩;rw [upd_same,aR,hm];simp [oiV]
 intro σ H5 zz_;refine oE1 zz_ λ v0 z1_=>oA3 z1_ λ z2_ s5 ha=>?_;clear zz_;subst z2_;rw [zF,aS] at ha;refine iE2 ac2 _ ⟨rfl,.inl ⟨SqL.of ha,λ t2 ht2=>?_⟩⟩;have s6:=zg (o:=.tup (((zP .source rs).map λ j=>some (xV rs st j)).map oiV)) ht2;have hT2:upd H5 t2 (.tup (((zP .source rs).map λ j=>some (xV rs st j)).map oiV)) t2=some (.tup (((zP .source rs).map λ j=>some (xV rs st j)).map oiV)):=upd_same;have s36:=(s4.trans s5).trans s6;generalize upd H5 t2 (.tup (((zP .source rs).map λ j=>some (xV rs st j)).map oiV))=H6 at s36 hT2 ⊢;have so6:=so3.same s36;walk_at "go";refine ra so6.hy T.fH T.fW rfl (iE2 n.ls _ ⟨rfl,.inl ⟨SqL.of so6.hs,λ t3 ht3=>?_⟩⟩);intro t4 ht4;have s7:=zg (o:=.tup (iv st.sides)) ht3;have hT3:upd H6 t3 (.tup (iv st.sides)) t3=some (.tup ((st.sides.map some).map oiV)):=by rw [upd_same,dW];rfl
 generalize upd H6 t3 (.tup (iv st.sides))=H7 at s7 hT3 ht4 ⊢;have s8:=zg (o:=.tup [.int (st.turn % xO bs rs),.ref t1,.ref t3,.ref t2]) ht4;have hT4:upd H7 t4 (.tup [.int (st.turn % xO bs rs),.ref t1,.ref t3,.ref t2]) t4=some (.tup [.int (st.turn % xO bs rs),.ref t1,.ref t3,.ref t2]):=upd_same;generalize upd H7 t4 (.tup [.int (st.turn % xO bs rs),.ref t1,.ref t3,.ref t2])=H8 at s8 hT4 ⊢;refine k t4 H8 ((s1.trans s13).trans (s36.trans (s7.trans s8))) ?_;exact Reps.mkT (vs:=[.int (st.turn % xO bs rs),.ref t1,.ref t3,.ref t2]) (.cons .int (.cons (JA r1 (s36.trans (s7.trans s8))) (.cons (JA (zbs hT3) s8) (.cons (JA (zbs hT2) (s7.trans s8)) .nil)))) ⟨_,hT4⟩ hT4
noncomputable abbrev qi (bs:List (Int × Int)) (rs:List Row) (i:Nat):ShK:=zbd bs rs (zk bs rs i)
structure RoundAt (bs:List (Int × Int)) (rs:List Row) (lim i j:Nat):Prop where
 lt:i < j
 le:j<=lim
 eq:qi bs rs i=qi bs rs j
 fst:∀ x y,x < y->y < j->qi bs rs x≠qi bs rs y
def jO (bs:List (Int × Int)) (rs:List Row) (lim:Nat):Prop:=∀ x y,x < y->y<=lim->qi bs rs x≠qi bs rs y
def RoundAt.one {bs:List (Int × Int)} {rs:List Row} {lim lim' i j i' j':Nat} (h:RoundAt bs rs lim i j) (h':RoundAt bs rs lim' i' j'):i=i'/\j=j':=by
 have ej:j=j':=by
  rcases bR j j' with z|z|z
  ·exact absurd h.eq (h'.fst i j h.lt z)
  ·exact z
  ·exact absurd h'.eq (h.fst i' j' h'.lt z)
 subst ej;refine ⟨?_,rfl⟩;rcases bR i i' with z|z|z
 ·exact absurd (h.eq.trans h'.eq.symm) (h.fst i i' z h'.lt)
 ·exact z
 ·exact absurd (h'.eq.trans h.eq.symm) (h.fst i' i z h.lt)
def RoundAt.no {bs:List (Int × Int)} {rs:List Row} {lim i j:Nat} (h:RoundAt bs rs lim i j):¬ jO bs rs lim:=λ z=>z i j h.lt h.le h.eq
def Nxt (H H':Hp):Prop:=∀ b u,H b=some u->(∀ φ,u≠.ext φ)->H' b=some u
def Same.nxt {H H':Hp} (s:Same H H'):Nxt H H':=λ b u hb _=>s b u hb
def Nxt.trans {H H' H2:Hp} (a:Nxt H H') (b:Nxt H' H2):Nxt H H2:=λ c u hc n=>b c u (a c u hc n) n
def zf5 {H:Hp} {D:Addr} {φ:Heap->Prop} {o:HO} (h:H D=some (.ext φ)):Nxt H (upd H D o):=λ b u hb n=>by
 rw [upd_ne (λ z=>by rw [z,h] at hb;cases hb;exact n φ rfl)];exact hb
def zeF {H H':Hp} {G:Addr} {as:List Addr} {xss:List (List D)} (h:NL H (zT H) G as xss) (s:Nxt H H'):NL H' (zT H') G as xss:=by
 refine h.tup λ b o c hb=>s b o hb λ φ z=>?_;subst z;rcases c with c|c|⟨xs,c⟩
 ·rw [c,h.out] at hb;cases hb
 ·obtain ⟨vs,hv⟩:=h.isl (aG _ c);rw [hv] at hb;cases hb
 ·rw [c] at hb;cases hb
def StO.nxt {H H':Hp} {y:Addr} {n:SN} {st:PSt} (h:StO a H y n st) (s:Nxt H H'):StO a H' y n st:=⟨s _ _ h.hy (λ φ z=>by cases z),zeF h.hc s,s _ _ h.hs (λ φ z=>by cases z),zeF h.hg s,h.nd⟩
def zfx {H H':Hp} {v:V} {d:D} (r:Rep H (zT H) v d) (s:Nxt H H'):Rep H' (zT H') v d:=r.keep λ b o ⟨xs,hx⟩ hb=>by
 have e:=s b _ hx (λ φ z=>by cases z);rw [hx] at hb;cases hb;exact ⟨⟨xs,e⟩,e⟩
structure SD (a:Ad) (H:Hp) (bs:List (Int × Int)) (rs:List Row) (xs:List (ShK × Addr × Addr)) (t:Nat):Prop where
 len:xs.length=t
 at':∀ (i:Nat) x,xs[i]?=some x->x.1=qi bs rs i/\Rep H (zT H) (.ref x.2.1) (shD x.1)/\∃ n,StO a H x.2.2 n (zk bs rs i)
 fst:∀ x y,x < y->y < t->qi bs rs x≠qi bs rs y
def SD.nxt {H H':Hp} {bs:List (Int × Int)} {rs:List Row} {xs:List (ShK × Addr × Addr)} {t:Nat} (h:SD a H bs rs xs t) (s:Nxt H H'):SD a H' bs rs xs t:=⟨h.len,λ i x e=>by
 obtain ⟨e1,r,n,so⟩:=h.at' i x e;exact ⟨e1,zfx r s,n,so.nxt s⟩,h.fst⟩
def SD.keys {H:Hp} {bs:List (Int × Int)} {rs:List Row} {xs:List (ShK × Addr × Addr)} {t:Nat} (h:SD a H bs rs xs t):keysOk H xs:=λ x hx=>by
 obtain ⟨i,hi⟩:=bh hx;exact ⟨_,(h.at' i x hi).2.1⟩
def SD.look {H:Hp} {bs:List (Int × Int)} {rs:List Row} {xs:List (ShK × Addr × Addr)} {t:Nat} {k:ShK} {y:Addr} (h:SD a H bs rs xs t) (e:xI xs k=some y):∃ i n,i < t/\qi bs rs i=k/\StO a H y n (zk bs rs i):=by
 unfold xI at e;obtain ⟨x,hx,rfl⟩:=av.mp e;have hk:x.1=k:=by
  have:=List.find?_some hx;simpa using this
 obtain ⟨i,hi⟩:=bh (List.mem_of_find?_eq_some hx);obtain ⟨e1,_,n,so⟩:=h.at' i x hi;exact ⟨i,n,by rw [<- h.len];exact (aa.mp hi).1,e1.symm.trans hk,so⟩
def SD.new {H:Hp} {bs:List (Int × Int)} {rs:List Row} {xs:List (ShK × Addr × Addr)} {t:Nat} {k:ShK} (h:SD a H bs rs xs t) (e:xI xs k=none):∀ i,i < t->qi bs rs i≠k:=λ i hi z=>by
 obtain ⟨x,hx⟩:∃ x,xs[i]?=some x:=⟨_,ac (by rw [h.len];exact hi)⟩;unfold xI at e;rw [cD,List.find?_eq_none] at e;exact e x (af hx) (aJ ((h.at' i x hx).1.trans z))
def SD.add {H:Hp} {bs:List (Int × Int)} {rs:List Row} {xs:List (ShK × Addr × Addr)} {t:Nat} {b y:Addr} {n:SN} (h:SD a H bs rs xs t) (e:xI xs (qi bs rs t)=none) (r:Rep H (zT H) (.ref b) (shD (qi bs rs t))) (so:StO a H y n (zk bs rs t)):SD a H bs rs (xs ++ [(qi bs rs t,b,y)]) (t + 1):=by
 refine ⟨by simp [h.len],λ i x hx=>?_,λ u v huv hv=>?_⟩
 ·by_cases hi:i < xs.length
  ·rw [aQ hi] at hx;exact h.at' i x hx
  ·rw [aM (by omega)] at hx;have hz:=(aa.mp hx).1;have:i=t:=by simp at hz;have:=h.len;omega
   subst this;rw [h.len,Nat.sub_self] at hx;cases hx;exact ⟨rfl,r,n,so⟩
 ·rcases Nat.lt_or_ge v t with z|z
  ·exact h.fst u v huv z
  ·have:v=t:=by omega
   subst this;exact h.new e u huv
def VZ (a:Ad):Sp:=λ vs H Q E=>∃ (vw:V) (lim:Nat) (bs:List (Int × Int)) (rs:List Row),vs=[vw,.int lim]/\Rep H (Off []) vw (zX a bs rs)/\zH bs rs/\(∀ b∈bs,zu b.1 b.2)/\(∀ r∈rs,r.ok)/\lim<=1000 /\
 (∀ i j t y0 y1 n0 n1 H',RoundAt bs rs lim i j->Same H H'->H' t=some (.tup [.ref y0,.ref y1])->StO a H' y0 n0 (zk bs rs i)->StO a H' y1 n1 (zk bs rs j)->Q (.ref t) H') /\
 (jO bs rs lim->∀ H',Same H H'->E (.ref a.f) none H')
theorem VL (T:Txt K mg a):Cal P w K mg base "round_ends" 8 ["work","limit"] [] (VZ a):=T.ko.cal λ F=>by
 refine F.okx XT ?_ ?_
 ·walk_at "i"
 walk_at "j";refine oE4 h λ vw lim bs rs z1_=>oA8 z1_ λ z2_ hv wok bo ro l1000 kQ kE=>?_;clear h;subst z2_;have b24:=wok.1.1.2;have r24:=wok.1.2.2;walk_at "T";refine ⟨_,(zh (zx 2 XT.nd (zt ⟨rfl,rfl,rfl⟩ hr (za (pq 0) zc)))  (zh (zx 3 XT.nd zfX)  (qJ (qK ji rfl (wN (za (zR qq (pq 1) zd) zc)) (qk 4 XT.nd)  (zh (zx 5 XT.nd (zt ⟨rfl,rfl,rfl⟩ hr (za (pq 0) (za (pq 2) zc))))  (zh (zD (zhb (zhi hr.units1 (pq 5) (pq 3)) (by with_unfolding_all rfl))  (ze (zj (qS (za (zfY hr.units1 (pq 3) (pq 5) (λ _ _=>rfl)) (za (pq 2) zc)))))  zp)  (zh (zfV hr.units1 (pq 3) (pq 5) (pq 2) rfl)  (ze (zx 2 XT.nd (zt ⟨rfl,rfl,rfl⟩ hr (za (pq 0) (za (pq 2) zc)))))))))  (ze (qP ⟨rfl,rfl,rfl⟩ rfl (za qT zc)))))),?_⟩;walk_at "go";refine uc (Zh T).mono (iE4 vw bs rs _ (iA7 rfl hv b24 r24 bo ro (λ v' H1 s1 sn=>?_)));refine oE2 sn λ y nn z1_=>oA5 z1_ λ z2_ so _ _ _=>?_;clear sn;subst z2_;walk_at "go";intro D hD;have sD:=zg (o:=sdO P w D []) hD;have nD:H D=none:=zK s1 hD;have s2:=s1.trans sD;have so2:=so.same sD;have hD2:upd H1 D (sdO P w D []) D=some (sdO P w D []):=upd_same;generalize upd H1 D (sdO P w D [])=H2 at s2 so2 hD2 ⊢;clear so s1 sD hD;walk_at "go";let M1_:St->Hp->Prop:=λ σ' H'=>∃ (v2 v4 v5:Option V),σ'=[some vw,some (.int lim),v2,some (.ref D),v4,v5]/\Same H H'/\jO bs rs lim;refine cut M1_ ?_ ?_
 ·walk_at "for";walk_at "go";refine ⟨by omega,by omega,?_⟩;refine Zd (n:=((lim:Int) + 1).toNat) (λ t σ H'=>∃ (v4 v5:Option V) (y:Addr) (n:SN) (xs:List (ShK × Addr × Addr)),σ=[some vw,some (.int lim),some (.ref y),some (.ref D),v4,v5]/\Same H H'/\H' D=some (sdO P w D xs)/\StO a H' y n (zk bs rs t)/\SD a H' bs rs xs t) (iE5 _ _ y nn ([]) (iA5 rfl s2 hD2 so2 ⟨rfl,λ i x e=>by simp at e,λ x y _ z=>absurd z (bn _)⟩)) ?_ ?_
  ·clear so2 hD2 s2;intro t σ H3 ht zz_;refine oE5 zz_ λ v4 v5 y n xs z1_=>oA5 z1_ λ z2_ s3 hD3 so3 sd3=>?_;clear zz_;subst z2_;have ht':t<=lim:=by omega
   have lx:=sd3.len;walk_at "go";refine uc (zbZ T).mono (iE7 vw y n bs rs (zk bs rs t) _ (iA9 rfl (hv.same s3) so3 (qb wok bo ro t) b24 r24 bo ro (λ b H4 s4 r4=>?_)));have hD4:=s4 _ _ hD3;have so4:=so3.same s4;have sd4:=sd3.nxt (Same.nxt s4);have s04:=s3.trans s4;clear hD3 so3 sd3 s3 s4;walk_at "go";refine iE5 D b xs _ _ (iA6 rfl rfl hD4 sd4.keys r4 ?_);cases el:xI xs (qi bs rs t) with
   | some y0 =>
    refine oE2 (sd4.look el) λ i n0 z1_=>oA3 z1_ λ hi ei so0=>?_;walk_at "go";refine iE6 D b xs _ _ y0 (iA7 rfl rfl hD4 sd4.keys r4 el (λ q hq=>?_));have sq:=zg (o:=.tup [.ref y0,.ref y]) hq;exact kQ i t q y0 y n0 n _ ⟨hi,ht',ei,sd4.fst⟩ (s04.trans sq) upd_same (so0.same sq) (so4.same sq)
   | none =>
    walk_at "go";refine iE6 D b xs _ _ y (iA9 rfl rfl rfl hD4 sd4.keys r4 el (zm (by omega)) ?_);have nx:Nxt H4 (upd H4 D (sdO P w D (xs ++ [(qi bs rs t,b,y)]))):=zf5 hD4;have so5:=so4.nxt nx;have sd5:=(sd4.add el r4 so4).nxt nx;have hD5:upd H4 D (sdO P w D (xs ++ [(qi bs rs t,b,y)])) D=some (sdO P w D (xs ++ [(qi bs rs t,b,y)])):=upd_same;have s5:Same H (upd H4 D (sdO P w D (xs ++ [(qi bs rs t,b,y)]))):=λ c u hc=>by rw [upd_ne (ne_of_none hc nD)];exact s04 c u hc
    generalize upd H4 D (sdO P w D (xs ++ [(qi bs rs t,b,y)]))=H5 at so5 sd5 hD5 s5 ⊢;walk_at "go";refine uc (zb0 T).mono (iE6 vw (.ref y) (zk bs rs t) bs rs _ (iA8 rfl (hv.same s5) so5.rep (qb wok bo ro t) wok bo ro (λ v' H6 s6 sn=>?_)));refine oE2 sn λ y2 n2 z1_=>oA3 z1_ λ z2_ so6 _=>?_;clear sn;subst z2_;exact iE5 _ _ y2 n2 _ (iA5 rfl (s5.trans s6) (s6 _ _ hD5) so6 (sd5.nxt (Same.nxt s6)))
  ·intro σ H3 zz_;refine oE5 zz_ λ v4 v5 y n xs z1_=>oA5 z1_ λ z2_ s3 hD3 so3 sd3=>?_;clear zz_;subst z2_;exact iE3 _ _ _ (iA3 rfl s3 (λ x y hxy hy=>sd3.fst x y hxy (by omega)))
 intro σ' H3 zz_;refine oE3 zz_ λ v2 v4 v5 z1_=>oA3 z1_ λ z2_ s3 nr=>?_;clear zz_;subst z2_;walk_at "go";exact ⟨a.f,iA3 T.gg T.lV (kE nr H3 s3)⟩
noncomputable def QS (old new:List Int):List Int:=(List.range old.length).map λ p=>new.getD p 0 - old.getD p 0
noncomputable def wp (gs0 gs1:List (List Int)):List (List Int):=List.zipWith QS gs0 gs1
def zdx {gs0 gs1:List (List Int)} {i:Nat} {g0 g1:List Int} (h0:gs0[i]?=some g0) (h1:gs1[i]?=some g1):wp (gs0.take (i + 1)) (gs1.take (i + 1))=wp (gs0.take i) (gs1.take i) ++ [QS g0 g1]:=by
 unfold wp;rw [aR,aR,h0,h1];have l0:=(aa.mp h0).1;have l1:=(aa.mp h1).1;rw [List.zipWith_append (by rw [aT,aT];omega)]
 rfl
def zd8 (a:Ad):Sp:=λ vs H Q _=>∃ (y0 y1:Addr) (n0 n1:SN) (s0 s1:PSt),vs=[.ref y0,.ref y1]/\StO a H y0 n0 s0/\StO a H y1 n1 s1/\s0.gone.length=s1.gone.length/\s0.gone.length<=24/\(∀ (i:Nat) g0 g1,s0.gone[i]?=some g0->s1.gone[i]?=some g1->g0.length=g1.length/\g0.length<=4) /\
 ∀ l as H',Same H H'->NL H' (zT H') l as (qw (wp s0.gone s1.gone))->(∀ b∈l :: as,H b=none)->Q (.ref l) H'
def zaV (T:Txt K mg a):Cal P w K mg base "growth_of" 1 ["before","after"] [] (zd8 a):=T.kO.cal λ F=>by
 refine F.okx WZ ?_ ?_
 ·walk_at "i"
 walk_at "j";refine oE6 h λ y0 y1 n0 n1 s0 s1 z1_=>oA7 z1_ λ z2_ so0 so1 le l24 lg k=>?_;clear h;subst z2_;have la0:n0.ags.length=s0.gone.length:=by rw [so0.hg.len,qw,ai]
 have la1:n1.ags.length=s0.gone.length:=by rw [so1.hg.len,qw,ai,le]
 walk_at "T";refine ⟨_,(zi (zx 2 WZ.nd (zC zc))  (zi (qK ji rfl (zhd (za (zl (pq 0) rfl) (za (zl (pq 1) rfl) zc))) (Zr (n:=2) rfl (qu (Vk (i:=3) WZ.nd rfl (Or.inr rfl)) (qu (Vk (i:=4) WZ.nd rfl (Or.inr rfl)) wO)))  (ze (zA (qQ ap aC aB zU (pq 2) (za (jY (vars:=["place"]) (caps:=[4,3]) (N:=["place","new","old"]) (ON:=["before","after","growth","old","new"]) (osc:=zf xD) rfl rfl (by first|decide +kernel|kernel_rfl) rfl rfl (wN (za (zJ zS zQ (za (pq 3) zc)) zc)) (λ s H fp pins=>(qk 0 (show (["place","new","old"]:List Str).Nodup from by decide +kernel))) (λ s H fp pins=>qf) (λ s H fp pins=>(zR Vm (zr (pq 1) (pq 0)) (zr (pq 2) (pq 0))))) zc)))))  (ze (zj (pq 2))))),?_⟩;walk_at "go";intro l hl;have sl:=zg (o:=.lst []) hl;have nl0:NL (upd H l (.lst [])) (zT (upd H l (.lst []))) l [] (qw (wp (s0.gone.take 0) (s1.gone.take 0))):=zbA upd_same;generalize upd H l (.lst [])=H1 at sl nl0 ⊢;have so10:=so0.same sl;have so11:=so1.same sl;walk_at "for";walk_at "go";refine ra so10.hy T.fH T.fQ rfl (ra so11.hy T.fH T.fQ rfl (iE6 true true n0.lg n1.lg _ _ (iA4 rfl (SqL.of so10.hg.out) (SqL.of so11.hg.out) ?_)));let M1_:Nat->St->Hp->Prop:=λ i σ H'=>∃ (v3 v4:Option V) (as:List Addr),σ=[some (.ref y0),some (.ref y1),some (.ref l),v3,v4]/\Same H H'/\NL H' (zT H') l as (qw (wp (s0.gone.take i) (s1.gone.take i)))/\∀ b∈as,H b=none;refine zif (K:=K) (xs:=n0.ags.map V.ref) (ys:=n1.ags.map V.ref) M1_ (iE3 _ _ ([]) (iA4 rfl sl nl0 (by simp))) (λ i σ H' _ h=>by obtain ⟨_,_,_,_,s,_⟩:=h;exact ⟨SqL.of (s _ _ so0.hg.out),SqL.of (s _ _ so1.hg.out)⟩) ?_ ?_
 ·intro i x z t σ H2 hi hj ht zz_;refine oE3 zz_ λ v3 v4 as z1_=>oA4 z1_ λ z2_ s2 nl2 fa=>?_;clear zz_;subst z2_;rw [aj,av] at hi hj;obtain ⟨b0,hb0,rfl⟩:=hi;obtain ⟨b1,hb1,rfl⟩:=hj;have hil:i < s0.gone.length:=by rw [<- la0];exact (aa.mp hb0).1
  obtain ⟨g0,e0⟩:∃ g,s0.gone[i]?=some g:=⟨_,ac hil⟩;obtain ⟨g1,e1⟩:∃ g,s1.gone[i]?=some g:=⟨_,ac (by rw [<- le];exact hil)⟩;obtain ⟨lg1,lg4⟩:=lg i g0 g1 e0 e1;obtain ⟨c0,q0,h0⟩:=VA so0.hg e0;obtain ⟨c1,q1,h1⟩:=VA so1.hg e1;rw [hb0] at q0;cases q0;rw [hb1] at q1;cases q1;have st:=zg (o:=.tup [.ref b0,.ref b1]) ht;have s3:=s2.trans st;have nl3:=nl2.tup (H':=upd H2 t (.tup [.ref b0,.ref b1])) λ b o _ hb=>st b o hb;refine un2 upd_same ?_;generalize upd H2 t (.tup [.ref b0,.ref b1])=H3 at s3 nl3 ⊢;have las:as.length<=24:=by rw [nl3.len,qw,ai,wp,fq,aT,aT];omega
  walk_at "go";refine ⟨.inl ⟨rfl,_,SqL.of nl3.out⟩,?_⟩;walk_at "lc";walk_at "go";refine ⟨_,.inl ⟨_,SqL.of (s3 _ _ h0),rfl⟩,?_⟩;rw [zF];walk_at "go";refine ⟨by omega,by omega,λ _ _ _ _ acc hacc=>?_⟩;let M2_:Nat->St->Hp->Prop:=λ j σ H'=>∃ (v0:Option V),σ=[v0,some (.ref b1),some (.ref b0)]/\Same H3 H'/\H' acc=some (.lst (iv ((List.range j).map λ p=>g1.getD p 0 - g0.getD p 0)));refine Zd (n:=((g0.length:Int)).toNat) M2_ ⟨_,iA3 rfl (zg hacc) upd_same⟩ ?_ ?_
  ·intro j σ H4 hj zz_;refine oE1 zz_ λ v0 z1_=>oA3 z1_ λ z2_ s4 ha=>?_;clear zz_;subst z2_;have hjl:j < g0.length:=by omega
   walk_at "go";simp only [dc];refine zn (SqL.of (s4 _ _ (s3 _ _ h1))) (zy (qM (jf (d:=0) (by omega:j < g1.length)))) (zn (SqL.of (s4 _ _ (s3 _ _ h0))) (zy (qM (jf (d:=0) hjl))) ?_);walk_at "go";refine ⟨_,iA3 ha (zm (by rw [zF,ai,List.length_range];omega)) ⟨_,iA3 rfl (λ b o hb=>by rw [upd_ne (ne_of_none hb hacc)];exact s4 b o hb) ?_⟩⟩;rw [upd_same,je,eR,a7]
   rfl
  intro σ H4 zz_;refine oE1 zz_ λ v0 z1_=>oA3 z1_ λ z2_ s4 ha=>?_;clear zz_;subst z2_;rw [show ((g0.length:Int)).toNat=g0.length by omega] at ha;have nl4:=nl3.tup (H':=H4) λ b o _ hb=>s4 b o hb;have nb:acc ∉ as:=λ z=>by
   obtain ⟨vs,h⟩:=nl3.isl (aG _ z);rw [hacc] at h;cases h
  have nG:acc≠l:=λ z=>by rw [z,nl3.out] at hacc;cases hacc
  have ntG:¬ zT H4 l:=λ ⟨xs,hx⟩=>by rw [nl4.out] at hx;cases hx
  refine iE3 l _ _ (iA5 rfl rfl nl4.out (zm (by rw [ai];omega)) ?_);have np:=nl4.push (b:=acc) (vs:=iv (QS g0 g1)) (ys:=(QS g0 g1).map D.int) ha nb nG ntG reps_ints;refine iE3 _ _ (as ++ [acc]) (iA4 rfl (λ b o hb=>by rw [upd_ne (ne_of_none hb hl)];exact s4 _ _ (s3 _ _ hb)) ?_ (λ b hb=>?_))
  ·rw [zdx e0 e1,show qw (wp (s0.gone.take i) (s1.gone.take i) ++ [QS g0 g1])=qw (wp (s0.gone.take i) (s1.gone.take i)) ++ [(QS g0 g1).map D.int] by simp [qw]];refine np.keep (λ _ _ _ hc=>hc) λ c hc _=>?_;obtain ⟨xs,hx⟩:=hc;exact ⟨xs,by rw [upd_ne (λ z=>by rw [z,nl4.out] at hx;cases hx)];exact hx⟩
  ·rcases aD.mp hb with hb|hb
   ·exact fa b hb
   ·rw [ay.mp hb];exact zK s3 hacc
 ·intro σ H2 zz_;refine oE3 zz_ λ v3 v4 as z1_=>oA4 z1_ λ z2_ s2 nl2 fa=>?_;clear zz_;subst z2_;rw [ai,ai,la0,la1,Nat.min_self,aS,show List.take s0.gone.length s1.gone=s1.gone by rw [le];exact aS] at nl2;walk_at "go";refine k l as _ s2 nl2 λ b hb=>?_;rcases ax.mp hb with rfl|hb
  ·exact hl
  ·exact fa b hb
def VV {st:PSt} {k:Nat} {fb:Option Int}:(qF st k fb).2.turn=st.turn/\(qF st k fb).2.sides=st.sides/\(qF st k fb).2.gone=st.gone:=by
 cases fb <;> exact ⟨rfl,rfl,rfl⟩
def zat {st:PSt} {x:zG} {tb:Option Int}:(Qt st x tb).turn=st.turn/\(Qt st x tb).sides=st.sides/\(Qt st x tb).gone=st.gone:=by
 cases tb <;> exact ⟨rfl,rfl,rfl⟩
def movedF_keep {r:Row} {st:PSt} {k:Nat} {ch:Option Nat × Option Nat × Nat}:(movedF r st k ch).turn=st.turn/\(movedF r st k ch).sides=st.sides/\(movedF r st k ch).gone=st.gone:=by
 obtain ⟨a1,a2,a3⟩:=VV (st:=st) (k:=k) (fb:=xj r ch);obtain ⟨b1,b2,b3⟩:=zat (st:=(qF st k (xj r ch)).2) (x:=(qF st k (xj r ch)).1) (tb:=Z9 r ch);exact ⟨b1.trans a1,b2.trans a2,b3.trans a3⟩
def qD {α:Type} {xs:List α} {k j:Nat} {x d:α} (h:k≠j):(xs.set k x).getD j d=xs.getD j d:=by
 rw [ae,ae,bg h]
theorem zdR (rs:List Row) (st:PSt) (k:Nat):(qO rs st k).1.turn=st.turn/\∀ j,k < j->(qO rs st k).1.sides.getD j 0=st.sides.getD j 0/\(qO rs st k).1.gone.getD j []=st.gone.getD j []:=by
 unfold qO;cases rs[k]? with
 | none=>exact ⟨rfl,λ _ _=>⟨rfl,rfl⟩⟩
 | some r =>
  simp only;cases zO r (z8 rs st.cells r) (qB st.cells r) st.turn (st.sides.getD k 0).toNat with
  | none=>exact ⟨rfl,λ _ _=>⟨rfl,rfl⟩⟩
  | some ch =>
   obtain ⟨c1,c2,c3⟩:=movedF_keep (r:=r) (st:=st) (k:=k) (ch:=ch);refine ⟨c1,λ j hj=>⟨?_,?_⟩⟩
   ·show ((movedF r st k ch).sides.set k _).getD j 0=_
    rw [qD (by omega),c2]
   ·show ((movedF r st k ch).gone.set k _).getD j []=_
    rw [qD (by omega),c3]
theorem QX (rs:List Row) (st:PSt):∀ i,(zw rs st i).1.turn=st.turn/\∀ j,i<=j->(zw rs st i).1.sides.getD j 0=st.sides.getD j 0/\(zw rs st i).1.gone.getD j []=st.gone.getD j []
 | 0=>⟨rfl,λ _ _=>⟨rfl,rfl⟩⟩
 | i + 1=>by
  obtain ⟨h1,h2⟩:=QX rs st i;obtain ⟨g1,g2⟩:=zdR rs (zw rs st i).1 i;refine ⟨g1.trans h1,λ j hj=>?_⟩;obtain ⟨a1,a2⟩:=h2 j (by omega);obtain ⟨b1,b2⟩:=g2 j (by omega);exact ⟨b1.trans a1,b2.trans a2⟩
theorem jc (bs:List (Int × Int)) (rs:List Row):∀ n,(zk bs rs n).turn=n
 | 0=>rfl
 | n + 1=>by
  show (zw rs (zk bs rs n) rs.length).1.turn + 1=_
  rw [(QX rs (zk bs rs n) rs.length).1,jc bs rs n]
  rfl
def zgs (g:List Int) (j p:Nat):g.getD p 0<=(Wc g j).getD p 0:=by
 unfold Wc;by_cases e:j=p
 ·subst e;by_cases h:j < g.length
  ·rw [ae (l:=g.set _ _),aN h];show _<=g.getD j 0 + 1
   omega
  ·rw [cV (by omega)];exact bU _
 ·rw [qD e];exact bU _
theorem zaX (rs:List Row) (st:PSt) (k i p:Nat):(st.gone.getD i []).getD p 0<=((qO rs st k).1.gone.getD i []).getD p 0:=by
 unfold qO;cases rs[k]? with
 | none=>exact bU _
 | some r =>
  simp only;cases zO r (z8 rs st.cells r) (qB st.cells r) st.turn (st.sides.getD k 0).toNat with
  | none=>exact bU _
  | some ch =>
   obtain ⟨c1,c2,c3⟩:=movedF_keep (r:=r) (st:=st) (k:=k) (ch:=ch);show _<=(((movedF r st k ch).gone.set k _).getD i []).getD p 0
   rw [c3];by_cases e:k=i
   ·subst e;by_cases h:k < st.gone.length
    ·rw [ae (l:=st.gone.set _ _),aN h];exact zgs _ _ _
    ·rw [cV (by omega)];exact bU _
   ·rw [qD e];exact bU _
theorem QH (rs:List Row) (st:PSt) (i p:Nat):∀ m,(st.gone.getD i []).getD p 0<=((zw rs st m).1.gone.getD i []).getD p 0
 | 0=>bU _
 | m + 1=>eP (QH rs st i p m) (zaX rs _ m i p)
theorem Qs (bs:List (Int × Int)) (rs:List Row) (n i p:Nat):∀ m,((zk bs rs n).gone.getD i []).getD p 0<=((zk bs rs (n + m)).gone.getD i []).getD p 0
 | 0=>bU _
 | m + 1=>eP (Qs bs rs n i p m) (QH rs (zk bs rs (n + m)) i p rs.length)
noncomputable def jh (bs:List (Int × Int)) (rs:List Row) (i j:Nat):List (List Int):=wp (zk bs rs i).gone (zk bs rs j).gone
def zdy {bs:List (Int × Int)} {rs:List Row} {s0 s1:PSt} (ro:∀ r∈rs,r.ok) (w0:stWf bs rs s0) (w1:stWf bs rs s1):s0.gone.length=s1.gone.length/\∀ (i:Nat) g0 g1,s0.gone[i]?=some g0->s1.gone[i]?=some g1->g0.length=g1.length/\g0.length<=4:=by
 refine ⟨by rw [w0.go.1,w1.go.1],λ i g0 g1 e0 e1=>?_⟩;have hi:=(aa.mp e0).1;obtain ⟨r,hr⟩:∃ r,rs[i]?=some r:=⟨_,ac (by rw [<- w0.go.1];exact hi)⟩;have q0:=(w0.go.2 i r g0 hr e0).1;have q1:=(w1.go.2 i r g1 hr e1).1;have rl:=vo (ro r (af hr));refine ⟨by omega,?_⟩;rw [q0];have:=bb (n:=max r.ins.length r.outs.length) (a:=(0:Int));show (qC r).length<=4
 unfold qC;rw [bb];omega
def zd3 (a:Ad) (R:List (Int × Int)->List Row->Nat->Nat->Hp->V->Hp->Prop):Sp:=λ vs H Q E=>∃ (vw:V) (lim:Nat) (bs:List (Int × Int)) (rs:List Row),vs=[vw,.int lim]/\Rep H (Off []) vw (zX a bs rs)/\zH bs rs/\(∀ b∈bs,zu b.1 b.2)/\(∀ r∈rs,r.ok)/\lim<=1000 /\
 (∀ i j v H',RoundAt bs rs lim i j->Same H H'->R bs rs i j H v H'->Q v H')/\(jO bs rs lim->∀ H',Same H H'->E (.ref a.f) none H')
noncomputable def jD (ns:List Int) (k:Nat):Int:=ns.getD k 0
def zg2 (K:PySem.W.Frag):Sp:=λ vs H Q _=>∃ (l:Addr) (ns:List Int) (k:Nat),vs=[.ref l,.int k]/\SqL K H l (iv ns)/\Q (.int (jD ns k)) H
def jk (T:Txt K mg a):Cal P w K mg base "_law_cell" 1 ["_law_cells","_law_k"] [] (zg2 K):=T.l5.cal λ F=>by
 refine F.okx zc0 ?_ ?_
 ·walk_at "i"
 walk_at "k";refine oE3 h λ l ns n z1_=>oA3 z1_ λ z2_ hl k=>?_;clear h;subst z2_;walk_at "T";refine ⟨_,(zi (zD (zo zez (pq 1) (zJ zS zQ (za (pq 0) zc)) (zq _))  (ze (zj (zr (pq 0) (pq 1))))  zp)  (ze (zj zd))),?_⟩;walk_at "go";refine ⟨_,.inl ⟨_,hl,rfl⟩,?_⟩;walk_at "r";rw [zF];refine zI (λ h=>?_) (λ h=>?_)
 ·have h:n < ns.length:=by omega
  refine zn hl (zy (qM (ac h))) ?_;have e:ns[n]=jD ns n:=by simp [jD,h]
  rw [e];exact k
 ·have e:jD ns n=0:=by
   have h:ns.length<=n:=by omega
   simp [jD,h]
  rw [e] at k;walk_at "r";exact k
def zgZ:Sp:=λ vs H Q _=>∃ n p m:Int,vs=[.int n,.int p,.int m]/\0 < p/\0 < m/\∀ r,0<=r->r < m->Q (.int r) H
def qp (T:Txt K mg a):Cal P w K mg base "_law_some" 1 ["_law_number","_law_prime","_law_many"] [] zgZ:=T.l6.cal λ F=>by
 refine F.okx zcW ?_ ?_
 ·walk_at "i"
 walk_at "k";refine oE3 h λ n p m z1_=>oA4 z1_ λ z2_ p0 m0 k=>?_;clear h;subst z2_;walk_at "T";refine ⟨_,(ze (zj (zR jA (zR jA (zR Vt (Qv (zR qq (pq 0) zd)) zd) (pq 1)) (pq 2)))),?_⟩;walk_at "r";exact iA4 (mul_okR (by decide) (by decide)) p0 m0 (k _ (bM _ (by omega)) (bu _ m0))
def Jk {ns:List Int} {r:Int} (h0:0<=r) (h1:r < ns.length):∃ x∈ns,atI (iv ns) r=some (.int x):=by
 obtain ⟨j,rfl⟩:∃ j:Nat,r=j:=⟨r.toNat,by omega⟩;have hj:j < ns.length:=by omega
 exact ⟨_,br hj,zy (qM (ac hj))⟩
def zg3 (a:Ad):Sp:=λ vs H Q _=>∃ n:Int,vs=[.int n]/\∀ z H' b,Same H H'->zu b.1 b.2->BtP a H' (New H) (.ref z) b->Q (.ref z) H'
def xy (T:Txt K mg a):Cal P w K mg base "_law_belt" 3 ["_law_number"] [] (zg3 a):=T.l7.cal λ F=>by
 refine F.okx zc1 ?_ ?_
 ·walk_at "i"
 walk_at "j";obtain ⟨n,rfl,k⟩:=h;walk_at "T";refine ⟨_,(ze (zj (qa (x:="Belt") ⟨rfl,rfl,rfl⟩ hr (za (zr (zC (za zd (za zd (za zd (za zd zc))))) (zt ⟨rfl,rfl,rfl⟩ hr (za (pq 0) (za zd (za zd zc))))) (za (zr (zC (za zd (za zd (za zd (za zd (za zd zc)))))) (zt ⟨rfl,rfl,rfl⟩ hr (za (pq 0) (za zd (za zd zc))))) zc))))),?_⟩;walk_at "go";refine iE4 a.h _ _ _ ⟨(Zy T).mono,λ p hp=>(uc (qp T).mono (iE3 n 10007 4 (iA4 rfl (by decide) (by decide) (λ r r0 r1=>?_))))⟩;obtain ⟨x,hx,ex⟩:=Jk (ns:=[1,1,2,3]) r0 r1;have s1:=zg (o:=.lst (iv [1,1,2,3])) hp;refine zn (SqL.of upd_same) ex λ q hq=>(uc (qp T).mono (iE3 n 10009 5 (iA4 rfl (by decide) (by decide) (λ r' r0' r1'=>?_))));obtain ⟨y,hy,ey⟩:=Jk (ns:=[1,1,1,2,3]) r0' r1';have s2:=s1.trans (zg (o:=.lst (iv [1,1,1,2,3])) hq);refine zn (SqL.of upd_same) ey ?_;have bo:zu x y:=by
  simp only [ax,a8,bz] at hx hy;exact iA4 (by omega) (by omega) (by omega) (by omega)
 clear ex ey hx hy;intro z dz hz hdz _;exact vR hz hdz bo λ H3 s3 q3=>⟨rfl,k z H3 (x,y) (s2.trans s3) bo (q3.keep λ b o hb ho=>⟨zK s2 hb,ho⟩)⟩
def zfF (K:PySem.W.Frag):Sp:=λ vs H Q _=>∃ (l:Addr) (ns:List Int),vs=[.ref l]/\SqL K H l (iv ns)/\∀ kl ks H',Same H H'->H' kl=some (.lst (iv ks))->1<=ks.length->ks.length<=3->wy ks->Q (.ref kl) H'
def zdM (T:Txt K mg a):Cal P w K mg base "_law_kinds" 2 ["_law_cells"] [] (zfF K):=T.lJ.cal λ F=>by
 refine F.okx zbm ?_ ?_
 ·walk_at "i"
 walk_at "j";refine oE2 h λ l ns z1_=>oA3 z1_ λ z2_ hl k=>?_;clear h;subst z2_;walk_at "T";refine ⟨_,(zi (zx 1 zbm.nd (Qu (zt ⟨rfl,rfl,rfl⟩ hr (za (pq 0) (za zd zc)))))  (zi (zx 2 zbm.nd (Qu (zt ⟨rfl,rfl,rfl⟩ hr (za (pq 0) (za zd zc)))))  (ze (zj (zr (zC (za (zC (za (pq 1) zc)) (za (zC (za (pq 1) (za (pq 2) zc))) (za (zC (za (pq 1) (za (pq 2) (za (pq 1) zc)))) zc)))) (zt ⟨rfl,rfl,rfl⟩ hr (za (zt ⟨rfl,rfl,rfl⟩ hr (za (pq 0) (za zd zc))) (za zd (za zd zc))))))))),?_⟩;walk_at "go";refine uc (jk T).mono (iE3 l ns 2 (iA3 rfl hl ?_));walk_at "go";refine uc (jk T).mono (iE3 l ns 3 (iA3 rfl hl ?_));walk_at "go";have x0:=bM (jD ns 2) (show (1000000000000000000000000000000:Int)≠0 by decide);have x1:=bu (jD ns 2) (show (0:Int) < 1000000000000000000000000000000 by decide);have y0:=bM (jD ns 3) (show (1000000000000000000000000000000:Int)≠0 by decide);have y1:=bu (jD ns 3) (show (0:Int) < 1000000000000000000000000000000 by decide);generalize jD ns 2 % 1000000000000000000000000000000=x at x0 x1 ⊢;generalize jD ns 3 % 1000000000000000000000000000000=y at y0 y1 ⊢;intro p1 h1 p2 h2 p3 h3 p4 h4;have s1:=zg (o:=.lst [.int x]) h1;have s2:=zg (o:=.lst [.int x,.int y]) h2;have s3:=zg (o:=.lst [.int x,.int y,.int x]) h3;have s4:=zg (o:=.lst [.ref p1,.ref p2,.ref p3]) h4;have g1:=s4 _ _ (s3 _ _ (s2 _ _ upd_same));have g2:=s4 _ _ (s3 _ _ upd_same);have g3:=s4 _ _ upd_same;have g4:upd (upd (upd (upd H p1 (.lst [.int x])) p2 (.lst [.int x,.int y])) p3 (.lst [.int x,.int y,.int x])) p4 (.lst [.ref p1,.ref p2,.ref p3]) p4=some (.lst [.ref p1,.ref p2,.ref p3]):=upd_same;have sA:=((s1.trans s2).trans s3).trans s4;generalize upd (upd (upd (upd H p1 (.lst [.int x])) p2 (.lst [.int x,.int y])) p3 (.lst [.int x,.int y,.int x])) p4 (.lst [.ref p1,.ref p2,.ref p3])=H4 at sA g1 g2 g3 g4 ⊢;clear s1 s2 s3 s4 h1 h2 h3 h4;refine uc (qp T).mono (uc (jk T).mono (iE3 l ns 1 (iA3 rfl (xZ sA hl) (iE3 _ 10037 3 (iA4 rfl (by decide) (by decide) (λ r r0 r3=>?_))))));have kk:wy [x,y,x]:=λ z hz=>by
  simp only [ax,a8,bz] at hz;rcases hz with rfl|rfl|rfl
  ·exact ⟨x0,x1⟩
  ·exact ⟨y0,y1⟩
  ·exact ⟨x0,x1⟩
 rcases (by omega:r=0\/r=1\/r=2) with rfl|rfl|rfl
 ·exact zn (SqL.of g4) at0 (k p1 [x] H4 sA g1 (by simp) (by simp) λ z hz=>kk z (by simp at hz;simp [hz]))
 ·exact zn (SqL.of g4) (show atI _ 1=some (.ref p2) from rfl) (k p2 [x,y] H4 sA g2 (by simp) (by simp) λ z hz=>kk z (by simp at hz;rcases hz with rfl|rfl <;> simp))
 ·exact zn (SqL.of g4) (show atI _ 2=some (.ref p3) from rfl) (k p3 [x,y,x] H4 sA g3 (by simp) (by simp) kk)
def zfA (a:Ad):Sp:=λ vs H Q _=>∃ (n y kk o1 o2:Int) (O:Addr),vs=[.int n,.int y,.ref O,.int kk]/\H O=some (.lst (iv [o1,o2]))/\0<=kk/\kk < jd/\∀ z H' r,Same H H'->r.ins=[y]->r.outs=[o1,o2]->r.ok->KnP a H' (New H) (.ref z) r->Q (.ref z) H'
def zdK (T:Txt K mg a):Cal P w K mg base "_law_split" 4 ["_law_number","_law_into","_law_outs","_law_kind"] [] (zfA a):=T.lK.cal λ F=>by
 refine F.okx zbk ?_ ?_
 ·walk_at "i"
 walk_at "j";refine oE6 h λ n y kk o1 o2 O z1_=>oA5 z1_ λ z2_ hO k0 k1 k=>?_;clear h;subst z2_;walk_at "T";refine ⟨_,(zi (zx 4 zbk.nd (zt ⟨rfl,rfl,rfl⟩ hr (za (pq 0) (za zd (za zd zc)))))  (zi (zD (zo (j5 hr.units1) (pq 4) zd (zq _))  (ze (zj (qa (x:="Parter") ⟨rfl,rfl,rfl⟩ hr (za (pq 1) (za (pq 2) zc)))))  zp)  (zi (zD (zo (j5 hr.units1) (pq 4) zd (zq _))  (ze (zj (qa (x:="FirstParter") ⟨rfl,rfl,rfl⟩ hr (za (pq 1) (za (pq 2) zc)))))  zp)  (ze (zj (qa (x:="Sieve") ⟨rfl,rfl,rfl⟩ hr (za (pq 1) (za (pq 2) (za (pq 3) zc))))))))),?_⟩;walk_at "go";refine uc (qp T).mono (iE3 n 10039 3 (iA4 rfl (by decide) (by decide) (λ pk _ _=>?_)));walk_at "go";refine zI (λ _=>?_) (λ _=>?_)
 ·walk_at "go";refine iE4 a.l _ _ _ ⟨(ZW T).mono,?_⟩;intro z dz hz hdz hne;exact Qz hz hdz hO (by simp) (by simp) λ H1 s1 q1=>⟨rfl,k _ _ ⟨.parter,[y],[o1,o2],0,[]⟩ s1 rfl rfl ⟨⟨_,rfl⟩,by simp,by simp⟩ q1⟩
 walk_at "go";refine zI (λ _=>?_) (λ _=>?_)
 ·walk_at "go";refine iE4 a.m _ _ _ ⟨(jM T).mono,?_⟩;intro z dz hz hdz hne;exact Xm hz hdz hO (by simp) (by simp) λ H1 s1 q1=>⟨rfl,k _ _ ⟨.first,[y],[o1,o2],0,[]⟩ s1 rfl rfl ⟨⟨_,rfl⟩,by simp,by simp⟩ q1⟩
 walk_at "go";refine iE4 a.n _ _ _ ⟨(zck T).mono,?_⟩;intro z dz hz hdz hne;exact zeH hz hdz hO rfl k0 k1 λ H1 s1 q1=>⟨rfl,k _ _ ⟨.sieve,[y],[o1,o2],0,[kk]⟩ s1 rfl rfl (iA3 ⟨_,rfl⟩ rfl ⟨kk,iA3 rfl k0 k1⟩) q1⟩
def zeV {A C X Y:Prop} [Decidable A] [Decidable C] (x:A->C->X) (y:Y):if A then (if C then X else Y) else Y:=by
 split
 ·split
  ·rename_i a c;exact x a c
  ·exact y
 ·exact y
def zge {A W Z:Prop} [Decidable A] (z:Z) (w:A->Z->W):if A then W else Z:=by
 by_cases h:A
 ·rw [aq h];exact w h z
 ·rw [am h];exact z
noncomputable abbrev stG (L R E:Addr) (v3:V) (c kk:Int) (v6 v7 v8 v9:Option V):St:=[some (.ref L),some (.ref R),some (.ref E),some v3,some (.int c),some (.int kk),v6,v7,v8,v9]
def zfG (a:Ad):Sp:=λ vs H Q _=>∃ (L R E:Addr) (bs:List (Int × Int)) (rs:List Row) (es:List Int) (lp:Option Int) (c kk:Int),vs=[.ref L,.ref R,.ref E,oiV lp,.int c,.int kk]/\GS a H H L R E bs rs es/\WInv bs rs es lp.toList/\0<=kk/\kk < jd/\bs.length<=20/\rs.length<=20/\es.length<=20/\1<=es.length /\
 ∀ H' bs' rs' es' lp',GS a H H' L R E bs' rs' es'->WInv bs' rs' es' lp'.toList->1<=es'.length->bs.length + 1<=bs'.length->bs'.length<=bs.length + 2->rs'.length=rs.length + 1->Q (oiV lp') H'
def zdN (T:Txt K mg a):Cal P w K mg base "_law_grown" 5 ["_law_belts","_law_knots","_law_loose","_law_loop","_law_number","_law_kind"] [] (zfG a):=T.lM.cal λ F=>by
 refine F.okx zbn ?_ ?_
 ·walk_at "i"
 walk_at "j";refine oE5 h λ L R E bs rs z1_=>oE4 z1_ λ es lp c kk z2_=>oA6 z2_ λ z3_ W I k0 k1 z4_=>oA5 z4_ λ lb lr le le1 k=>?_;clear h;subst z3_;obtain ⟨bv,hL,rL⟩:=W.hL;have lL:bv.length=bs.length:=by rw [rL.len,ai]
 walk_at "T";refine ⟨_,(zh (zx 6 zbn.nd (zJ zS zQ (za (pq 0) zc)))  (zh (zA (qQ ap aC aB zU (pq 0) (za (zt ⟨rfl,rfl,rfl⟩ hr (za (pq 4) zc)) zc)))  (zh (zx 7 zbn.nd (zt ⟨rfl,rfl,rfl⟩ hr (za (pq 4) (za zd (za zd zc)))))  (zh (zD (zo (j5 hr.units1) (pq 7) zd (zq _))  (zh (zA (qQ ap aC aB zU (pq 1) (za (qa (x:="Source") ⟨rfl,rfl,rfl⟩ hr (za (pq 6) (za (zR qq zd (zt ⟨rfl,rfl,rfl⟩ hr (za (pq 4) (za zd (za zd zc))))) (za (zC (za (pq 5) (za (Qu (pq 4)) zc))) zc)))) zc)))  (zh (zA (qQ ap aC aB zU (pq 2) (za (pq 6) zc)))  (ze (zj (pq 3)))))  zp)  (zh (zx 8 zbn.nd (qQ ap dk dj Xl (pq 2) (za (zt ⟨rfl,rfl,rfl⟩ hr (za (pq 4) (za zd (za (zJ zS zQ (za (pq 2) zc)) zc)))) zc)))  (zh (zD (PW.pt (pw_and (zo (j5 hr.units1) (pq 7) zd (zq _)) (pw_and1 (zo Xf (zJ zS zQ (za (pq 2) zc)) zd (zq _)))))  (zh (zA (qQ ap aC aB zU (pq 1) (za (qa (x:="Joiner") ⟨rfl,rfl,rfl⟩ hr (za (zC (za (pq 8) (za (qQ ap dk dj Xl (pq 2) (za zd zc)) zc))) (za (pq 6) zc))) zc)))  (zh (zA (qQ ap aC aB zU (pq 2) (za (pq 6) zc)))  (ze (zj (pq 3)))))  zp)  (zh (zx 9 zbn.nd (zC (za (pq 6) (za (zR qq (pq 6) zd) zc))))  (qJ (zD (PW.pt (pw_and (zo wP (pq 3) zv (zq _)) (pw_and1 (zo Xf (pq 7) zd (zq _)))))  (zh (zx 9 zbn.nd (zC (za (pq 3) (za (pq 6) zc))))  (ze (zx 3 zbn.nd zv)))  (zh (zA (qQ ap aC aB zU (pq 0) (za (zt ⟨rfl,rfl,rfl⟩ hr (za (Qw (pq 4)) zc)) zc)))  (ze (zA (qQ ap aC aB zU (pq 2) (za (zR qq (pq 6) zd) zc))))))  (zh (zA (qQ ap aC aB zU (pq 2) (za (pq 6) zc)))  (qJ (zD (zo (j5 hr.units1) (zt ⟨rfl,rfl,rfl⟩ hr (za (pq 4) (za zd (za zd zc)))) zd (zq _))  (ze (zx 9 zbn.nd (zC (za (zr (pq 9) zd) (za (zr (pq 9) zd) zc)))))  zp)  (zh (zA (qQ ap aC aB zU (pq 1) (za (zt ⟨rfl,rfl,rfl⟩ hr (za (pq 4) (za (pq 8) (za (pq 9) (za (pq 5) zc))))) zc)))  (ze (zj (pq 3)))))))))))))),?_⟩;walk_at "go";refine ⟨_,.inl ⟨_,SqL.of hL,rfl⟩,?_⟩;rw [lL];walk_at "go";refine ⟨.inl ⟨rfl,_,SqL.of hL⟩,iE3 _ _ _ ⟨(xy T).mono,⟨c,rfl,λ zb H1 b s1 ob q1=>?_⟩⟩⟩;obtain ⟨W1,_⟩:=W.addL hL s1 q1;have I1:=I.belt ob;refine iE3 L _ _ (iA5 rfl rfl (s1 _ _ hL) (zm (by omega)) ?_);generalize upd H1 L _=H2 at W1 ⊢;have lb1:(bs ++ [b]).length=bs.length + 1:=by simp
 clear W I hL rL q1 s1;walk_at "go";refine uc (qp T).mono (iE3 c 10061 7 (iA4 rfl (by decide) (by decide) (λ pk p0 p7=>?_)));obtain ⟨rv,hR,rR⟩:=W1.hR;have lR:rv.length=rs.length:=by rw [rR.len,ai]
 walk_at "go";refine zI (λ _=>?_) (λ _=>?_)
 ·walk_at "go";refine ⟨.inl ⟨rfl,_,SqL.of hR⟩,?_⟩;refine iE4 a.j _ _ _ ⟨(wo T).mono,iE3 _ _ _ ⟨(qp T).mono,⟨c,10069,4,rfl,by decide,by decide,λ r r0 r4=>?_⟩⟩⟩;walk_at "go";intro p hp;have x0:=bM c (show (1000000000000000000000000000000:Int)≠0 by decide);have x1:=bu c (show (0:Int) < 1000000000000000000000000000000 by decide);generalize c % 1000000000000000000000000000000=x at x0 x1 ⊢;have s3:=zg (o:=.lst [.int kk,.int x]) hp;have g3:upd H2 p (.lst [.int kk,.int x]) p=some (.lst (iv [kk,x])):=upd_same;generalize upd H2 p (.lst [.int kk,.int x])=H3 at s3 g3 ⊢;have kd:wy [kk,x]:=λ z hz=>by
   simp only [ax,a8,bz] at hz;rcases hz with rfl|rfl
   ·exact ⟨k0,k1⟩
   ·exact ⟨x0,x1⟩
  intro z dz hz hdz _;refine wj hz hdz g3 (by omega) (by omega) (by simp) (by simp) kd λ H4 s4 q4=>⟨rfl,?_⟩;obtain ⟨W4,_⟩:=(W1.same s3).addR (s3 _ _ hR) s4 q4;refine iE3 R _ _ (iA5 rfl rfl (s4 _ _ (s3 _ _ hR)) (zm (by omega)) ?_);generalize upd H4 R _=H5 at W4 ⊢;walk_at "go";refine ⟨.inl ⟨rfl,_,SqL.of W4.hE⟩,iE3 E _ _ (iA5 rfl rfl W4.hE (zm (by rw [zF];omega)) ?_)⟩;rw [je];have W5:=W4.setE (es ++ [(bs.length:Int)]);generalize upd H5 E _=H6 at W5 ⊢;walk_at "go";refine k _ _ _ _ lp W5 (I1.knot (r:=⟨.source,[],[(bs.length:Int)],1 + r,[kk,x]⟩) (aU _) dZ (iA7 rfl ⟨_,rfl⟩ (show (1:Int)<=1 + r by omega) (show 1 + r<=4 by omega) (by simp) (by simp) kd)) (by simp) (by omega) (by omega) (by simp)
 walk_at "go";refine ⟨.inl ⟨rfl,_,SqL.of W1.hE⟩,iE3 _ _ _ (iA3 ((qp T).mono) gf ⟨_,⟨.inl ⟨_,SqL.of W1.hE,rfl⟩,⟨c,10067,_,rfl,by decide,by rw [zF];omega,λ jj v0 v1=>?_⟩⟩⟩)⟩;rw [zF] at v1;obtain ⟨y,hy⟩:∃ y,es[jj.toNat]?=some y:=⟨es[jj.toNat]'(by omega),ac _⟩;refine iE5 E (iv es) jj jj.toNat (.int y) (iA8 rfl rfl W1.hE (by omega) (by omega) (Xa v0 (by rw [zF];exact v1)) (qM hy) ?_);rw [zeU];have W2:=W1.setE (es.eraseIdx jj.toNat);have pp:=zar hy;have pl:=pp.length_eq;rw [bT] at pl;have I2:=I1.perm (pp.append_right [(bs.length:Int)]) (aU _);generalize upd H2 E (.lst (iv (es.eraseIdx jj.toNat)))=H3 at W2 ⊢;generalize es.eraseIdx jj.toNat=es1 at pp pl W2 I2 ⊢;clear W1 I1 pp hR rR lR hy v0 v1;obtain ⟨rv,hR,rR⟩:=W2.hR;have lR:rv.length=rs.length:=by rw [rR.len,ai]
 walk_at "go";refine zge ?_ (λ _ z=>⟨gf,⟨_,⟨.inl ⟨_,SqL.of W2.hE,rfl⟩,zI (λ w1=>?_) (λ _=>z)⟩⟩⟩)
 rotate_left
 ·rw [zF] at w1;obtain ⟨x,es2,rfl⟩:∃ x es2,es1=x :: es2:=by cases es1 with|nil=>simp at w1|cons x es2=>exact ⟨x,es2,rfl⟩
  walk_at "go";refine ⟨.inl ⟨rfl,_,SqL.of hR⟩,iE4 a.o _ _ _ (iA3 ((ZX T).mono) (.inl ⟨rfl,_,SqL.of W2.hE⟩) (iE5 E (iv (x :: es2)) 0 0 (.int x) (iA8 rfl rfl W2.hE (by decide) (by decide) (Xa (by decide) (by simp [iv])) rfl ?_)))⟩;show ∀ p:Addr,upd H3 E (.lst (iv es2)) p=none->∀ z dz:Addr,upd (upd H3 E (.lst (iv es2))) p (.lst [.int y,.int x]) z=none->upd (upd H3 E (.lst (iv es2))) p (.lst [.int y,.int x]) dz=none->dz≠z->jt K a.o a.d [.ref z,.ref p,.int bs.length] (upd (upd (upd (upd H3 E (.lst (iv es2))) p (.lst [.int y,.int x])) dz (.own z)) z (.ins a.o dz [])) _ _
  have W3:=W2.setE es2;have hR3:upd H3 E (.lst (iv es2)) R=some (.lst rv):=by rw [upd_ne W2.nRE];exact hR
  generalize upd H3 E (.lst (iv es2))=H4 at W3 hR3 ⊢;intro p hp;have s5:=zg (o:=.lst [.int y,.int x]) hp;have g5:upd H4 p (.lst [.int y,.int x]) p=some (.lst (iv [y,x])):=upd_same;generalize upd H4 p (.lst [.int y,.int x])=H5 at s5 g5 ⊢;intro z dz hz hdz _;refine QA hz hdz g5 (by simp) (by simp) λ H6 s6 q6=>⟨rfl,?_⟩;obtain ⟨W6,_⟩:=(W3.same s5).addR (s5 _ _ hR3) s6 q6;refine iE3 R _ _ (iA5 rfl rfl (s6 _ _ (s5 _ _ hR3)) (zm (by omega)) ?_);generalize upd H6 R _=H7 at W6 ⊢;walk_at "go";simp only [bT] at pl;refine ⟨.inl ⟨rfl,_,SqL.of W6.hE⟩,iE3 E _ _ (iA5 rfl rfl W6.hE (zm (by rw [zF];omega)) ?_)⟩;rw [je];have W7:=W6.setE (es2 ++ [(bs.length:Int)]);generalize upd H7 E _=H8 at W7 ⊢;walk_at "go";exact k _ _ _ _ lp W7 (I2.knot (r:=⟨.joiner,[y,x],[(bs.length:Int)],0,[]⟩) (aU _) dZ ⟨⟨_,rfl⟩,by simp,by simp⟩) (by simp) (by omega) (by omega) (by simp)
 walk_at "go";intro O hO;have W3:=W2.same (zg (o:=.lst [V.int bs.length,.int (bs.length + 1)]) hO);have nO:=W2.off hO;have gO:upd H3 O (.lst [V.int bs.length,.int (bs.length + 1)]) O=some (.lst (iv [(bs.length:Int),bs.length + 1])):=upd_same;generalize upd H3 O (.lst [V.int bs.length,.int (bs.length + 1)])=H4 at W3 gO ⊢;clear W2 hR rR;walk_at "go";refine cut (λ σ' H'=>∃ (lp':Option Int) (bs':List (Int × Int)) (es':List Int) (o1 o2:Int) (O':Addr),σ'=stG L R E (oiV lp') c kk (some (.int bs.length)) (some (.int pk)) (some (.int y)) (some (.ref O'))/\GS a H H' L R E bs' rs es'/\O' ∉ ms3 L R E/\H' O'=some (.lst (iv [o1,o2]))/\WInv bs' rs ([y] ++ (es' ++ [(bs.length:Int)])) ([o1,o2] ++ lp'.toList)/\bs.length + 1<=bs'.length/\bs'.length<=bs.length + 2/\es'.length<=30) ?_ ?_
 ·walk_at "go";refine zeV (λ x1 _=>?_) ?_
  ·obtain ⟨x,rfl⟩:∃ x,lp=some x:=by cases lp with|none=>exact absurd rfl x1|some x=>exact ⟨x,rfl⟩
   walk_at "go";intro O2 hO2;walk_at "go";exact iE6 none _ es1 x _ O2 (iA8 rfl (W3.same (zg hO2)) (W3.off hO2) upd_same I2 (by omega) (by omega) (by omega))
  obtain ⟨bv,hL,rL⟩:=W3.hL;have lL:bv.length=(bs ++ [b]).length:=by rw [rL.len,ai]
  walk_at "go";refine ⟨.inl ⟨rfl,_,SqL.of hL⟩,iE3 _ _ _ ⟨(xy T).mono,⟨_,rfl,λ zb2 H5 b2 s5 ob2 q5=>?_⟩⟩⟩;obtain ⟨W5,_⟩:=W3.addL hL s5 q5;have I5:=I2.belt ob2;refine iE3 L _ _ (iA5 rfl rfl (s5 _ _ hL) (zm (by omega)) ?_);have g5:=s5 _ _ gO;have nOL:O≠L:=λ z=>nO (by simp [z]);have nOE:O≠E:=λ z=>nO (by simp [z]);have g5:upd H5 L (.lst (bv ++ [.ref zb2])) O=some (.lst (iv [(bs.length:Int),bs.length + 1])):=by rw [upd_ne nOL];exact g5
  generalize upd H5 L _=H6 at W5 g5 ⊢;walk_at "go";refine ⟨.inl ⟨rfl,_,SqL.of W5.hE⟩,iE3 E _ _ (iA5 rfl rfl W5.hE (zm (by rw [zF];omega)) ?_)⟩;rw [je];have W6:=W5.setE (es1 ++ [(bs.length:Int) + 1]);refine iE6 lp _ _ _ _ O (iA8 rfl W6 nO (by rw [upd_ne nOE];exact g5) ?_ (by simp) (by simp) (by simp;omega));refine I5.perm ?_ ?_
  ·rw [lb1];show (y :: (es1 ++ [((bs.length:Int) + 1)] ++ [(bs.length:Int)])).Perm (y :: es1 ++ [(bs.length:Int)] ++ [((bs.length + 1:Nat):Int)])
   rw [show ((bs.length + 1:Nat):Int)=(bs.length:Int) + 1 from rfl,cons_append,cons_append,cv,cv];exact List.Perm.cons _ (bY _ (List.Perm.swap ..))
  ·rw [lb1,cv];exact dZ (l₁:=[(bs.length:Int),(bs.length:Int) + 1]) (l₂:=lp.toList)
 clear W3 I2 gO nO;intro σ' H5 zz_;refine oE6 zz_ λ lp' bs' es' o1 o2 O' z1_=>oA8 z1_ λ z2_ W5 nO gO I5 b1 b2 le'=>?_;clear zz_;subst z2_;walk_at "go";refine ⟨.inl ⟨rfl,_,SqL.of W5.hE⟩,iE3 E _ _ (iA5 rfl rfl W5.hE (zm (by rw [zF];omega)) ?_)⟩;rw [je];have W6:=W5.setE (es' ++ [(bs.length:Int)]);have nOE:O'≠E:=λ z=>nO (by simp [z]);have gO:upd H5 E (.lst (iv (es' ++ [(bs.length:Int)]))) O'=some (.lst (iv [o1,o2])):=by rw [upd_ne nOE];exact gO
 generalize upd H5 E _=H6 at W6 gO ⊢;walk_at "go";refine cut (λ σ' H'=>∃ (p1 p2:Int) (O2:Addr),σ'=stG L R E (oiV lp') c kk (some (.int bs.length)) (some (.int pk)) (some (.int y)) (some (.ref O2))/\Same H6 H'/\H' O2=some (.lst (iv [p1,p2]))/\[p1,p2].Perm [o1,o2]) ?_ ?_
 ·walk_at "go";refine uc (qp T).mono (iE3 c 10069 2 (iA4 rfl (by decide) (by decide) (λ r _ _=>?_)));walk_at "go";refine zI (λ _=>?_) (λ _=>(iE3 o1 o2 O' (iA4 rfl (Same.refl _) gO (aU _))));walk_at "go";refine zn (SqL.of gO) (show atI _ 1=some (.int o2) from rfl) (zn (SqL.of gO) at0 λ O2 hO2=>?_);exact iE3 o2 o1 O2 (iA4 rfl (zg hO2) upd_same (List.Perm.swap ..))
 intro σ' H7 zz_;refine oE3 zz_ λ p1 p2 O2 z1_=>oA4 z1_ λ z2_ s7 g7 pm=>?_;clear zz_;subst z2_;have W7:=W6.same s7;obtain ⟨rv,hR,rR⟩:=W7.hR;walk_at "go";refine ⟨.inl ⟨rfl,_,SqL.of hR⟩,iE3 _ _ _ ⟨(zdK T).mono,⟨c,y,kk,p1,p2,O2,rfl,g7,k0,k1,λ z H8 r s8 r1 r2 r3 q8=>?_⟩⟩⟩;obtain ⟨W8,lR⟩:=W7.addR hR s8 q8;refine iE3 R _ _ (iA5 rfl rfl (s8 _ _ hR) (zm (by omega)) ?_);generalize upd H8 R _=H9 at W8 ⊢;walk_at "go";exact k _ _ _ _ lp' W8 (I5.knot (r:=r) (by rw [r1]) (by rw [r2];exact pm.append_right _) r3) (by simp) (by omega) (by omega) (by simp)
noncomputable abbrev stK (l:Addr) (tp c:Int) (kl:Addr) (v4 v5 v6 v7 v8 v9 v10 v11:Option V):St:=[some (.ref l),some (.int tp),some (.int c),some (.ref kl),v4,v5,v6,v7,v8,v9,v10,v11]
def zd2 (K:PySem.W.Frag) (a:Ad):Sp:=λ vs H Q _=>∃ (l:Addr) (ns:List Int),vs=[.ref l,.int 8]/\SqL K H l (iv ns)/\∀ vw H' bs rs,Same H H'->Rep H' (Off []) vw (zX a bs rs)->zH bs rs->(∀ b∈bs,zu b.1 b.2)->(∀ r∈rs,r.ok)->Q vw H'
def WInv.el {bs:List (Int × Int)} {rs:List Row} {es ks:List Int} (h:WInv bs rs es ks):es.length<=bs.length:=by
 have:=h.tk.length_eq;rw [aP,Jj] at this;omega
def WInv.em {bs:List (Int × Int)} {rs:List Row} {es ks:List Int} (h:WInv bs rs es ks) {x:Int} (hx:x∈es):0<=x/\x < bs.length:=by
 obtain ⟨i,hi,rfl⟩:=aW.mp (h.tk.mem_iff.mp (aV _ hx));have:=aY.mp hi;exact ⟨bX _,by show (i:Int) < _;omega⟩
def zgp (ns:List Int):∃ cs:List Int,XD (iv ns) (some 1) none=iv cs:=by
 unfold XD;rw [show (some (1:Int))=some ((1:Nat):Int) from rfl,HT.sIx_nat,HT.sIx_none,zF];exact ⟨(ns.drop (min 1 ns.length)).take (ns.length - min 1 ns.length),by simp [iv]⟩
def winv0:WInv [] [] [] []:=⟨aU _,aU _,(λ _ z=>nomatch z),(λ _ z=>nomatch z)⟩
theorem zfi (T:Txt K mg a):Cal P w K mg base "_law_work" 7 ["_law_cells","_law_top"] [] (zd2 K a):=T.l8.cal λ F=>by
 refine F.okx zcV ?_ ?_
 ·walk_at "i"
 walk_at "j";refine oE2 h λ l ns z1_=>oA3 z1_ λ z2_ hl k=>?_;clear h;subst z2_;walk_at "T";refine ⟨_,(zh (zx 2 zcV.nd (zt ⟨rfl,rfl,rfl⟩ hr (za (pq 0) (za zd zc))))  (zh (zx 3 zcV.nd (zt ⟨rfl,rfl,rfl⟩ hr (za (pq 0) zc)))  (zh (zx 4 zcV.nd (zC (za (zt ⟨rfl,rfl,rfl⟩ hr (za (pq 2) zc)) zc)))  (zh (zx 5 zcV.nd zd)  (zh (zx 6 zcV.nd (zC (za zd zc)))  (zh (zx 7 zcV.nd zv)  (qJ (zD (zo Xf (zt ⟨rfl,rfl,rfl⟩ hr (za (pq 2) (za zd (za zd zc)))) zd (zq _))  (zh (zx 5 zcV.nd (zt ⟨rfl,rfl,rfl⟩ hr (za (pq 2) (za zd (za zd zc)))))  (zh (zx 4 zcV.nd (zR qq (pq 4) (zC (za (zt ⟨rfl,rfl,rfl⟩ hr (za (Qw (pq 2)) zc)) (za (zt ⟨rfl,rfl,rfl⟩ hr (za (Qw (pq 2)) zc)) zc)))))  (zh (zx 6 zcV.nd (zC (za zd zc)))  (ze (zx 7 zcV.nd (zR Vm zd (pq 5)))))))  zp)  (zh (zx 8 zcV.nd (zC (za (qa (x:="Source") ⟨rfl,rfl,rfl⟩ hr (za (pq 5) (za (zR qq zd (zt ⟨rfl,rfl,rfl⟩ hr (za (pq 2) (za zd (za zd zc))))) (za (pq 3) zc)))) zc)))  (qJ (zD (zo wP (pq 7) zv (zq _))  (ze (zA (qQ ap aC aB zU (pq 8) (za (qa (x:="Joiner") ⟨rfl,rfl,rfl⟩ hr (za (zC (za (pq 5) (za (pq 7) zc))) (za zd zc))) zc))))  zp)  (qJ (qK ji rfl (qd (Xd zbb (pq 0) (Vh zd) Vi)) (qk 9 zcV.nd)  (zh (zD (zo Xf (zR qq (zJ zS zQ (za (pq 4) zc)) zd) (pq 1) (zq _))  (ze zeo)  zp)  (ze (zx 7 zcV.nd (zt ⟨rfl,rfl,rfl⟩ hr (za (pq 4) (za (pq 8) (za (pq 6) (za (pq 7) (za (pq 9) (za (zr (pq 3) zd) zc)))))))))))  (qJ (zD (zo wP (pq 7) zv (zq _))  (zh (zA (qQ ap aC aB zU (pq 8) (za (qa (x:="Parter") ⟨rfl,rfl,rfl⟩ hr (za (qQ ap dk dj Xl (pq 6) (za zd zc)) (za (zC (za (pq 7) (za (zJ zS zQ (za (pq 4) zc)) zc))) zc))) zc)))  (zh (zA (qQ ap aC aB zU (pq 6) (za (zJ zS zQ (za (pq 4) zc)) zc)))  (ze (zA (qQ ap aC aB zU (pq 4) (za (zt ⟨rfl,rfl,rfl⟩ hr (za (Qw (pq 2)) zc)) zc))))))  zp)  (qJ (qK ji rfl (qd (pq 6)) (qk 10 zcV.nd)  (ze (zA (qQ ap aC aB zU (pq 8) (za (qa (x:="Drain") ⟨rfl,rfl,rfl⟩ hr (za (pq 10) (za (zr (zC (za zd (za zd (za zd (za zd (za zd (za zd zc))))))) (zt ⟨rfl,rfl,rfl⟩ hr (za (zR qq (pq 2) (zR Vt (zR Vt (pq 10) (pq 10)) zd)) (za zd (za zd zc))))) zc))) zc)))))  (zh (zx 11 zcV.nd (zt ⟨rfl,rfl,rfl⟩ hr (za (pq 2) (za zd (za (zJ zS zQ (za (pq 8) zc)) zc)))))  (ze (zj (qa (x:="Work") ⟨rfl,rfl,rfl⟩ hr (za (pq 4) (za (zR qq (Xd zbb (pq 8) (Vh (pq 11)) Vi) (Xd zbb (pq 8) Vi (Vh (pq 11)))) zc)))))))))))))))))),?_⟩;walk_at "go";refine uc (jk T).mono (iE3 l ns 0 (iA3 rfl hl ?_));generalize jD ns 0=c;walk_at "go";refine uc (zdM T).mono (iE2 l ns (iA3 rfl hl (λ kl ks H1 s1 g1 k1 k3 kk=>?_)));have hl1:=xZ s1 hl;clear hl;walk_at "go";refine uc (xy T).mono ⟨c,rfl,λ z0 H2 b0 s2 o0 q0=>?_⟩;intro L hL;have s3:=zg (o:=.lst [.ref z0]) hL;have gL:upd H2 L (.lst [.ref z0]) L=some (.lst [.ref z0]):=upd_same;have r2:Reps H2 (Off []) [.ref z0] ([b0].map (j8 a)):=.one (q0.keep λ b o _ ho=>⟨(λ z=>nomatch z),ho⟩);have w0:WInv [b0] [] [0] [0]:=winv0.belt o0;generalize upd H2 L (.lst [.ref z0])=H3 at s3 gL ⊢;walk_at "go";walk_at "go";intro E hE;have s4:=zg (o:=.lst [.int 0]) hE;have gE:upd H3 E (.lst [.int 0]) E=some (.lst (iv [0])):=upd_same;have gL4:=s4 _ _ gL;have s24:=s3.trans s4;have hE2:=zK s3 hE;have nLE:L≠E:=λ z=>by rw [<- z,gL] at hE;cases hE
 generalize upd H3 E (.lst [.int 0])=H4 at gE gL4 s24 ⊢;clear s4 s3;walk_at "go";walk_at "go";refine cut (λ σ' H'=>∃ (L E:Addr) (Hx:Hp) (bvs:List V) (bs:List (Int × Int)) (es:List Int) (fi:Int) (lp:Option Int),σ'=stK l 8 c kl (some (.ref L)) (some (.int fi)) (some (.ref E)) (some (oiV lp)) none none none none/\Same H1 Hx/\Reps Hx (Off []) bvs (bs.map (j8 a))/\Same Hx H'/\Hx L=none/\Hx E=none/\L≠E/\H' L=some (.lst bvs)/\H' E=some (.lst (iv es)) /\
  ((bs.length=1/\WInv bs [] [0] [0]/\fi=0/\lp=none/\es=[0])\/(bs.length=3/\WInv bs [] [0,1,2] [0,1,2]/\(fi=0\/fi=1)/\lp=some (1 - fi)/\es=[2]))) ?_ ?_
 ·walk_at "go";refine uc (qp T).mono (iE3 c 10091 3 (iA4 rfl (by decide) (by decide) (λ r _ _=>?_)));walk_at "go";refine zI (λ _=>?_) (λ _=>(iE8 L E H2 _ ([b0]) ([0]) 0 none (iA6 rfl s2 r2 s24 hL (iA5 hE2 nLE gL4 gE (.inl (iA5 rfl w0 rfl rfl rfl))))));walk_at "go";refine uc (qp T).mono (iE3 c 10133 2 (iA4 rfl (by decide) (by decide) (λ fi f0 f1=>?_)));walk_at "go";refine uc (xy T).mono ⟨_,rfl,λ z1 H5 b1 s5 o1 q1=>(uc (xy T).mono ⟨_,rfl,λ z2 H6 b2 s6 o2 q2=>λ p hp=>?_⟩)⟩;have s7:=zg (o:=.lst [.ref z1,.ref z2]) hp;have gp:upd H6 p (.lst [.ref z1,.ref z2]) p=some (.lst [.ref z1,.ref z2]):=upd_same;generalize upd H6 p (.lst [.ref z1,.ref z2])=H7 at s7 gp ⊢;have s57:=s6.trans s7;have s47:=s5.trans s57;have r7:Reps H7 (Off []) [.ref z0,.ref z1,.ref z2] ([b0,b1,b2].map (j8 a)):=(r2.same (s24.trans s47)).append (.cons (q1.keep λ b o _ ho=>⟨(λ z=>nomatch z),s57 _ _ ho⟩) (.one (q2.keep λ b o _ ho=>⟨(λ z=>nomatch z),s7 _ _ ho⟩)));refine ZO (SqL.of (s47 _ _ gL4)) (SqL.of gp) (j9 (by simp)) λ Lw hL2=>?_;rw [show [V.ref z0] ++ [V.ref z1,.ref z2]=[.ref z0,.ref z1,.ref z2] from rfl];have s8:=zg (o:=.lst [.ref z0,.ref z1,.ref z2]) hL2;have g8:upd H7 Lw (.lst [.ref z0,.ref z1,.ref z2]) Lw=some (.lst [.ref z0,.ref z1,.ref z2]):=upd_same;generalize upd H7 Lw (.lst [.ref z0,.ref z1,.ref z2])=H8 at s8 g8 ⊢;walk_at "go";intro E2 hE2;have s9:=zg (o:=.lst [.int 2]) hE2;walk_at "go";exact iE8 Lw E2 H7 _ ([b0,b1,b2]) ([2]) fi (some (1 - fi)) (iA6 rfl ((s2.trans s24).trans s47) r7 (s8.trans s9) hL2 (iA5 (zK s8 hE2) (λ z=>by rw [<- z,g8] at hE2;cases hE2) (s9 _ _ g8) upd_same (.inr (iA5 rfl ((w0.belt o1).belt o2) (by omega) rfl rfl))))
 clear r2 s24 hL hE2 nLE gL4 gE w0 s2 gL q0 o0 hE;intro σ' H5 zz_;refine oE8 zz_ λ L E Hx bvs bs es fi lp z1_=>oA6 z1_ λ z2_ s1x rx sx xL z3_=>oA5 z3_ λ xE nLE gL gE st=>?_;clear zz_;subst z2_;walk_at "go";refine iE4 a.j _ _ _ ⟨(wo T).mono,iE3 _ _ _ ⟨(qp T).mono,⟨c,10079,2,rfl,by decide,by decide,λ r r0 r2=>?_⟩⟩⟩;walk_at "go";intro z dz hz hdz _;refine wj hz hdz (sx _ _ (s1x _ _ g1)) (by omega) (by omega) k1 (by omega) kk λ H6 s6 q6=>⟨rfl,λ R hR=>?_⟩;have s7:=zg (o:=.lst [.ref z]) hR;have xR:Hx R=none:=zK (sx.trans s6) hR;have sx7:=(sx.trans s6).trans s7;have W:GS a (upd H6 R (.lst [.ref z])) (upd H6 R (.lst [.ref z])) L R E bs [⟨.source,[],[fi],1 + r,ks⟩] es:=by
  have n1:R≠L:=λ e=>by rw [e,s6 _ _ gL] at hR;cases hR
  have n2:R≠E:=λ e=>by rw [e,s6 _ _ gE] at hR;cases hR
  refine ⟨Fr.refl,n1.symm,nLE,n2,⟨bvs,s7 _ _ (s6 _ _ gL),?_⟩,⟨_,upd_same,.one (q6.keep λ b o hb ho=>⟨λ e=>?_,s7 _ _ ho⟩)⟩,s7 _ _ (s6 _ _ gE)⟩
  ·refine (rx.more (ns:=ms3 L R E) λ b hb=>.inr ?_).same sx7;simp only [ax,a8,bz] at hb;rcases hb with rfl|rfl|rfl
   ·exact xL
   ·exact xR
   ·exact xE
  ·have hb:H5 b=none:=hb;simp only [ax,a8,bz] at e;rcases e with rfl|rfl|rfl
   ·rw [gL] at hb;cases hb
   ·rw [hR] at ho;cases ho
   ·rw [gE] at hb;cases hb
 have n1:∀ b∈ms3 L R E,H1 b=none:=λ b hb=>by
  simp only [ax,a8,bz] at hb;rcases hb with rfl|rfl|rfl
  ·exact zK s1x xL
  ·exact zK s1x xR
  ·exact zK s1x xE
 have s17:=s1x.trans sx7;generalize upd H6 R (.lst [.ref z])=H7 at W s17 ⊢;clear rx sx xL xE nLE gL gE q6 s6 s7 xR sx7 hR hz hdz;walk_at "go";let M1_:St->Hp->Prop:=λ σ' H'=>∃ rs,σ'=stK l 8 c kl (some (.ref L)) (some (.int fi)) (some (.ref E)) (some (oiV lp)) (some (.ref R)) none none none/\GS a H7 H' L R E bs rs es/\WInv bs rs es lp.toList/\rs.length<=bs.length/\bs.length<=3/\es.length=1;refine cut M1_ ?_ ?_
 ·have ok:Row.ok ⟨.source,[],[fi],1 + r,ks⟩:=⟨rfl,⟨_,rfl⟩,show (1:Int)<=1 + r by omega,show 1 + r<=4 by omega,k1,show ks.length<=6 by omega,kk⟩;rcases st with ⟨l1,I,rfl,rfl,rfl⟩|⟨l3,I,hf,rfl,rfl⟩
  ·walk_at "go";exact ⟨_,iA6 rfl W (I.knot (r:=⟨.source,[],[0],1 + r,ks⟩) (aU _) (aU _) ok) (by simp [l1]) (by omega) rfl⟩
  ·walk_at "go";refine zI (λ _=>?_) (λ z=>absurd (λ q=>nomatch q) z);obtain ⟨rv,hR,rR⟩:=W.hR;have lR:rv.length=1:=by rw [rR.len];rfl
   refine ⟨.inl ⟨rfl,_,SqL.of hR⟩,iE4 a.o _ _ _ ⟨(ZX T).mono,λ p hp=>?_⟩⟩;have s8:=zg (o:=.lst [.int fi,.int (1 - fi)]) hp;have g8:upd H7 p (.lst [.int fi,.int (1 - fi)]) p=some (.lst (iv [fi,1 - fi])):=upd_same;show ∀ z dz:Addr,upd H7 p (.lst [.int fi,.int (1 - fi)]) z=none->upd H7 p (.lst [.int fi,.int (1 - fi)]) dz=none->dz≠z->jt K a.o a.d [.ref z,.ref p,.int 2] (upd (upd (upd H7 p (.lst [.int fi,.int (1 - fi)])) dz (.own z)) z (.ins a.o dz [])) _ _
   generalize upd H7 p (.lst [.int fi,.int (1 - fi)])=H8 at s8 g8 ⊢;intro z dz hz hdz _;refine QA hz hdz g8 (by simp) (by simp) λ H9 s9 q9=>⟨rfl,?_⟩;obtain ⟨W9,_⟩:=(W.same s8).addR (s8 _ _ hR) s9 q9;have pf:[fi,1 - fi,2].Perm [0,1,2]:=by rcases hf with rfl|rfl <;> decide
   have I2:WInv bs [⟨.source,[],[fi],1 + r,ks⟩] [0,1,2] [1 - fi,2]:=I.knot (r:=⟨.source,[],[fi],1 + r,ks⟩) (aU _) pf ok;exact iE3 R _ _ (iA5 rfl rfl (s9 _ _ (s8 _ _ hR)) (zm (by omega)) ⟨_,iA6 rfl W9 (I2.knot (r:=⟨.joiner,[fi,1 - fi],[2],0,[]⟩) pf (List.Perm.swap ..) ⟨⟨_,rfl⟩,by simp,by simp⟩) (by simp [l3]) (by omega) rfl⟩)
 clear W st;intro σ' H8 zz_;refine oE1 zz_ λ rs z1_=>oA6 z1_ λ z2_ W I lr lb le=>?_;clear zz_;subst z2_;have s8:Same H1 H8:=(s17.fr.trans W.f).same n1;walk_at "go";let M2_:St->Hp->Prop:=λ σ' H'=>∃ (v9:Option V) (lp:Option Int) (bs:List (Int × Int)) (rs:List Row) (es:List Int),σ'=stK l 8 c kl (some (.ref L)) (some (.int fi)) (some (.ref E)) (some (oiV lp)) (some (.ref R)) v9 none none/\GS a H7 H' L R E bs rs es/\WInv bs rs es lp.toList/\rs.length<=bs.length/\bs.length<=7/\1<=es.length;refine cut M2_ ?_ ?_
 ·walk_at "for";walk_at "go";refine zbu (xZ s8 hl1) λ p hp=>?_;obtain ⟨cs,ecs⟩:=zgp ns;rw [ecs];have W1:=W.same (zg (o:=.lst (iv cs)) hp);have np:=W.off hp;have gp:upd H8 p (.lst (iv cs)) p=some (.lst (iv cs)):=upd_same;generalize upd H8 p (.lst (iv cs))=H9 at W1 gp ⊢;refine ⟨p,rfl,.inl ⟨⟨_,SqL.of gp⟩,?_⟩⟩;let M3_:Nat->St->Hp->Prop:=λ i σ' H'=>∃ (v9:Option V) (lp:Option Int) (bs:List (Int × Int)) (rs:List Row) (es:List Int),σ'=stK l 8 c kl (some (.ref L)) (some (.int fi)) (some (.ref E)) (some (oiV lp)) (some (.ref R)) v9 none none/\GS a H7 H' L R E bs rs es/\WInv bs rs es lp.toList/\rs.length<=bs.length/\bs.length<=7/\1<=es.length/\H' p=some (.lst (iv cs));refine qE (K:=K) (a:=p) (xs:=iv cs) M3_ (iE5 _ lp bs rs es (iA7 rfl W1 I lr (by omega) (by omega) gp)) (λ i σ H' _ h=>by obtain ⟨_,_,_,_,_,_,_,_,_,_,_,g⟩:=h;exact SqL.of g) ?_ ?_
  ·clear W1 gp W I lr lb le s8;intro i x σ' H10 hi zz_;refine oE5 zz_ λ v9 lp bs rs es z1_=>oA7 z1_ λ z2_ W I lr lb le gp=>?_;clear zz_;subst z2_;obtain ⟨y,hy,rfl⟩:=ZY hi;obtain ⟨bv,hL,rL⟩:=W.hL;have lL:bv.length=bs.length:=by rw [rL.len,ai]
   have el:=I.el;have s10:Same H1 H10:=(s17.fr.trans W.f).same n1;obtain ⟨k0,hk0⟩:∃ k0,ks[0]?=some k0:=⟨ks[0]'(by omega),ac _⟩;have hk:=kk k0 (af hk0);walk_at "go";refine ⟨_,.inl ⟨_,SqL.of hL,rfl⟩,?_⟩;rw [lL];walk_at "go";refine zI (λ _=>(iE5 _ lp bs rs es (iA6 rfl W I lr lb le))) (λ lt=>?_);walk_at "go";refine uc (zdN T).mono (zn (SqL.of (s10 _ _ g1)) (show atI (iv ks) ((0:Nat):Int)=some (.int k0) from zy (qM hk0)) ?_);refine iE5 L R E bs rs (iE4 es lp y k0 (iA6 rfl W.here I hk.1 hk.2 (iA5 (by omega) (by omega) (by omega) le (λ H11 bs2 rs2 es2 lp2 W2 I2 a1 a2 a3 a4=>?_))));exact iE5 _ lp2 bs2 rs2 es2 (iA7 rfl (W.trans W2) I2 (by omega) (by omega) a1 (W2.f _ _ np gp))
  ·intro σ' H10 zz_;refine oE5 zz_ λ v9 lp bs rs es z1_=>oA7 z1_ λ z2_ W I lr lb le gp=>?_;clear zz_;subst z2_;exact iE5 _ lp bs rs es (iA6 rfl W I lr lb le)
 clear W I lr lb le s8;intro σ' H8 zz_;refine oE5 zz_ λ v9 lp bs rs es z1_=>oA6 z1_ λ z2_ W I lr lb le=>?_;clear zz_;subst z2_;walk_at "go";let M4_:St->Hp->Prop:=λ σ' H'=>∃ (bs:List (Int × Int)) (rs:List Row) (es:List Int),σ'=stK l 8 c kl (some (.ref L)) (some (.int fi)) (some (.ref E)) (some (oiV lp)) (some (.ref R)) v9 none none/\GS a H7 H' L R E bs rs es/\WInv bs rs es []/\rs.length<=8/\bs.length<=8/\1<=es.length;refine cut M4_ ?_ ?_
 ·walk_at "go";cases lp with
  | none=>exact zI (λ z=>absurd rfl z) (λ _=>⟨bs,rs,es,rfl,W,I,by omega,by omega,le⟩)
  | some x =>
   refine zI (λ _=>?_) (λ z=>absurd (λ q=>nomatch q) z);obtain ⟨y,es2,rfl⟩:∃ y es2,es=y :: es2:=by cases es with|nil=>simp at le|cons x es2=>exact ⟨x,es2,rfl⟩
   obtain ⟨rv,hR,rR⟩:=W.hR;have lR:rv.length=rs.length:=by rw [rR.len,ai]
   have el:=I.el;rw [bT] at el;walk_at "go";refine ⟨.inl ⟨rfl,_,SqL.of hR⟩,iE4 a.l _ _ _ (iA3 ((ZW T).mono) (.inl ⟨rfl,_,SqL.of W.hE⟩) (iE5 E (iv (y :: es2)) 0 0 (.int y) (iA8 rfl rfl W.hE (by decide) (by decide) (Xa (by decide) (by simp [iv])) rfl ?_)))⟩;have W2:=W.setE es2;obtain ⟨bv,hL,rL⟩:=W2.hL;have lL:bv.length=bs.length:=by rw [rL.len,ai]
   have hR2:upd H8 E (.lst (iv es2)) R=some (.lst rv):=by rw [upd_ne W.nRE];exact hR
   refine ⟨gf,⟨_,⟨.inl ⟨_,SqL.of hL,rfl⟩,?_⟩⟩⟩;rw [lL];show ∀ p:Addr,upd H8 E (.lst (iv es2)) p=none->∀ z dz:Addr,upd (upd H8 E (.lst (iv es2))) p (.lst [.int x,.int bs.length]) z=none->upd (upd H8 E (.lst (iv es2))) p (.lst [.int x,.int bs.length]) dz=none->dz≠z->qG K a.l a.d [.ref z,.int y,.ref p] (upd (upd (upd (upd H8 E (.lst (iv es2))) p (.lst [.int x,.int bs.length])) dz (.own z)) z (.ins a.l dz [])) _ _
   generalize upd H8 E (.lst (iv es2))=H9 at W2 hR2 hL ⊢;intro p hp;have s3:=zg (o:=.lst [.int x,.int bs.length]) hp;have g3:upd H9 p (.lst [.int x,.int bs.length]) p=some (.lst (iv [x,bs.length])):=upd_same;generalize upd H9 p (.lst [.int x,.int bs.length])=H10 at s3 g3 ⊢;intro z dz hz hdz _;refine Qz hz hdz g3 (by simp) (by simp) λ H11 s4 q4=>⟨rfl,?_⟩;obtain ⟨W4,_⟩:=(W2.same s3).addR (s3 _ _ hR2) s4 q4;refine iE3 R _ _ (iA5 rfl rfl (s4 _ _ (s3 _ _ hR2)) (zm (by omega)) ?_);generalize upd H11 R _=H12 at W4 ⊢;obtain ⟨bv,hL,rL⟩:=W4.hL;have lL:bv.length=bs.length:=by rw [rL.len,ai]
   walk_at "go";refine iA3 (.inl ⟨rfl,_,SqL.of W4.hE⟩) gf ⟨_,⟨.inl ⟨_,SqL.of hL,rfl⟩,iE3 E _ _ (iA5 rfl rfl W4.hE (zm (by rw [zF];omega)) ?_)⟩⟩;rw [lL,je];have W5:=W4.setE (es2 ++ [(bs.length:Int)]);have hL5:upd H12 E (.lst (iv (es2 ++ [(bs.length:Int)]))) L=some (.lst bv):=by rw [upd_ne W4.nLE];exact hL
   generalize upd H12 E _=H13 at W5 hL5 ⊢;walk_at "go";refine ⟨.inl ⟨rfl,_,SqL.of hL5⟩,iE3 _ _ _ ⟨(xy T).mono,⟨_,rfl,λ zb H14 b s6 ob q6=>?_⟩⟩⟩;obtain ⟨W6,_⟩:=W5.addL hL5 s6 q6;exact iE3 L _ _ (iA5 rfl rfl (s6 _ _ hL5) (zm (by omega)) (iE3 _ _ _ (iA6 rfl W6 ((I.belt ob).knot (r:=⟨.parter,[y],[x,bs.length],0,[]⟩) (aU _) (aU _) ⟨⟨_,rfl⟩,by simp,by simp⟩) (by simp;omega) (by simp;omega) (by simp))))
 clear W I lr lb le;intro σ' H8 zz_;refine oE3 zz_ λ bs rs es z1_=>oA6 z1_ λ z2_ W I lr lb le=>?_;clear zz_;subst z2_;have el:=I.el;have em:∀ x∈es,0<=x/\x < 8:=λ x hx=>by have:=I.em hx;omega
 walk_at "go";let M5_:St->Hp->Prop:=λ σ' H'=>∃ (v10:Option V) (rs:List Row),σ'=stK l 8 c kl (some (.ref L)) (some (.int fi)) (some (.ref E)) (some (oiV lp)) (some (.ref R)) v9 v10 none/\GS a H7 H' L R E bs rs es/\WInv bs rs [] []/\rs.length<=16/\1<=rs.length;refine cut M5_ ?_ ?_
 ·walk_at "for";walk_at "go";refine ⟨E,rfl,.inl ⟨⟨_,SqL.of W.hE⟩,?_⟩⟩;let M6_:Nat->St->Hp->Prop:=λ i σ' H'=>∃ (v10:Option V) (rs':List Row),σ'=stK l 8 c kl (some (.ref L)) (some (.int fi)) (some (.ref E)) (some (oiV lp)) (some (.ref R)) v9 v10 none/\GS a H7 H' L R E bs rs' es/\WInv bs rs' (es.drop i) []/\rs'.length=rs.length + i;refine qE (K:=K) (a:=E) (xs:=iv es) M6_ (iE2 _ rs (iA4 rfl W I rfl)) (λ i σ H' _ h=>by obtain ⟨_,_,_,W,_⟩:=h;exact SqL.of W.hE) ?_ ?_
  ·clear W I;intro i x σ' H9 hi zz_;refine oE2 zz_ λ v10 rs' z1_=>oA4 z1_ λ z2_ W I lr'=>?_;clear zz_;subst z2_;obtain ⟨y,hy,rfl⟩:=ZY hi;have hil:=(aa.mp hy).1;obtain ⟨y0,y8⟩:=em y (af hy);obtain ⟨rv,hR,rR⟩:=W.hR;have lR:rv.length=rs'.length:=by rw [rR.len,ai]
   walk_at "go";refine ⟨.inl ⟨rfl,_,SqL.of hR⟩,iE4 a.k _ _ _ ⟨(wT T).mono,λ p hp=>(uc (qp T).mono (iA3 (mul_okR (by omega) (by omega)) (mul_okR (by decide) (by decide)) (iE3 _ 10093 6 (iA4 rfl (by decide) (by decide) (λ r r0 r6=>?_)))))⟩⟩;obtain ⟨pc,hpc,ep⟩:=Jk (ns:=[1,0,2,0,3,0]) r0 r6;have s2:=zg (o:=.lst (iv [1,0,2,0,3,0])) hp;refine zn (SqL.of upd_same) ep ?_;have pb:0<=pc/\pc<=4:=by
    simp only [ax,a8,bz] at hpc;omega
   clear ep hpc;show ∀ z dz:Addr,upd H9 p (.lst (iv [1,0,2,0,3,0])) z=none->upd H9 p (.lst (iv [1,0,2,0,3,0])) dz=none->dz≠z->xB a.k a.d [.ref z,.int y,.int pc] (upd (upd (upd H9 p (.lst (iv [1,0,2,0,3,0]))) dz (.own z)) z (.ins a.k dz [])) _ _
   generalize upd H9 p (.lst (iv [1,0,2,0,3,0]))=H10 at s2 ⊢;intro z dz hz hdz _;refine wm hz hdz pb.1 pb.2 λ H11 s3 q3=>⟨rfl,?_⟩;obtain ⟨W3,_⟩:=(W.same s2).addR (s2 _ _ hR) s3 q3;refine iE3 R _ _ (iA5 rfl rfl (s3 _ _ (s2 _ _ hR)) (zm (by omega)) (iE2 _ _ (iA4 rfl W3 (I.knot (r:=⟨.drain,[y],[],pc,[]⟩) ?_ (aU _) ⟨⟨_,rfl⟩,rfl,pb⟩) (by simp;omega))));rw [List.drop_eq_getElem_cons hil,(aa.mp hy).2];exact aU _
  ·intro σ' H9 zz_;refine oE2 zz_ λ v10 rs' z1_=>oA4 z1_ λ z2_ W I lr'=>?_;clear zz_;subst z2_;rw [zF] at lr' I;rw [List.drop_length] at I;exact iE2 _ rs' (iA5 rfl W I (by omega) (by omega))
 clear W I lr le el em;intro σ' H8 zz_;refine oE2 zz_ λ v10 rs z1_=>oA5 z1_ λ z2_ W I lr lr1=>?_;clear zz_;subst z2_;have s8:Same H1 H8:=(s17.fr.trans W.f).same n1;obtain ⟨bv,hL,rL⟩:=W.hL;obtain ⟨rv,hR,rR⟩:=W.hR;have lR:rv.length=rs.length:=by rw [rR.len,ai]
 walk_at "go";refine uc (qp T).mono ⟨gf,⟨_,⟨.inl ⟨_,SqL.of hR,rfl⟩,iE3 c 10099 _ (iA4 rfl (by decide) (by omega) (λ ctI ct0 ct1=>?_))⟩⟩⟩;obtain ⟨ct,rfl⟩:∃ m:Nat,ctI=m:=⟨ctI.toNat,by omega⟩;walk_at "go";refine iE4 a.q _ _ _ ⟨(Vy T).mono,zbu (SqL.of hR) λ q1 hq1=>?_⟩;rw [zfd rv ct (by omega)];have a1:=zg (o:=.lst (rv.drop ct)) hq1;refine zbu (SqL.of (a1 _ _ hR)) λ q2 hq2=>?_;rw [zfc rv ct];have a2:=zg (o:=.lst (rv.take ct)) hq2;refine ZO (SqL.of (a2 _ _ upd_same)) (SqL.of upd_same) (j9 (by rw [dH,aT];omega)) λ q3 hq3=>?_;have a3:=zg (o:=.lst (rv.drop ct ++ rv.take ct)) hq3;have sA:=(a1.trans a2).trans a3;have g3:upd (upd (upd H8 q1 (.lst (rv.drop ct))) q2 (.lst (rv.take ct))) q3 (.lst (rv.drop ct ++ rv.take ct)) q3=some (.lst (rv.drop ct ++ rv.take ct)):=upd_same;generalize upd (upd (upd H8 q1 (.lst (rv.drop ct))) q2 (.lst (rv.take ct))) q3 _=H9 at sA g3 ⊢;clear a1 a2 a3 hq1 hq2 hq3;have tr:∀ {H1 H2:Hp} {p:Addr->Prop} {vs:List V} {ds:List D},Reps H1 p vs ds->Same H1 H2->Reps H2 (λ _=>True) vs ds:=λ r s=>r.keep λ b o _ hb=>⟨trivial,s b o hb⟩;have b2:=tr ((rR.drop ct).append (rR.take ct)) sA;rw [<- List.map_drop,<- List.map_take,<- a7] at b2;have pm:=zeh rs ct;generalize rs.drop ct ++ rs.take ct=rs3 at b2 pm;generalize rv.drop ct ++ rv.take ct=rv3 at b2 g3;obtain ⟨wok,ro⟩:=I.work pm (by omega) (by omega) (by omega);intro z dz hz hdz _;exact Jm hz hdz (sA _ _ hL) g3 (tr rL sA) b2 wok I.bo ro λ H11 s11 r11=>⟨rfl,k _ _ _ _ (((s1.trans s8).trans sA).trans s11) r11 wok I.bo ro⟩
def zei {bs:List (Int × Int)} {rs:List Row} (wok:zH bs rs) (bo:∀ b∈bs,zu b.1 b.2) (ro:∀ r∈rs,r.ok) (i j:Nat):(jh bs rs i j).length=rs.length/\∀ (k:Nat) r g,rs[k]?=some r->(jh bs rs i j)[k]?=some g->g.length=(qC r).length:=by
 have w0:=qb wok bo ro i;have w1:=qb wok bo ro j;refine ⟨by unfold jh wp;rw [fq,w0.go.1,w1.go.1,Nat.min_self],λ k r g hr hg=>?_⟩;have hk:=(aa.mp hr).1;have a0:=ac (l:=(zk bs rs i).gone) (i:=k) (by rw [w0.go.1];exact hk);have a1:=ac (l:=(zk bs rs j).gone) (i:=k) (by rw [w1.go.1];exact hk);unfold jh wp at hg;rw [eY,a0,a1] at hg;cases hg;unfold QS;rw [ai,List.length_range];exact (w0.go.2 k r _ hr a0).1
def zgq {r:Row} (ok:r.ok):0 < (qC r).length:=by
 have:1<=r.ins.length\/1<=r.outs.length:=by
  obtain ⟨wd,ins,outs,pc,kd⟩:=r;cases wd
  ·obtain ⟨_,⟨o,q⟩,_⟩:=ok;simp only at q;subst q;simp
  ·obtain ⟨⟨o,q⟩,_⟩:=ok;simp only at q;subst q;simp
  ·obtain ⟨⟨o,q⟩,_⟩:=ok;simp only at q;subst q;simp
  ·obtain ⟨⟨o,q⟩,_⟩:=ok;simp only at q;subst q;simp
  ·obtain ⟨⟨o,q⟩,_⟩:=ok;simp only at q;subst q;simp
  ·obtain ⟨⟨o,q⟩,_⟩:=ok;simp only at q;subst q;simp
 unfold qC;rw [bb];omega
def qx (G:List (List Int)):Prop:=∀ g∈G,∀ n∈g,n<=0
def zh1 (a:Ad) (bs:List (Int × Int)) (rs:List Row) (i j:Nat) (_:Hp) (v:V) (H':Hp):Prop:=(qx (jh bs rs i j)/\∃ y n,v=.ref y/\StO a H' y n (zk bs rs i))\/(¬ qx (jh bs rs i j)/\v=.non)
def Zf (T:Txt K mg a):Cal P w K mg base "still_state" 9 ["work","limit"] [] (zd3 a (zh1 a)):=T.i0.cal λ F=>by
 refine F.okx JP ?_ ?_
 ·walk_at "i"
 walk_at "j";refine oE4 h λ vw lim bs rs z1_=>oA8 z1_ λ z2_ hv wok bo ro l1000 kQ kE=>?_;clear h;subst z2_;walk_at "T";refine ⟨_,(zi (zx 2 JP.nd (zt ⟨rfl,rfl,rfl⟩ hr (za (pq 0) (za (pq 1) zc))))  (zi (qK ji rfl (qd (zt ⟨rfl,rfl,rfl⟩ hr (za (zr (pq 2) zd) (za (zr (pq 2) zd) zc)))) (qk 3 JP.nd)  (ze (zD (zo Xf (zJ (zgu rfl) zfn (za (pq 3) zc)) zd (zq _))  (ze (zj zv))  zp)))  (ze (zj (zr (pq 2) zd))))),?_⟩;walk_at "go";refine uc (VL T).mono (iE4 vw lim bs rs (iA8 rfl hv wok bo ro l1000 (λ i j t y0 y1 n0 n1 H1 rnd s1 ht so0 so1=>?_) kE));obtain ⟨le,lg⟩:=zdy ro (qb wok bo ro i) (qb wok bo ro j);have l24:(zk bs rs i).gone.length<=24:=by rw [(qb wok bo ro i).go.1];exact wok.1.2.2
 obtain ⟨lG,lr⟩:=zei wok bo ro i j;walk_at "for";walk_at "go";refine uc (zaV T).mono (rd_ixT ht at0 (rd_ixT ht (show atI _ 1=some (.ref y1) from rfl) ?_));refine iE6 y0 y1 n0 n1 _ _ (iA7 rfl so0 so1 le l24 lg (λ gl gs H2 s2 ng _=>?_));have ng:NL H2 (zT H2) gl gs (qw (jh bs rs i j)):=ng;have lgs:gs.length=(jh bs rs i j).length:=by rw [ng.len,qw,ai]
 have kQ:∀ v,zh1 a bs rs i j H v H2->Q v H2:=λ v r=>kQ i j v H2 rnd (s1.trans s2) r;refine ⟨gl,rfl,.inl ⟨⟨_,SqL.of ng.out⟩,?_⟩⟩;refine qE (K:=K) (a:=gl) (xs:=gs.map V.ref) (λ m σ H'=>∃ (v3:Option V),σ=[some vw,some (.int lim),some (.ref t),v3]/\H'=H2/\∀ g∈(jh bs rs i j).take m,∀ n∈g,n<=0) ⟨_,iA3 rfl rfl (by simp)⟩ (λ m σ H' _ h=>by obtain ⟨_,_,rfl,_⟩:=h;exact SqL.of ng.out) ?_ ?_
 ·intro m x σ H3 hm zz_;refine oE1 zz_ λ v3 z1_=>oA3 z1_ λ z2_ z3_ hs=>?_;clear zz_;subst z2_ z3_;rw [aj,av] at hm;obtain ⟨b,hb,rfl⟩:=hm;have hml:m < (jh bs rs i j).length:=by rw [<- lgs];exact (aa.mp hb).1
  obtain ⟨g,eg⟩:∃ g,(jh bs rs i j)[m]?=some g:=⟨_,ac hml⟩;obtain ⟨b',hb',hg⟩:=VA ng eg;rw [hb] at hb';cases hb';obtain ⟨r,hr'⟩:∃ r,rs[m]?=some r:=⟨_,ac (by rw [<- lG];exact hml)⟩;have gp:0 < g.length:=by rw [lr m r g hr' eg];exact zgq (ro r (af hr'))
  walk_at "go";refine iE2 b g (iA4 rfl (SqL.of hg) gp (λ mx hx hmx=>?_));walk_at "go";refine zI (λ z=>kQ _ (.inr ⟨λ st=>?_,rfl⟩)) (λ z=>⟨_,rfl,λ g' hg' n hn=>?_⟩)
  ·have:=st g (af eg) mx hx;omega
  ·rw [aR,eg] at hg';rcases aD.mp hg' with h|h
   ·exact hs g' h n hn
   ·have e:g'=g:=by simpa using h
    subst e;have:=hmx n hn;omega
 ·intro σ H3 zz_;refine oE1 zz_ λ v3 z1_=>oA3 z1_ λ z2_ z3_ hs=>?_;clear zz_;subst z2_ z3_;rw [ai,lgs,aS] at hs;walk_at "go";exact rd_ixT (s2 _ _ ht) at0 (kQ _ (.inl ⟨hs,iE2 y0 n0 ⟨rfl,so0.same s2⟩⟩))
def zh7 (bs:List (Int × Int)) (rs:List Row) (i j:Nat) (_:Hp) (v:V) (_:Hp):Prop:=(qx (jh bs rs i j)/\v=.int i)\/(¬ qx (jh bs rs i j)/\v=.non)
def X3 (T:Txt K mg a) (F:FunD K "still_from" "still_from" qH f fd):FnOk P w K mg base (CXr P w) 10 f fd ["work","limit"] (zd3 a zh7):=by
 refine F.okx XS ?_ ?_
 ·walk_at "i"
 walk_at "j";obtain ⟨vw,lim,bs,rs,rfl,hv,wok,bo,ro,l1000,kQ,kE⟩:=h;walk_at "T";refine ⟨_,(zi (zx 2 XS.nd (zt ⟨rfl,rfl,rfl⟩ hr (za (pq 0) (za (pq 1) zc))))  (ze (zj (jQ (zo qL (pq 2) zv (zq _)) zv (zl (pq 2) rfl))))),?_⟩;walk_at "go";refine uc (Zf T).mono ⟨vw,lim,bs,rs,rfl,hv,wok,bo,ro,l1000,λ i j v H1 rnd s1 r=>?_,kE⟩;rcases r with ⟨st,y,n,rfl,so⟩|⟨st,rfl⟩
 ·walk_at "go";refine ra so.hy T.fH T.fP rfl ?_;rw [jc];exact kQ i j _ _ rnd s1 (.inl ⟨st,rfl⟩)
 ·walk_at "go";exact kQ i j _ _ rnd s1 (.inr ⟨st,rfl⟩)
def VJ (T:Txt K mg a):Cal P w K mg base "still_from" 10 ["work","limit"] [] (zd3 a zh7):=T.kq.cal (X3 T)
noncomputable def gAt (gs:List (List Int)) (i j:Nat):Int:=(gs.getD i []).getD j 0
def ze4 {gs:List (List Int)} {k p i j:Nat} (hk:k < gs.length) (hp:p < (gs.getD k []).length):gAt (gs.set k (Wc (gs.getD k []) p)) i j=gAt gs i j + if i=k/\j=p then 1 else 0:=by
 unfold gAt;by_cases e:k=i
 ·subst e;rw [ae (l:=gs.set _ _),aN hk,bt];unfold Wc;by_cases z:p=j
  ·subst z;rw [ae (l:=List.set _ _ _),aN hp,aq ⟨rfl,rfl⟩]
   rfl
  ·rw [qD z,am (λ q=>z q.2.symm)];omega
 ·rw [qD e,am (λ q=>e q.1.symm)];omega
noncomputable def jE:Nat->List zG->Int
 | _,[]=>0
 | p,x :: xs=>(if x=none then 0 else (p:Int)) + jE (p + 1) xs
theorem Vg {x:zG}:∀ {c:List zG} {p i:Nat},i < c.length->jE p (c.set i x)=jE p c + (if x=none then 0 else ((p + i:Nat):Int)) - (if c.getD i none=none then 0 else ((p + i:Nat):Int))
 | [],_,_,h=>by simp at h
 | y :: ys,p,0,_=>by
  show (if x=none then 0 else (p:Int)) + jE (p + 1) ys=(if y=none then 0 else (p:Int)) + jE (p + 1) ys + (if x=none then 0 else ((p + 0:Nat):Int)) - (if y=none then 0 else ((p + 0:Nat):Int))
  rw [Nat.add_zero];generalize (if x=none then (0:Int) else (p:Int))=u;generalize (if y=none then (0:Int) else (p:Int))=z;omega
 | y :: ys,p,i + 1,h=>by
  have ih:=Vg (x:=x) (c:=ys) (p:=p + 1) (i:=i) (by simpa using h);rw [show p + 1 + i=p + (i + 1) by omega] at ih;show (if y=none then 0 else (p:Int)) + jE (p + 1) (ys.set i x)=(if y=none then 0 else (p:Int)) + jE (p + 1) ys + _ - (if ys.getD i none=none then 0 else ((p + (i + 1):Nat):Int))
  rw [ih];generalize (if x=none then (0:Int) else ((p + (i + 1):Nat):Int))=u;generalize (if ys.getD i none=none then (0:Int) else ((p + (i + 1):Nat):Int))=v;generalize (if y=none then (0:Int) else (p:Int))=z;omega
def zap {c:List zG} {p:Nat} (h:p + 1 < c.length):jG c p=c\/jE 0 c < jE 0 (jG c p):=by
 unfold jG
 split
 ·rename_i e;by_cases z:c.getD p none=none
  ·have self:∀ {c:List zG} {i:Nat},i < c.length->c.getD i none=none->c.set i none=c:=λ {c i} hi e=>by
    rw [ae,ac hi] at e;have e:c[i]=none:=e;rw [<- e];exact List.set_getElem_self hi
   rw [z,self h e,self (by omega) z];exact .inl rfl
  ·refine .inr ?_;have e2:(c.set (p + 1) (c.getD p none)).getD p none=c.getD p none:=by
    rw [ae,bg (by omega),<- ae]
   rw [Vg (by simp;omega),Vg h,e2,e,aq rfl,aq rfl,am z,am z];omega
 ·exact .inl rfl
theorem zbw {c:List zG}:∀ k,k + 1<=c.length->xW c k=c\/jE 0 c < jE 0 (xW c k)
 | 0,_=>.inl rfl
 | k + 1,h=>by
  have ih:=zbw (c:=c) k (by omega);have st:=zap (c:=xW c k) (p:=c.length - 2 - k) (by rw [vA];omega);rw [xW];rcases ih with e|l
  ·rw [e] at st ⊢;exact st
  ·rcases st with e|l2
   ·rw [e];exact .inr l
   ·exact .inr (Int.lt_trans l l2)
theorem zaq (c:List zG):ZS c=c\/jE 0 c < jE 0 (ZS c):=by
 unfold ZS;cases c with
 | nil=>exact .inl rfl
 | cons x xs=>exact zbw _ (by simp)
theorem zep {bs:List (Int × Int)} {t:Int} {cs:List (List zG)} (b:Nat):∀ i,(z9 bs t cs i).getD b []=cs.getD b []\/jE 0 (cs.getD b []) < jE 0 ((z9 bs t cs i).getD b [])
 | 0=>.inl rfl
 | i + 1=>by
  have ih:=zep (bs:=bs) (t:=t) (cs:=cs) b i;rw [z9]
  split
  ·generalize z9 bs t cs i=ds at ih ⊢;by_cases e:i=b
   ·subst e;by_cases h:i < ds.length
    ·rw [ae (l:=ds.set _ _),aN h,bt];rcases ih with e|l
     ·rw [e];rcases zaq (cs.getD i []) with q|q
      ·exact .inl q
      ·exact .inr q
     ·rcases zaq (ds.getD i []) with q|q
      ·rw [q];exact .inr l
      ·exact .inr (Int.lt_trans l q)
    ·rw [cV (by omega)];exact ih
   ·rw [qD e];exact ih
  ·exact ih
theorem Wo {rs:List Row}:∀ {c d:List zG} (p:Nat),qA rs c=qA rs d->jE p c=jE p d
 | [],[],_,_=>rfl
 | [],_ :: _,_,h=>by simp [qA] at h
 | _ :: _,[],_,h=>by simp [qA] at h
 | x :: xs,y :: ys,p,h=>by
  unfold qA at h;rw [bL,bL,List.cons.injEq] at h;rw [jE,jE,Wo (p + 1) h.2];have:x=none ↔ y=none:=by
   have:=h.1;cases x <;> cases y <;> simp at this ⊢
  simp only [this]
theorem zfs {rs:List Row} {st:PSt} {k:Nat} (h:(qO rs st k).2=none):(qO rs st k).1=st:=by
 unfold qO at h ⊢;cases e:rs[k]? with
 | none=>rfl
 | some r =>
  rw [e] at h;simp only at h ⊢;cases e2:zO r (z8 rs st.cells r) (qB st.cells r) st.turn (st.sides.getD k 0).toNat with
  | none=>rfl
  | some ch=>rw [e2] at h;cases h
theorem ww {rs:List Row} {st:PSt}:∀ m,(zw rs st m).2=[]->(zw rs st m).1=st
 | 0,_=>rfl
 | m + 1,h=>by
  obtain ⟨h1,h2⟩:=eM.mp (show (zw rs st m).2 ++ (qO rs (zw rs st m).1 m).2.toList=[] from h);show (qO rs (zw rs st m).1 m).1=st
  rw [zfs (by cases e:(qO rs (zw rs st m).1 m).2 with|none=>rfl|some x=>rw [e] at h2;cases h2)];exact ww m h1
theorem zfr {bs:List (Int × Int)} {rs:List Row} {st:PSt} (w:stWf bs rs st) (ro:∀ r∈rs,r.ok) {k:Nat} (h:(qO rs st k).2≠none):∃ p r,rs[k]?=some r/\p < (qC r).length/\gAt st.gone k p < gAt (qO rs st k).1.gone k p:=by
 unfold qO at h ⊢;cases hr:rs[k]? with
 | none=>rw [hr] at h;exact absurd rfl h
 | some r =>
  rw [hr] at h;simp only at h ⊢;cases hc:zO r (z8 rs st.cells r) (qB st.cells r) st.turn (st.sides.getD k 0).toNat with
  | none=>rw [hc] at h;exact absurd rfl h
  | some ch =>
   have ok:=ro r (af hr);have hk:=(aa.mp hr).1;have sd:=w.so.2 k r _ hr (jf (d:=0) (by rw [w.so.1];exact hk));have sd':Zl r ((st.sides.getD k 0).toNat:Int):=by rw [dB sd.1];exact sd
   obtain ⟨_,_,_,_,_,c6⟩:=QF ok (by simp [z8]) (by simp [qB]) sd' hc;have hg:=w.go.2 k r _ hr (jf (xs:=st.gone) (d:=[]) (by rw [w.go.1];exact hk));refine ⟨xz r ch,r,rfl,c6,?_⟩;show _ < gAt ((movedF r st k ch).gone.set k _) k _
   rw [movedF_keep.2.2,ze4 (by rw [w.go.1];exact hk) (by rw [hg.1];exact c6),aq ⟨rfl,rfl⟩];omega
section
variable {bs:List (Int × Int)} {rs:List Row} (wok:zH bs rs) (bo:∀ b∈bs,zu b.1 b.2) (ro:∀ r∈rs,r.ok)
include wok bo ro
theorem WM {st:PSt} (w:stWf bs rs st):∀ m,(zw rs st m).2≠[]->∃ k p r,rs[k]?=some r/\p < (qC r).length/\gAt st.gone k p < gAt (zw rs st m).1.gone k p
 | 0,h=>absurd rfl h
 | m + 1,h=>by
  by_cases e:(zw rs st m).2=[]
  ·have h2:(qO rs (zw rs st m).1 m).2≠none:=λ z=>h (by show (zw rs st m).2 ++ (qO rs (zw rs st m).1 m).2.toList=[];rw [e,z];rfl);obtain ⟨p,r,hr,hp,hl⟩:=zfr (wx w wok bo ro m) ro h2;refine ⟨m,p,r,hr,hp,Int.lt_of_le_of_lt (QH rs st m p m) hl⟩
  ·obtain ⟨k,p,r,hr,hp,hl⟩:=WM w m e;exact ⟨k,p,r,hr,hp,Int.lt_of_lt_of_le hl (zaX rs _ m k p)⟩
noncomputable def mvd (bs:List (Int × Int)) (rs:List Row) (n:Nat):Bool:=!((zw rs (zk bs rs n) rs.length).2.isEmpty) || decide ((zk bs rs (n + 1)).cells≠(zk bs rs n).cells)
omit wok bo ro in
theorem zeG {n:Nat} (h:mvd bs rs n=false):(zw rs (zk bs rs n) rs.length).1=zk bs rs n/\(zk bs rs (n + 1)).cells=(zk bs rs n).cells:=by
 unfold mvd at h;rw [fg] at h;exact ⟨ww _ (by simpa using h.1),by simpa using h.2⟩
omit wok bo ro in
theorem stay {n:Nat} (h:mvd bs rs n=false):(zk bs rs (n + 1)).cells=(zk bs rs n).cells/\(zk bs rs (n + 1)).sides=(zk bs rs n).sides/\(zk bs rs (n + 1)).gone=(zk bs rs n).gone:=by
 obtain ⟨h1,h2⟩:=zeG h;refine ⟨h2,?_,?_⟩
 ·show (zw rs (zk bs rs n) rs.length).1.sides=_
  rw [h1]
 ·show (zw rs (zk bs rs n) rs.length).1.gone=_
  rw [h1]
omit wok bo ro in
theorem zd1 {i:Nat}:∀ m,(∀ n,i<=n->n < i + m->mvd bs rs n=false)->(zk bs rs (i + m)).cells=(zk bs rs i).cells/\(zk bs rs (i + m)).sides=(zk bs rs i).sides/\(zk bs rs (i + m)).gone=(zk bs rs i).gone
 | 0,_=>⟨rfl,rfl,rfl⟩
 | m + 1,h=>by
  obtain ⟨a1,a2,a3⟩:=zd1 (i:=i) m λ n h1 h2=>h n h1 (by omega);obtain ⟨b1,b2,b3⟩:=stay (h (i + m) (by omega) (by omega));exact ⟨b1.trans a1,b2.trans a2,b3.trans a3⟩
theorem VW {lim i j:Nat} (rd:RoundAt bs rs lim i j) (h:qx (jh bs rs i j)) (n:Nat) (h1:i<=n) (h2:n < j):mvd bs rs n=false:=by
 have hg:∀ k p r,rs[k]?=some r->p < (qC r).length->gAt (zk bs rs j).gone k p<=gAt (zk bs rs i).gone k p:=λ k p r hr hp=>by
  have w0:=qb wok bo ro i;have w1:=qb wok bo ro j;have hk:=(aa.mp hr).1;obtain ⟨g0,a0⟩:∃ g,(zk bs rs i).gone[k]?=some g:=⟨_,ac (by rw [w0.go.1];exact hk)⟩;obtain ⟨g1,a1⟩:∃ g,(zk bs rs j).gone[k]?=some g:=⟨_,ac (by rw [w1.go.1];exact hk)⟩;have l0:=(w0.go.2 k r _ hr a0).1;have m:QS g0 g1∈jh bs rs i j:=by
   refine af (i:=k) ?_;unfold jh wp;rw [eY,a0,a1]
  have:=h _ m (g1.getD p 0 - g0.getD p 0) (aW.mpr ⟨p,aY.mpr (by rw [l0];exact hp),rfl⟩);unfold gAt;rw [ae (l:=(zk bs rs j).gone),ae (l:=(zk bs rs i).gone),a0,a1];show g1.getD p 0<=g0.getD p 0
  omega
 have nm:∀ n,i<=n->n < j->(zw rs (zk bs rs n) rs.length).2=[]:=λ n h1 h2=>by
  refine bc λ no=>?_;obtain ⟨k,p,r,hr,hp,hl⟩:=WM wok bo ro (qb wok bo ro n) rs.length no;have m1:=Qs bs rs i k p (n - i);have m2:=Qs bs rs (n + 1) k p (j - (n + 1));rw [show i + (n - i)=n by omega] at m1;rw [show n + 1 + (j - (n + 1))=j by omega] at m2;have m3:=hg k p r hr hp;have hl:gAt (zk bs rs n).gone k p < gAt (zk bs rs (n + 1)).gone k p:=hl;unfold gAt at hl m3;omega
 have on:∀ n,i<=n->n < j->∀ b,(zk bs rs (n + 1)).cells.getD b []=(zk bs rs n).cells.getD b []\/jE 0 ((zk bs rs n).cells.getD b []) < jE 0 ((zk bs rs (n + 1)).cells.getD b []):=λ n h1 h2 b=>by
  have e:=ww _ (nm n h1 h2);have:(zk bs rs (n + 1)).cells=z9 bs (zk bs rs n).turn (zk bs rs n).cells bs.length:=by
   show z9 bs (zw rs (zk bs rs n) rs.length).1.turn (zw rs (zk bs rs n) rs.length).1.cells bs.length=_
   rw [e]
  rw [this];rcases zep (bs:=bs) (t:=(zk bs rs n).turn) (cs:=(zk bs rs n).cells) b bs.length with q|q
  ·exact .inl q
  ·exact .inr q
 have up:∀ b i' m,i<=i'->i' + m<=j->jE 0 ((zk bs rs i').cells.getD b [])<=jE 0 ((zk bs rs (i' + m)).cells.getD b []):=λ b i' m=>by
  induction m with
  | zero=>exact λ _ _=>bU _
  | succ m ih =>
   intro h1 h2;have:=ih h1 (by omega);rcases on (i' + m) (by omega) (by omega) b with q|q
   ·rw [show i' + (m + 1)=i' + m + 1 from rfl,q];exact this
   ·exact eP this (cE q)
 have ends:∀ b,jE 0 ((zk bs rs i).cells.getD b [])=jE 0 ((zk bs rs j).cells.getD b []):=λ b=>by
  have e:(zk bs rs i).cells.map (qA rs)=(zk bs rs j).cells.map (qA rs):=bP (λ z:ShK=>z.2.1) rd.eq;have hh:∀ cs:List (List zG),qA rs (cs.getD b [])=(cs.map (qA rs)).getD b []:=λ cs=>by
   rw [ae,ae,aj];cases cs[b]? <;> rfl
  exact Wo 0 (by rw [hh,hh,e])
 have same:∀ b,(zk bs rs (n + 1)).cells.getD b []=(zk bs rs n).cells.getD b []:=λ b=>by
  rcases on n h1 h2 b with q|q
  ·exact q
  ·have u1:=up b i (n - i) (ar _) (by omega);have u2:=up b (n + 1) (j - (n + 1)) (by omega) (by omega);rw [show i + (n - i)=n by omega] at u1;rw [show n + 1 + (j - (n + 1))=j by omega] at u2;have:=ends b;omega
 have ce:(zk bs rs (n + 1)).cells=(zk bs rs n).cells:=by
  have l1:=(qb wok bo ro (n + 1)).co.1;have l2:=(qb wok bo ro n).co.1;refine List.ext_getElem (by rw [l1,l2]) λ b hb1 hb2=>?_;have:=same b;rw [ae,ae,ac hb1,ac hb2] at this;exact this
 unfold mvd;rw [nm n h1 h2,ce];simp
end
section
variable {bs:List (Int × Int)} {rs:List Row}
def vK {n:Int} (bo:∀ b∈bs,zu b.1 b.2) (ro:∀ r∈rs,r.ok) (h:xP bs rs n):0 < n/\n<=4:=by
 rcases h with ⟨b,hb,rfl⟩|⟨r,hr,hw,rfl,hp⟩
 ·have h:=bo b hb;exact ⟨by have:=h.2.2.1;omega,h.2.2.2⟩
 ·exact ⟨hp,(zag (ro r hr) hw).2⟩
def zcH (bo:∀ b∈bs,zu b.1 b.2) (ro:∀ r∈rs,r.ok):∃ L,QJ bs rs L:=by
 have hm:∀ n,n∈(bs.map (·.2) ++ (rs.filter λ r=>decide ((r.wd=.source\/r.wd=.drain)/\0 < r.pace)).map Row.pace) ↔ xP bs rs n:=λ n=>by
  simp only [aD,aW,cw,bZ,xP];constructor
  ·rintro (⟨b,hb,e⟩|⟨r,⟨hr,hw,hp⟩,e⟩)
   ·exact .inl ⟨b,hb,e⟩
   ·exact .inr ⟨r,hr,hw,e,by rw [<- e];exact hp⟩
  ·rintro (⟨b,hb,e⟩|⟨r,hr,hw,e,hp⟩)
   ·exact .inl ⟨b,hb,e⟩
   ·exact .inr ⟨r,⟨hr,hw,by rw [e];exact hp⟩,e⟩
 obtain ⟨L,hL⟩:=IsLcm.ex (ns:=bs.map (·.2) ++ (rs.filter λ r=>decide ((r.wd=.source\/r.wd=.drain)/\0 < r.pace)).map Row.pace) λ n hn=>by
  have b4:=vK bo ro ((hm n).mp hn);omega
 exact ⟨L,_,hL,hm⟩
def zgw {n:Int} (bo:∀ b∈bs,zu b.1 b.2) (ro:∀ r∈rs,r.ok) (h:xP bs rs n):n ∣ xO bs rs:=by
 obtain ⟨L,hL⟩:=zcH bo ro;rw [<- XG hL];obtain ⟨ns,il,im⟩:=hL;exact il.dv n ((im n).mpr h)
end
theorem QI {rs:List Row} {st:PSt}:∀ m,(zw rs st m).2=[]->∀ k,k < m->(qO rs st k).2=none
 | 0,_,_,hk=>absurd hk (bn _)
 | m + 1,h,k,hk=>by
  obtain ⟨h1,h2⟩:=eM.mp (show (zw rs st m).2 ++ (qO rs (zw rs st m).1 m).2.toList=[] from h);by_cases e:k=m
  ·subst e;rw [ww k h1] at h2;cases e:(qO rs st k).2 with
   | none=>rfl
   | some x=>rw [e] at h2;cases h2
  ·exact QI m h1 k (by omega)
theorem WD {rs:List Row} {st:PSt} {k:Nat} {r:Row} (hr:rs[k]?=some r) (h:(qO rs st k).2=none):zO r (z8 rs st.cells r) (qB st.cells r) st.turn (st.sides.getD k 0).toNat=none:=by
 unfold qO at h;rw [hr] at h;simp only at h;cases e:zO r (z8 rs st.cells r) (qB st.cells r) st.turn (st.sides.getD k 0).toNat with
 | none=>rfl
 | some ch=>rw [e] at h;cases h
theorem zgO {c:List zG}:∀ m k,k + m + 1<=c.length->jE 0 (xW c k)<=jE 0 (xW c (k + m))
 | 0,_,_=>bU _
 | m + 1,k,h=>by
  have ih:=zgO (c:=c) m k (by omega);have st:=zap (c:=xW c (k + m)) (p:=c.length - 2 - (k + m)) (by rw [vA];omega);show _<=jE 0 (jG (xW c (k + m)) (c.length - 2 - (k + m)))
  rcases st with e|l
  ·rw [e];exact ih
  ·omega
def Zv (c:List zG):Prop:=∀ p,p + 1 < c.length->c.getD (p + 1) none=none->c.getD p none=none
def zfZ {c:List zG} (h:ZS c=c):Zv c:=λ p hp e=>by
 have same:∀ k,k + 1<=c.length->xW c k=c:=λ k hk=>by
  rcases zbw (c:=c) k hk with z|z
  ·exact z
  ·have u:=zgO (c:=c) (c.length - 1 - k) k (by omega);rw [show k + (c.length - 1 - k)=c.length - 1 by omega,show xW c (c.length - 1)=c from h] at u;omega
 have s1:=same (c.length - 2 - p + 1) (by omega);rw [xW,same (c.length - 2 - p) (by omega),show c.length - 2 - (c.length - 2 - p)=p by omega] at s1;unfold jG at s1;rw [aq e] at s1;have g:((c.set (p + 1) (c.getD p none)).set p none).getD (p + 1) none=c.getD p none:=by
  rw [ae,bg (by omega),aN hp]
  rfl
 rw [s1,e] at g;exact g.symm
theorem Qx {c:List zG} (h:Zv c):∀ d p,p + d < c.length->c.getD (p + d) none=none->c.getD p none=none
 | 0,_,_,e=>e
 | d + 1,p,hl,e=>Qx h d p (by omega) (h (p + d) (by omega) e)
def zey {c:List zG} (h:Zv c) {x:zG} (hx:x∈c) (nx:x≠none):zZ c≠none:=λ e=>by
 obtain ⟨p,hp,rfl⟩:=cX hx;have he:c.getD (c.length - 1) none=zZ c:=by
  unfold zZ;rw [ae,aX,bp]
 have:=Qx h (c.length - 1 - p) p (by omega) (by rw [show p + (c.length - 1 - p)=c.length - 1 by omega,he];exact e);rw [ae,ac hp] at this;exact nx this
def zde {c:List zG} (h:Zv c) (nb:zb5 c≠none) {x:zG} (hx:x∈c):x≠none:=λ e=>by
 obtain ⟨p,hp,rfl⟩:=cX hx;have:=Qx h p 0 (by omega) (by rw [Nat.zero_add,ae,ac hp];exact e);refine nb ?_;rw [<- this];cases c <;> rfl
theorem zgL {bs:List (Int × Int)} {t:Int} {cs:List (List zG)} {b:Nat} (hb:b < cs.length) (ht:t % (bs.getD b (0,1)).2=0):∀ n,(z9 bs t cs n).length=cs.length/\(z9 bs t cs n).getD b []=if b < n then ZS (cs.getD b []) else cs.getD b []
 | 0=>⟨rfl,rfl⟩
 | n + 1=>by
  obtain ⟨l,ih⟩:=zgL (cs:=cs) hb ht n;rw [z9];by_cases e:n=b
  ·subst e;rw [aq ht,aq (b9 _)];rw [am (cq _)] at ih;refine ⟨by rw [ck];exact l,?_⟩;rw [ae,aN (by rw [l];exact hb),ih]
   rfl
  ·have q:(if b < n + 1 then ZS (cs.getD b []) else cs.getD b [])=if b < n then ZS (cs.getD b []) else cs.getD b []:=by
    by_cases z:b < n
    ·rw [aq z,aq (by omega)]
    ·rw [am z,am (by omega)]
   rw [q]
   split
   ·exact ⟨by rw [ck];exact l,by rw [qD e];exact ih⟩
   ·exact ⟨l,ih⟩
theorem zcq {bs:List Bool} {side:Nat}:∀ n k,Xz bs side n k=none->∀ d,d < n->bs.getD ((side + (k + d)) % bs.length) false=false
 | 0,_,_,_,h=>absurd h (bn _)
 | n + 1,k,h,d,hd=>by
  unfold Xz at h
  split at h
  ·cases h
  ·rename_i e;cases d with
   | zero=>rw [Nat.add_zero];simpa using e
   | succ d =>
    have:=zcq n (k + 1) h d (by omega);rw [show k + (d + 1)=k + 1 + d by omega];exact this
def ZA {bs:List Bool} {side:Nat} (h:jC bs side=none) {p:Nat} (hp:p < bs.length):bs.getD p false=false:=by
 have hl:0 < bs.length:=by omega
 have:=zcq bs.length 0 h ((p + bs.length - side % bs.length) % bs.length) (db _ hl);have e:(side + (0 + (p + bs.length - side % bs.length) % bs.length)) % bs.length=p:=by
  have m:=db side hl;rw [Nat.zero_add,Nat.add_mod,Nat.mod_mod];by_cases z:side % bs.length<=p
  ·rw [show p + bs.length - side % bs.length=p - side % bs.length + bs.length by omega,Nat.add_mod_right,c7 (a:=p - side % bs.length) (by omega),show side % bs.length + (p - side % bs.length)=p by omega,c7 hp]
  ·rw [c7 (a:=p + bs.length - side % bs.length) (by omega),show side % bs.length + (p + bs.length - side % bs.length)=p + bs.length by omega,Nat.add_mod_right,c7 hp]
 rw [e] at this;exact this
section
variable {bs:List (Int × Int)} {rs:List Row} (wok:zH bs rs) (bo:∀ b∈bs,zu b.1 b.2) (ro:∀ r∈rs,r.ok) {lim i j:Nat} (rd:RoundAt bs rs lim i j)
include bo ro rd
theorem WO {n:Int} (h:xP bs rs n):∃ t,i<=t/\t < j/\(t:Int) % n=0:=by
 obtain ⟨c,hc⟩:=zgw bo ro h;obtain ⟨n0,n4⟩:=vK bo ro h;have lt:=rd.lt;have et:(zk bs rs i).turn % xO bs rs=(zk bs rs j).turn % xO bs rs:=aI (bP (λ z:ShK=>z.1) rd.eq);rw [jc,jc] at et;obtain ⟨q,hq⟩:=Int.dvd_of_emod_eq_zero (dr.mp et.symm);have hd:n ∣ (j:Int) - i:=⟨c * q,by rw [<- Int.mul_assoc,<- hc];exact hq⟩;rcases (by omega:n=1\/n=2\/n=3\/n=4) with rfl|rfl|rfl|rfl
 ·exact ⟨i,ar _,lt,by omega⟩
 ·exact ⟨i + i % 2,by omega,by omega,by omega⟩
 ·exact ⟨i + (3 - i % 3) % 3,by omega,by omega,by omega⟩
 ·exact ⟨i + (4 - i % 4) % 4,by omega,by omega,by omega⟩
include wok
theorem JE (st:qx (jh bs rs i j)) {t:Nat} (h1:i<=t) (h2:t < j):(zk bs rs t).cells=(zk bs rs i).cells/\(zk bs rs (t + 1)).cells=(zk bs rs i).cells/\(zw rs (zk bs rs t) rs.length).2=[]:=by
 have no:=λ n a b=>VW wok bo ro rd st n a b;have s1:=(zd1 (bs:=bs) (rs:=rs) (i:=i) (t - i) λ n a b=>no n a (by omega)).1;rw [show i + (t - i)=t by omega] at s1;have e:=no t h1 h2;refine ⟨s1,(zeG e).2.trans s1,?_⟩;unfold mvd at e;rw [fg] at e;simpa using e.1
theorem JD (st:qx (jh bs rs i j)) {b:Nat} (hb:b < bs.length):Zv ((zk bs rs i).cells.getD b []):=by
 have eb:=ac hb;have hm:=af eb;obtain ⟨t,t1,t2,ht⟩:=WO bo ro rd (n:=bs[b].2) (.inl ⟨_,hm,rfl⟩);obtain ⟨c1,c2,nm⟩:=JE wok bo ro rd st t1 t2;refine zfZ ?_;have e:=ww _ nm;have on:(zk bs rs (t + 1)).cells=z9 bs (zk bs rs t).turn (zk bs rs t).cells bs.length:=by
  show z9 bs (zw rs (zk bs rs t) rs.length).1.turn (zw rs (zk bs rs t) rs.length).1.cells bs.length=_
  rw [e]
 have lc:(zk bs rs t).cells.length=bs.length:=(qb wok bo ro t).co.1;have:=(zgL (bs:=bs) (t:=(zk bs rs t).turn) (cs:=(zk bs rs t).cells) (b:=b) (by rw [lc];exact hb) (by rw [jc,ae,eb];exact ht) bs.length).2;rw [<- on,aq hb,c2,c1] at this;exact this.symm
end
noncomputable def jP (rs:List Row) (cs:List (List zG)) (r:Row) (b:Int):Option Int:=match r.wd with
 | .drain=>none
 | .sieve=>some (r.outs.getD (if j6 rs (zZ (zE cs b))=some (r.kinds.headD 0) then 0 else 1) 0)
 | _=>some (r.outs.getD 0 0)
def Js {cs:List (List zG)} {r:Row} {p:Nat} (hp:p < r.outs.length) (h:(qB cs r).getD p false=false):r.outs.getD p 0∈r.outs/\zb5 (zE cs (r.outs.getD p 0))≠none:=by
 have e:r.outs.getD p 0=r.outs[p]:=by rw [ae,ac hp];rfl
 rw [e];refine ⟨br hp,λ z=>?_⟩;rw [qB,ae,aj,ac hp] at h;have h:decide (zb5 (zE cs r.outs[p])=none)=false:=h;rw [z] at h;exact absurd h (by simp)
def ze5 (cs:List (List zG)) (r:Row):(qB cs r).length=r.outs.length:=by simp [qB]
theorem JC {bs:List (Int × Int)} {rs:List Row} (wok:zH bs rs) (bo:∀ b∈bs,zu b.1 b.2) (ro:∀ r∈rs,r.ok) {lim i j:Nat} (rd:RoundAt bs rs lim i j) (st:qx (jh bs rs i j)) {k q:Nat} {r:Row} {b:Int} (hr:rs[k]?=some r) (hq:r.ins[q]?=some b) (ne:zZ (zE (zk bs rs i).cells b)≠none) :
  (r.wd=.drain/\r.pace=0/\jP rs (zk bs rs i).cells r b=none)\/(r.wd≠.drain/\∃ x,jP rs (zk bs rs i).cells r b=some x/\x∈r.outs/\zb5 (zE (zk bs rs i).cells x)≠none):=by
 have hk:=(aa.mp hr).1;have mr:=af hr;have ok:=ro r mr;have lt:=rd.lt;have ch:∀ t,i<=t->t < j->zO r (z8 rs (zk bs rs i).cells r) (qB (zk bs rs i).cells r) t ((zk bs rs t).sides.getD k 0).toNat=none:=λ t h1 h2=>by
  obtain ⟨c1,_,nm⟩:=JE wok bo ro rd st h1 h2;have:=WD hr (QI _ nm k hk);rw [c1,jc] at this;exact this
 have hd:(z8 rs (zk bs rs i).cells r).getD q none≠none:=λ z=>by
  rw [z8,ae,aj,hq] at z;have z:j6 rs (zZ (zE (zk bs rs i).cells b))=none:=z;cases e:zZ (zE (zk bs rs i).cells b) with
  | none=>exact ne e
  | some x=>rw [e] at z;cases z
 generalize (zk bs rs i).cells=cs at ch hd ne ⊢;have c0:=ch i (ar _) lt;have fl:=ze5 cs r;obtain ⟨wd,ins,outs,pace,kinds⟩:=r;have q0:∀ o,ins=[o]->q=0:=λ o e=>by
  have:=(aa.mp hq).1;rw [show (⟨wd,ins,outs,pace,kinds⟩:Row).ins=[o] from e] at this;simpa using this
 cases wd
 ·have e:ins=[]:=ok.1;subst e;simp at hq
 ·refine .inl ⟨rfl,?_,rfl⟩;refine bc λ np=>?_;have p0:0 < pace:=by have:=ok.2.2.1;simp only at this;have np:pace≠0:=np;omega
  obtain ⟨t,t1,t2,ht⟩:=WO bo ro rd (n:=pace) (.inr ⟨_,mr,.inr rfl,rfl,p0⟩);have c:=ch t t1 t2;obtain ⟨o,e⟩:=ok.1;rw [q0 o e] at hd;unfold zO at c;simp only at c;rw [am (λ z=>by rcases z with z|z|z;exact np z;exact hd z;exact z ht)] at c;cases c
 ·obtain ⟨o,e⟩:=ok.1;rw [q0 o e] at hd;have o2:2<=outs.length:=ok.2.1;unfold zO at c0;simp only at c0;rw [am hd,cD] at c0;exact .inr ⟨(λ z=>nomatch z),_,rfl,Js (r:=⟨.parter,ins,outs,pace,kinds⟩) (p:=0) (show 0 < outs.length by omega) (ZA c0 (by rw [fl];show 0 < outs.length;omega))⟩
 ·obtain ⟨o,e⟩:=ok.1;rw [q0 o e] at hd;have o2:2<=outs.length:=ok.2.1;unfold zO at c0;simp only at c0;rw [am hd,cD] at c0;exact .inr ⟨(λ z=>nomatch z),_,rfl,Js (r:=⟨.first,ins,outs,pace,kinds⟩) (p:=0) (show 0 < outs.length by omega) (ZA c0 (by rw [fl];show 0 < outs.length;omega))⟩
 ·obtain ⟨o,e⟩:=ok.1;have eb:(z8 rs cs ⟨.sieve,ins,outs,pace,kinds⟩).getD 0 none=j6 rs (zZ (zE cs b)):=by
   rw [<- q0 o e,z8,ae,aj,hq]
   rfl
  rw [q0 o e] at hd;have o2:outs.length=2:=ok.2.1;unfold zO at c0;simp only at c0;rw [am hd,eb] at c0;refine .inr ⟨(λ z=>nomatch z),_,rfl,Js (r:=⟨.sieve,ins,outs,pace,kinds⟩) (p:=if j6 rs (zZ (zE cs b))=some (kinds.headD 0) then 0 else 1) (show (if j6 rs (zZ (zE cs b))=some (kinds.headD 0) then 0 else 1) < outs.length by split <;> omega) ?_⟩;generalize (if j6 rs (zZ (zE cs b))=some (kinds.headD 0) then 0 else 1)=p at c0;cases z:(qB cs ⟨.sieve,ins,outs,pace,kinds⟩).getD p false with
  | false=>rfl
  | true=>rw [aq z] at c0;cases c0
 ·obtain ⟨o,e⟩:=ok.1;have e:outs=[o]:=e;unfold zO at c0;simp only at c0;refine .inr ⟨(λ z=>nomatch z),_,rfl,Js (r:=⟨.joiner,ins,outs,pace,kinds⟩) (p:=0) (show 0 < outs.length by rw [e];simp) ?_⟩;cases z:(qB cs ⟨.joiner,ins,outs,pace,kinds⟩).getD 0 false with
  | false=>rfl
  | true =>
   rw [aq z,cD] at c0;have ql:q < ins.length:=(aa.mp hq).1;have:=ZA c0 (p:=q) (by rw [ai,z8,ai];exact ql);rw [ae,aj] at this;rw [ae] at hd;cases e2:(z8 rs cs ⟨.joiner,ins,outs,pace,kinds⟩)[q]? with
   | none=>rw [e2] at hd;exact absurd rfl hd
   | some x =>
    rw [e2] at this hd;cases x with
    | none=>exact absurd rfl hd
    | some y=>cases this
def zb7 (bs:List (Int × Int)) (rs:List Row):Prop:=∀ lim i j,RoundAt bs rs lim i j->qx (jh bs rs i j)->j<=200
noncomputable def lnR (k1 k2:List Int):List Row:=[⟨.source,[],[0],3,k1⟩,⟨.source,[],[1],4,k2⟩,⟨.drain,[0],[],1,[]⟩,⟨.drain,[1],[],1,[]⟩]
theorem zbB {k1 k2:List Int} (wok:zH [(1,1),(1,1)] (lnR k1 k2)) (bo:∀ b∈[((1:Int),(1:Int)),(1,1)],zu b.1 b.2) (ro:∀ r∈lnR k1 k2,r.ok):zb7 [(1,1),(1,1)] (lnR k1 k2):=λ lim i j rd st=>by
 refine absurd ?_ (show ¬ (1:Int)=0 by decide);obtain ⟨t,t1,t2,ht⟩:=WO bo ro rd (n:=3) (.inr ⟨⟨.source,[],[0],3,k1⟩,bK ..,.inl rfl,rfl,by decide⟩);obtain ⟨c1,_,nm⟩:=JE wok bo ro rd st t1 t2;have c:=WD (k:=0) (r:=⟨.source,[],[0],3,k1⟩) rfl (QI _ nm 0 (show 0 < 4 by decide));rw [c1,jc] at c;have w:=(qb wok bo ro i).co;obtain ⟨d,hd⟩:∃ d,(zk [(1,1),(1,1)] (lnR k1 k2) i).cells[0]?=some d:=⟨_,ac (by rw [w.1];exact dP _)⟩;have ld:=(w.2 0 (1,1) d rfl hd).1;have ec:zE (zk [(1,1),(1,1)] (lnR k1 k2) i).cells 0=d:=by
  show List.getD _ 0 []=d
  rw [ae,hd]
  rfl
 have ne:zZ (zE (zk [(1,1),(1,1)] (lnR k1 k2) i).cells 0)≠none:=λ z=>by
  unfold zO qB at c;simp only [bL,map_nil] at c;rw [ec] at c z;have eb:zb5 d=none:=by
   match d,ld,z with
   | [x],_,z=>exact z
  rw [eb,aq ⟨rfl,ht⟩] at c;cases c
 rcases JC wok bo ro rd st (k:=2) (q:=0) (r:=⟨.drain,[0],[],1,[]⟩) (b:=0) rfl rfl ne with ⟨_,z,_⟩|⟨z,_⟩
 ·exact z
 ·exact absurd rfl z
noncomputable def lgB:List (Int × Int):=[(6,4),(6,4),(6,4),(1,1),(1,1)]
noncomputable def lgR (k:Int):List Row:=[⟨.source,[],[0],4,[k]⟩,⟨.first,[0],[1,3],0,[]⟩,⟨.first,[1],[2,4],0,[]⟩,⟨.drain,[2],[],0,[]⟩,⟨.drain,[3],[],0,[]⟩,⟨.drain,[4],[],0,[]⟩]
theorem zht (k:Int) (st:PSt):∀ i,qO (lgR k) st i=qO (lgR 0) st i
 | 0=>rfl
 | 1=>by
  show (match zO _ [j6 (lgR k) (zZ (zE st.cells 0))] _ _ _ with|none=>_|some ch=>_)=(match zO _ [j6 (lgR 0) (zZ (zE st.cells 0))] _ _ _ with|none=>_|some ch=>_)
  cases zZ (zE st.cells 0) <;> rfl
 | 2=>by
  show (match zO _ [j6 (lgR k) (zZ (zE st.cells 1))] _ _ _ with|none=>_|some ch=>_)=(match zO _ [j6 (lgR 0) (zZ (zE st.cells 1))] _ _ _ with|none=>_|some ch=>_)
  cases zZ (zE st.cells 1) <;> rfl
 | 3=>rfl
 | 4=>rfl
 | 5=>rfl
 | _ + 6=>rfl
theorem zbH (k:Int) (st:PSt):∀ m,zw (lgR k) st m=zw (lgR 0) st m
 | 0=>rfl
 | m + 1=>by rw [zw,zw,zbH k st m,zht]
theorem Vw (k:Int):∀ n,zk lgB (lgR k) n=zk lgB (lgR 0) n
 | 0=>rfl
 | n + 1=>by rw [zk,zk,Vw k n];unfold passF;rw [zbH];rfl
def zhs (k:Int) (n:Nat):mvd lgB (lgR k) n=mvd lgB (lgR 0) n:=by
 unfold mvd;rw [Vw,Vw k (n + 1),zbH]
 rfl
def zeL:((List.range 12).all λ m=>!(mvd lgB (lgR 0) (80 + m)))=true:=by decide +kernel
def V9 {bs:List (Int × Int)} {rs:List Row} {i m:Nat} (h:∀ n,i<=n->n < i + m->mvd bs rs n=false) (d:xO bs rs ∣ (m:Int)):qi bs rs i=qi bs rs (i + m):=by
 obtain ⟨a1,a2,a3⟩:=zd1 m h;have e1:(zk bs rs i).turn % xO bs rs=(zk bs rs (i + m)).turn % xO bs rs:=by
  rw [jc,jc];refine (dr.mpr (Int.emod_eq_zero_of_dvd ?_)).symm;rw [show ((i + m:Nat):Int) - i=m by omega];exact d
 unfold qi zbd;rw [e1,a1,a2]
 congr 3
 refine List.map_congr_left λ q _=>?_;unfold xV;rw [a3]
def zdk {kk:Int} (bo:∀ b∈lgB,zu b.1 b.2) (ro:∀ r∈lgR kk,r.ok):zb7 lgB (lgR kk):=λ lim i j rd _=>by
 have sh:qi lgB (lgR kk) 80=qi lgB (lgR kk) (80 + 12):=V9 (λ n h1 h2=>by
  have:=cf.mp zeL (n - 80) (aY.mpr (by omega));rw [show 80 + (n - 80)=n by omega,<- zhs kk] at this;simpa using this) (by
  obtain ⟨L,hL⟩:=zcH bo ro;rw [<- XG hL];obtain ⟨ns,il,im⟩:=hL;refine il.least _ λ n hn=>?_;obtain ⟨n0,n4⟩:=vK bo ro ((im n).mp hn);rcases (by omega:n=1\/n=2\/n=3\/n=4) with rfl|rfl|rfl|rfl <;> decide)
 exact bc λ no=>rd.fst 80 (80 + 12) (by decide) (by omega) sh
def zf9 {k1 k2:List Int} (a1:1<=k1.length) (a6:k1.length<=6) (ak:wy k1) (b1:1<=k2.length) (b6:k2.length<=6) (bk:wy k2):zH [(1,1),(1,1)] [⟨.source,[],[0],3,k1⟩,⟨.source,[],[1],4,k2⟩,⟨.drain,[0],[],1,[]⟩,⟨.drain,[1],[],1,[]⟩]/\(∀ b∈[((1:Int),(1:Int)),(1,1)],zu b.1 b.2)/\∀ r∈([⟨.source,[],[0],3,k1⟩,⟨.source,[],[1],4,k2⟩,⟨.drain,[0],[],1,[]⟩,⟨.drain,[1],[],1,[]⟩]:List Row),r.ok:=by
 refine ⟨⟨⟨⟨by simp,by simp⟩,by simp,by simp⟩,?_,?_⟩,λ b hb=>?_,λ r hr=>?_⟩
 ·show List.Perm [0,1] [0,1]
  exact aU _
 ·show List.Perm [0,1] [0,1]
  exact aU _
 ·simp only [ax,a8,bz] at hb;rcases hb with rfl|rfl <;> exact ⟨by decide,by decide,by decide,by decide⟩
 ·simp only [ax,a8,bz] at hr;rcases hr with rfl|rfl|rfl|rfl
  ·exact ⟨rfl,⟨_,rfl⟩,show (1:Int)<=3 by decide,show (3:Int)<=4 by decide,a1,a6,ak⟩
  ·exact ⟨rfl,⟨_,rfl⟩,show (1:Int)<=4 by decide,show (4:Int)<=4 by decide,b1,b6,bk⟩
  ·exact ⟨⟨_,rfl⟩,rfl,by decide,by decide⟩
  ·exact ⟨⟨_,rfl⟩,rfl,by decide,by decide⟩
def ZN {H1 H2:Hp} {p:Addr->Prop} {vs:List V} {ds:List D} (r:Reps H1 p vs ds) (s:Same H1 H2):Reps H2 (λ _=>True) vs ds:=r.keep λ b o _ hb=>⟨trivial,s b o hb⟩
def xU {H1 H2:Hp} {p:Addr->Prop} {v:V} {d:D} (r:Rep H1 p v d) (s:Same H1 H2):Rep H2 (λ _=>True) v d:=r.keep λ b o _ hb=>⟨trivial,s b o hb⟩
def zfM {bs:List (Int × Int)} (h:bs.length=3):zH bs [⟨.parter,[0],[1,2],0,[]⟩,⟨.joiner,[1,2],[0],0,[]⟩]/\∀ r∈([⟨.parter,[0],[1,2],0,[]⟩,⟨.joiner,[1,2],[0],0,[]⟩]:List Row),r.ok:=by
 refine ⟨⟨⟨⟨by omega,by omega⟩,by simp,by simp⟩,?_,?_⟩,λ r hr=>?_⟩
 ·rw [h];show List.Perm [1,2,0] [0,1,2]
  decide
 ·rw [h];exact aU _
 ·simp only [ax,a8,bz] at hr;rcases hr with rfl|rfl
  ·exact ⟨⟨_,rfl⟩,by simp,by simp⟩
  ·exact ⟨⟨_,rfl⟩,by simp,by simp⟩
def ziy (K:PySem.W.Frag) (a:Ad):Sp:=λ vs H Q _=>∃ (l:Addr) (ns:List Int),vs=[.ref l]/\SqL K H l (iv ns)/\∀ vw H' bs rs,Same H H'->Rep H' (Off []) vw (zX a bs rs)->zH bs rs->(∀ b∈bs,zu b.1 b.2)->(∀ r∈rs,r.ok)->Q vw H'
def zb4 (T:Txt K mg a):Cal P w K mg base "_law_closed" 7 ["_law_cells"] [] (ziy K a):=T.lA.cal λ F=>by
 refine F.okx zae ?_ ?_
 ·walk_at "i"
 walk_at "j";refine oE2 h λ l ns z1_=>oA3 z1_ λ z2_ hl k=>?_;clear h;subst z2_;walk_at "T";refine ⟨_,(zi (QN (i:=1) zae.nd rfl (Or.inl rfl) (vars:=["_law_k"]) (caps:=[0]) (N:=["_law_k","_law_cells"]) (ON:=["_law_cells","_law_belts"]) (osc:=zf wL) rfl rfl (by first|decide +kernel|kernel_rfl) rfl rfl (wN (za zd zc)) (λ s H fp pins=>(qk 0 (show (["_law_k","_law_cells"]:List Str).Nodup from by decide +kernel))) (λ s H fp pins=>qf) (λ s H fp pins=>(Zt hr (za (Zt hr (za (pq 1) (za (pq 0) zc))) zc))))  (ze (zj (qa (x:="Work") ⟨rfl,rfl,rfl⟩ hr (za (pq 1) (za (zC (za (qa (x:="Parter") ⟨rfl,rfl,rfl⟩ hr (za zd (za (zC (za zd (za zd zc))) zc))) (za (qa (x:="Joiner") ⟨rfl,rfl,rfl⟩ hr (za (zC (za zd (za zd zc))) (za zd zc))) zc))) zc)))))),?_⟩;walk_at "lc";walk_at "go";refine λ _ _ _ _ acc hacc=>?_;let M1_:Nat->St->Hp->Prop:=λ j σ H'=>∃ (v:Option V) (ws:List V) (bs:List (Int × Int)),σ=[v,some (.ref l)]/\Same H H'/\H' acc=some (.lst ws)/\Reps H' (Off [acc]) ws (bs.map (j8 a))/\bs.length=j/\∀ b∈bs,zu b.1 b.2;refine Zd (n:=(3:Int).toNat) M1_ (iE3 _ ([]) ([]) (iA6 rfl (zg hacc) upd_same (.nil) rfl (λ _ z=>nomatch z))) ?_ ?_
 ·intro j σ H2 hj zz_;refine oE3 zz_ λ v ws bs z1_=>oA6 z1_ λ z2_ s2 ha rw2 lb bo=>?_;clear zz_;subst z2_;have lw:ws.length=bs.length:=by rw [rw2.len,ai]
  have hj:j < 3:=hj;walk_at "go";simp only [dc];refine uc (xy T).mono (uc (jk T).mono (iE3 l ns j (iA3 rfl (xZ s2 hl) ⟨_,⟨rfl,λ z H3 b s3 ob q3=>?_⟩⟩)));have f3:Fr [acc] H3 (upd H3 acc (.lst (ws ++ [.ref z]))):=jH (by simp);refine ⟨ws,iA3 (s3 _ _ ha) (zm (by omega)) (iE3 _ (ws ++ [.ref z]) (bs ++ [b]) (iA6 rfl (λ b o hb=>by rw [upd_ne (ne_of_none hb hacc)];exact s3 _ _ (s2 b o hb)) upd_same ?_ (by simp [lb]) (λ x hx=>?_)))⟩
  ·rw [a7];exact ((rw2.same s3).fr f3).append (.one (Rep.fr (q3.keep λ b o hb ho=>⟨(λ e=>by have hb:H2 b=none:=hb;rw [ay.mp e,ha] at hb;cases hb),ho⟩) f3))
  ·rcases aD.mp hx with hx|hx
   ·exact bo x hx
   ·rw [ay.mp hx];exact ob
 intro σ H2 zz_;refine oE3 zz_ λ v ws bs z1_=>oA6 z1_ λ z2_ s2 ha rw2 lb bo=>?_;clear zz_;subst z2_;walk_at "go";refine iE4 a.q _ _ _ ⟨(Vy T).mono,iE4 a.l _ _ _ ⟨(ZW T).mono,λ p hp=>?_⟩⟩;have s3:=zg (o:=.lst [.int 1,.int 2]) hp;have g3:upd H2 p (.lst [.int 1,.int 2]) p=some (.lst (iv [1,2])):=upd_same;generalize upd H2 p (.lst [.int 1,.int 2])=H3 at s3 g3 ⊢;intro k1 e1 hk1 he1 _;refine Qz hk1 he1 g3 (by simp) (by simp) λ H4 s4 q4=>⟨rfl,iE4 a.o _ _ _ ⟨(ZX T).mono,λ p2 hp2=>?_⟩⟩;have s5:=zg (o:=.lst [.int 1,.int 2]) hp2;have g5:upd H4 p2 (.lst [.int 1,.int 2]) p2=some (.lst (iv [1,2])):=upd_same;generalize upd H4 p2 (.lst [.int 1,.int 2])=H5 at s5 g5 ⊢;intro k2 e2 hk2 he2 _;refine QA hk2 he2 g5 (by simp) (by simp) λ H6 s6 q6=>⟨rfl,λ R hR=>?_⟩;have s7:=zg (o:=.lst [.ref k1,.ref k2]) hR;have g7:upd H6 R (.lst [.ref k1,.ref k2]) R=some (.lst [.ref k1,.ref k2]):=upd_same;generalize upd H6 R (.lst [.ref k1,.ref k2])=H7 at s7 g7 ⊢;have t47:=(s5.trans s6).trans s7;have t27:=(s3.trans s4).trans t47;obtain ⟨wok,ro⟩:=zfM (bs:=bs) lb;intro z dz hz hdz _;exact Jm hz hdz (t27 _ _ ha) g7 (ZN rw2 t27) (.cons (xU q4 t47) (.one (xU q6 s7))) wok bo ro λ H8 s8 r8=>⟨rfl,k _ _ _ _ ((s2.trans t27).trans s8) r8 wok bo ro⟩
def zfD (K:PySem.W.Frag) (a:Ad):Sp:=λ vs H Q _=>∃ (l:Addr) (ns:List Int) (pk:Int),vs=[.ref l,.int pk]/\SqL K H l (iv ns)/\0<=pk/\pk < 2/\∀ vw H' bs rs,Same H H'->Rep H' (Off []) vw (zX a bs rs)->zH bs rs->(∀ b∈bs,zu b.1 b.2)->(∀ r∈rs,r.ok)->zb7 bs rs->Q vw H'
theorem zdL (T:Txt K mg a):Cal P w K mg base "_law_lanes" 7 ["_law_cells","_law_pick"] [] (zfD K a):=T.lQ.cal λ F=>by
 refine F.okx zbl ?_ ?_
 ·walk_at "i"
 walk_at "j";refine oE3 h λ l ns pk z1_=>oA5 z1_ λ z2_ hl p0 p2 k=>?_;clear h;subst z2_;walk_at "T";refine ⟨_,(zi (zen (i:=2) zbl.nd rfl (Or.inr rfl) (Qu (zt ⟨rfl,rfl,rfl⟩ hr (za (pq 0) (za zd zc)))))  (zi (QN (i:=3) zbl.nd rfl (Or.inl rfl) (vars:=["_law_many"]) (caps:=[2]) (N:=["_law_many","_law_first"]) (ON:=["_law_cells","_law_pick","_law_first","_law_kinds_here","_law_lanes_here"]) (osc:=zf vN) rfl rfl (by first|decide +kernel|kernel_rfl) rfl rfl (qd (zr (zC (za (qS (za zd (za zd zc))) (za (qS (za zd (za zd zc))) zc))) (pq 1))) (λ s H fp pins=>(qk 0 (show (["_law_many","_law_first"]:List Str).Nodup from by decide +kernel))) (λ s H fp pins=>qf) (λ s H fp pins=>(jY (vars:=["_law_j"]) (caps:=[1]) (N:=["_law_j","_law_first"]) (ON:=["_law_many","_law_first"]) (osc:=_) rfl rfl (by first|decide +kernel|kernel_rfl) rfl rfl (wN (za (pq 0) zc)) (λ s H fp pins=>(qk 0 (show (["_law_j","_law_first"]:List Str).Nodup from by decide +kernel))) (λ s H fp pins=>qf) (λ s H fp pins=>(zR qq (pq 1) (pq 0))))))  (zi (zx 4 zbl.nd (zC (za (qa (x:="Source") ⟨rfl,rfl,rfl⟩ hr (za zd (za zd (za (zr (pq 3) zd) zc)))) (za (qa (x:="Source") ⟨rfl,rfl,rfl⟩ hr (za zd (za zd (za (zr (pq 3) zd) zc)))) (za (qa (x:="Drain") ⟨rfl,rfl,rfl⟩ hr (za zd (za zd zc))) (za (qa (x:="Drain") ⟨rfl,rfl,rfl⟩ hr (za zd (za zd zc))) zc))))))  (ze (zj (qa (x:="Work") ⟨rfl,rfl,rfl⟩ hr (za (zC (za (qa (x:="Belt") ⟨rfl,rfl,rfl⟩ hr (za zd (za zd zc))) (za (qa (x:="Belt") ⟨rfl,rfl,rfl⟩ hr (za zd (za zd zc))) zc))) (za (pq 4) zc)))))))),?_⟩;walk_at "go";refine uc (jk T).mono (iE3 l ns 0 (iA3 rfl hl ?_));walk_at "go";have x0:=bM (jD ns 0) (show (100000000000000000000000000000:Int)≠0 by decide);have x1:=bu (jD ns 0) (show (0:Int) < 100000000000000000000000000000 by decide);generalize jD ns 0 % 100000000000000000000000000000=c at x0 x1 ⊢;walk_at "lc";walk_at "go";intro p hp p1 hp1 p2 hp2;have sA:=((zg (o:=.tup [V.int 5,.int 4]) hp).trans (zg (o:=.tup [V.int 3,.int 5]) hp1)).trans (zg (o:=.lst [V.ref p,.ref p1]) hp2);have g1:=upd_keep (o:=.lst [V.ref p,.ref p1]) (upd_keep (o:=.tup [V.int 3,.int 5]) (upd_same (H:=H) (a:=p) (o:=.tup [V.int 5,.int 4])) hp1) hp2;have g2:=upd_keep (o:=.lst [V.ref p,.ref p1]) (upd_same (H:=upd H p (.tup [V.int 5,.int 4])) (a:=p1) (o:=.tup [V.int 3,.int 5])) hp2;have g3:upd (upd (upd H p (.tup [V.int 5,.int 4])) p1 (.tup [V.int 3,.int 5])) p2 (.lst [V.ref p,.ref p1]) p2=some (.lst [V.ref p,.ref p1]):=upd_same;generalize upd (upd (upd H p (.tup [V.int 5,.int 4])) p1 (.tup [V.int 3,.int 5])) p2 (.lst [V.ref p,.ref p1])=H1 at sA g1 g2 g3 ⊢;obtain ⟨tc,u1,u2,etc,htc,a1,a6,b1,b6⟩:∃ (tc:Addr) (u1 u2:Int),atI [V.ref p,.ref p1] (pk)=some (.ref tc)/\H1 tc=some (.tup [.int u1,.int u2])/\1<=u1/\u1<=6/\1<=u2/\u2<=6:=by
  have h:pk=0\/pk=1:=by omega
  rcases h with h|h <;> rw [h]
  ·exact iE3 p 5 4 (iA6 rfl g1 (by decide) (by decide) (by decide) (by decide))
  ·exact iE3 p1 3 5 (iA6 rfl g2 (by decide) (by decide) (by decide) (by decide))
 refine zn (SqL.of g3) etc ?_;clear g1 g2 g3 etc hp hp1 hp2;refine ⟨tc,rfl,.inr ⟨⟨_,SqT.of htc⟩,λ _ _ _ _ acc hacc=>?_⟩⟩;let M1_:Nat->St->Hp->Prop:=λ i σ H'=>∃ (v:Option V) (as:List Addr),σ=[v,some (.int c)]/\Same H1 H'/\H' acc=some (.lst (as.map V.ref))/\as.length=i/\∀ (j:Nat) b,as[j]?=some b->b≠acc/\∃ kd:List Int,H' b=some (.lst (iv kd))/\1<=kd.length/\kd.length<=6/\wy kd;refine zig (K:=K) (a:=tc) (xs:=[.int u1,.int u2]) M1_ (iE2 _ ([]) (iA5 rfl (zg hacc) upd_same rfl (λ j b h=>by simp at h))) (λ i σ H' _ ⟨_,_,_,s,_⟩=>SqT.of (s _ _ htc)) ?_ ?_
 ·intro i x σ H2 hi zz_;refine oE2 zz_ λ v as z1_=>oA5 z1_ λ z2_ s2 ha la hk=>?_;clear zz_;subst z2_;obtain ⟨u,rfl,ub,u6⟩:∃ u:Int,x=.int u/\1<=u/\u<=6:=by
   match i,hi with
   | 0,hi=>cases hi;exact ⟨u1,rfl,a1,a6⟩
   | 1,hi=>cases hi;exact ⟨u2,rfl,b1,b6⟩
  have la2:i < 2:=(aa.mp hi).1;walk_at "lc";walk_at "go";refine ⟨by omega,by omega,λ _ _ _ _ ac2 hac2=>?_⟩;let M2_:Nat->St->Hp->Prop:=λ j σ H'=>∃ v ks,σ=[v,some (.int c)]/\Same H2 H'/\ks.length=j/\wy ks/\H' ac2=some (.lst (iv ks));refine Zd (n:=u.toNat) M2_ (iE2 _ ([]) (iA5 rfl (zg hac2) rfl (λ _ z=>nomatch z) upd_same)) ?_ ?_
  ·intro j σ H3 hj zz_;refine oE2 zz_ λ v ks z1_=>oA5 z1_ λ z2_ s3 lk hkk ha3=>?_;clear zz_;subst z2_;walk_at "go";obtain ⟨kk,ek,y0,y1⟩:∃ kk,c + (0 + (j:Int))=kk/\0<=kk/\kk < jd:=⟨_,rfl,by omega,by unfold jd;omega⟩;rw [ek];refine ⟨_,iA3 ha3 (zm (by rw [zF];omega)) (iE2 _ (ks ++ [kk]) (iA5 rfl (λ b o hb=>by rw [upd_ne (ne_of_none hb hac2)];exact s3 b o hb) (by simp [lk]) ?_ (by rw [upd_same,je])))⟩;intro z hz;rcases aD.mp hz with hz|hz
   ·exact hkk z hz
   ·rw [ay.mp hz];exact ⟨y0,y1⟩
  intro σ H3 zz_;refine oE2 zz_ λ v ks z1_=>oA5 z1_ λ z2_ s3 lk hkk ha3=>?_;clear zz_;subst z2_;have nac:ac2≠acc:=(ne_of_none ha hac2).symm;refine ⟨_,iA3 (s3 _ _ ha) (zm (by rw [ai];omega)) (iE2 _ (as ++ [ac2]) (iA5 rfl (λ b o hb=>by rw [upd_ne (ne_of_none hb hacc)];exact s3 _ _ (s2 b o hb)) (by rw [upd_same];simp) (by simp [la]) (λ j b h=>?_)))⟩;by_cases hj:j < as.length
  ·rw [aQ hj] at h;refine oA2 (hk j b h) λ n1 z1_=>oE1 z1_ λ kd z2_=>oA2 z2_ λ h1 h2=>?_;exact ⟨n1,⟨kd,⟨by rw [upd_ne n1];exact s3 _ _ h1,h2⟩⟩⟩
  ·rw [aM (by omega)] at h;have:=(aa.mp h).1;rw [show j - as.length=0 by simp at this;omega] at h;cases h;exact ⟨nac,⟨ks,iA4 (by rw [upd_ne nac];exact ha3) (by omega) (by omega) hkk⟩⟩
 intro σ H2 zz_;refine oE2 zz_ λ v as z1_=>oA5 z1_ λ z2_ s2 ha la hk=>?_;clear zz_;subst z2_;obtain ⟨q1,q2,rfl⟩:∃ q1 q2,as=[q1,q2]:=by
  match as,la with
  | [x,y],_=>exact ⟨x,y,rfl⟩
 refine oA2 (hk 0 q1 rfl) λ _ z1_=>oE1 z1_ λ kd1 z2_=>oA4 z2_ λ h1 k11 k16 kk1=>?_;refine oA2 (hk 1 q2 rfl) λ _ z1_=>oE1 z1_ λ kd2 z2_=>oA4 z2_ λ h2 k21 k26 kk2=>?_;have ha:H2 acc=some (.lst [V.ref q1,.ref q2]):=ha;clear hk la htc hacc;walk_at "go";refine iE4 a.j _ _ _ ⟨(wo T).mono,zn (SqL.of ha) at0 ?_⟩;intro z1 d1 hz1 hd1 _;refine wj hz1 hd1 h1 (by decide) (by decide) k11 k16 kk1 λ H3 s3 w1=>⟨rfl,?_⟩;refine iE4 a.j _ _ _ ⟨(wo T).mono,zn (SqL.of (s3 _ _ ha)) (show atI _ 1=some (.ref q2) from rfl) ?_⟩;intro z2 d2 hz2 hd2 _;refine wj hz2 hd2 (s3 _ _ h2) (by decide) (by decide) k21 k26 kk2 λ H4 s4 w2=>⟨rfl,?_⟩;refine iE4 a.k _ _ _ ⟨(wT T).mono,?_⟩;intro z3 d3 hz3 hd3 _;refine wm hz3 hd3 (by decide) (by decide) λ H5 s5 w3=>⟨rfl,?_⟩;refine iE4 a.k _ _ _ ⟨(wT T).mono,?_⟩;intro z4 d4 hz4 hd4 _;refine wm hz4 hd4 (by decide) (by decide) λ H6 s6 w4=>⟨rfl,?_⟩;intro R hR;have s7:=zg (o:=.lst [V.ref z1,.ref z2,.ref z3,.ref z4]) hR;have hR7:upd H6 R (.lst [V.ref z1,.ref z2,.ref z3,.ref z4]) R=some (.lst [V.ref z1,.ref z2,.ref z3,.ref z4]):=upd_same;generalize upd H6 R (.lst [V.ref z1,.ref z2,.ref z3,.ref z4])=H7 at s7 hR7 ⊢;walk_at "go";refine iE4 a.q _ _ _ ⟨(Vy T).mono,(iE4 a.h _ _ _ ⟨(Zy T).mono,?_⟩)⟩;intro b1 f1 hb1 hf1 _;refine vR hb1 hf1 (iA4 (by decide) (by decide) (by decide) (by decide)) λ H8 s8 r1=>⟨rfl,?_⟩;refine iE4 a.h _ _ _ ⟨(Zy T).mono,?_⟩;intro b2 f2 hb2 hf2 _;refine vR hb2 hf2 (iA4 (by decide) (by decide) (by decide) (by decide)) λ H9 s9 r2=>⟨rfl,?_⟩;intro L hL;have s10:=zg (o:=.lst [V.ref b1,.ref b2]) hL;have hL10:upd H9 L (.lst [V.ref b1,.ref b2]) L=some (.lst [V.ref b1,.ref b2]):=upd_same;generalize upd H9 L (.lst [V.ref b1,.ref b2])=H10 at s10 hL10 ⊢;have tr:∀ {H1 H2:Hp} {p:Addr->Prop} {v:V} {d:D},Rep H1 p v d->Same H1 H2->Rep H2 (λ _=>True) v d:=λ r s=>r.keep λ b o _ hb=>⟨trivial,s b o hb⟩;have t7:=(s8.trans s9).trans s10;have t6:=s7.trans t7;have t5:=s6.trans t6;have t4:=s5.trans t5;have t3:=s4.trans t4;obtain ⟨o1,o2,o3⟩:=zf9 k11 k16 kk1 k21 k26 kk2;intro z dz hz hdz _;refine Jm (p:=λ _=>True) (q:=λ _=>True) (bs:=[(1,1),(1,1)]) (rs:=[⟨.source,[],[0],3,kd1⟩,⟨.source,[],[1],4,kd2⟩,⟨.drain,[0],[],1,[]⟩,⟨.drain,[1],[],1,[]⟩]) hz hdz hL10 (t7 _ _ hR7) (.cons (tr r1 (s9.trans s10)) (.cons (tr r2 s10) .nil)) (.cons (tr w1 t3) (.cons (tr w2 t4) (.cons (tr w3 t5) (.cons (tr w4 t6) .nil)))) o1 o2 o3 λ H11 s11 r11=>⟨rfl,k _ _ _ _ (((sA.trans s2).trans (s3.trans t3)).trans s11) r11 o1 o2 o3 (zbB o1 o2 o3)⟩
def zf7 {bs:List (Int × Int)} {kk:Int} (h:bs.length=5) (k0:0<=kk) (k1:kk < jd):zH bs [⟨.source,[],[0],4,[kk]⟩,⟨.first,[0],[1,3],0,[]⟩,⟨.first,[1],[2,4],0,[]⟩,⟨.drain,[2],[],0,[]⟩,⟨.drain,[3],[],0,[]⟩,⟨.drain,[4],[],0,[]⟩]/\∀ r∈([⟨.source,[],[0],4,[kk]⟩,⟨.first,[0],[1,3],0,[]⟩,⟨.first,[1],[2,4],0,[]⟩,⟨.drain,[2],[],0,[]⟩,⟨.drain,[3],[],0,[]⟩,⟨.drain,[4],[],0,[]⟩]:List Row),r.ok:=by
 refine ⟨⟨⟨⟨by omega,by omega⟩,by simp,by simp⟩,?_,?_⟩,λ r hr=>?_⟩
 ·rw [h];show List.Perm [0,1,3,2,4] [0,1,2,3,4]
  decide
 ·rw [h];exact aU _
 ·simp only [ax,a8,bz] at hr;rcases hr with rfl|rfl|rfl|rfl|rfl|rfl
  ·exact ⟨rfl,⟨_,rfl⟩,show (1:Int)<=4 by decide,show (4:Int)<=4 by decide,by simp,by simp,λ z hz=>by rw [ay.mp hz];exact ⟨k0,k1⟩⟩
  ·exact ⟨⟨_,rfl⟩,by simp,by simp⟩
  ·exact ⟨⟨_,rfl⟩,by simp,by simp⟩
  ·exact ⟨⟨_,rfl⟩,rfl,by decide,by decide⟩
  ·exact ⟨⟨_,rfl⟩,rfl,by decide,by decide⟩
  ·exact ⟨⟨_,rfl⟩,rfl,by decide,by decide⟩
def zhV (K:PySem.W.Frag) (a:Ad):Sp:=λ vs H Q _=>∃ (l:Addr) (ns:List Int),vs=[.ref l]/\SqL K H l (iv ns)/\∀ vw H' bs rs,Same H H'->Rep H' (Off []) vw (zX a bs rs)->zH bs rs->(∀ b∈bs,zu b.1 b.2)->(∀ r∈rs,r.ok)->zb7 bs rs->Q vw H'
def zfk (T:Txt K mg a):Cal P w K mg base "_law_long" 7 ["_law_cells"] [] (zhV K a):=T.md.cal λ F=>by
 refine F.okx zcY ?_ ?_
 ·walk_at "i"
 walk_at "j";refine oE2 h λ l ns z1_=>oA3 z1_ λ z2_ hl k=>?_;clear h;subst z2_;walk_at "T";refine ⟨_,(zi (zx 1 zcY.nd (zR qq (jY (vars:=["_law_k"]) (caps:=[]) (N:=["_law_k"]) (ON:=["_law_cells","_law_belts","_law_knots"]) (osc:=zf ZL) rfl rfl (by first|decide +kernel|kernel_rfl) rfl rfl (wN (za zd zc)) (λ s H fp pins=>(qk 0 (show (["_law_k"]:List Str).Nodup from by decide +kernel))) (λ s H fp pins=>qf) (λ s H fp pins=>(zeu (x:="Belt") hr (za zd (za zd zc))))) (zC (za (qa (x:="Belt") ⟨rfl,rfl,rfl⟩ hr (za zd (za zd zc))) (za (qa (x:="Belt") ⟨rfl,rfl,rfl⟩ hr (za zd (za zd zc))) zc)))))  (zi (zx 2 zcY.nd (zC (za (qa (x:="Source") ⟨rfl,rfl,rfl⟩ hr (za zd (za zd (za (zC (za (Qu (zt ⟨rfl,rfl,rfl⟩ hr (za (pq 0) (za zd zc)))) zc)) zc)))) (za (qa (x:="FirstParter") ⟨rfl,rfl,rfl⟩ hr (za zd (za (zC (za zd (za zd zc))) zc))) (za (qa (x:="FirstParter") ⟨rfl,rfl,rfl⟩ hr (za zd (za (zC (za zd (za zd zc))) zc))) zc)))))  (ze (zj (qa (x:="Work") ⟨rfl,rfl,rfl⟩ hr (za (pq 1) (za (zR qq (pq 2) (zC (za (qa (x:="Drain") ⟨rfl,rfl,rfl⟩ hr (za zd (za zd zc))) (za (qa (x:="Drain") ⟨rfl,rfl,rfl⟩ hr (za zd (za zd zc))) (za (qa (x:="Drain") ⟨rfl,rfl,rfl⟩ hr (za zd (za zd zc))) zc))))) zc))))))),?_⟩;walk_at "lc";walk_at "go";refine λ _ _ _ _ acc hacc=>?_;let M1_:Nat->St->Hp->Prop:=λ j σ H'=>∃ (v:Option V) (ws:List V) (bs:List (Int × Int)),σ=[v]/\Same H H'/\H' acc=some (.lst ws)/\Reps H' (Off [acc]) ws (bs.map (j8 a))/\bs.length=j/\(∀ b∈bs,zu b.1 b.2)/\bs=List.replicate j (6,4);refine Zd (n:=(3:Int).toNat) M1_ (iE3 _ ([]) ([]) (iA7 rfl (zg hacc) upd_same (.nil) rfl (λ _ z=>nomatch z) rfl)) ?_ ?_
 ·intro j σ H2 hj zz_;refine oE3 zz_ λ v ws bs z1_=>oA7 z1_ λ z2_ s2 ha rw2 lb bo eb=>?_;clear zz_;subst z2_;have lw:ws.length=bs.length:=by rw [rw2.len,ai]
  have hj:j < 3:=hj;walk_at "go";refine iE4 a.h _ _ _ ⟨(Zy T).mono,?_⟩;intro z dz hz hdz _;have ob:zu 6 4:=⟨by decide,by decide,by decide,by decide⟩;refine vR hz hdz ob λ H3 s3 q3=>⟨rfl,?_⟩;have f3:Fr [acc] H3 (upd H3 acc (.lst (ws ++ [.ref z]))):=jH (by simp);refine ⟨ws,iA3 (s3 _ _ ha) (zm (by omega)) (iE3 _ (ws ++ [.ref z]) (bs ++ [(6,4)]) (iA7 rfl (λ b o hb=>by rw [upd_ne (ne_of_none hb hacc)];exact s3 _ _ (s2 b o hb)) upd_same ?_ (by simp [lb]) (λ x hx=>?_) (by rw [eb];exact List.replicate_succ'.symm)))⟩
  ·rw [a7];exact ((rw2.same s3).fr f3).append (.one (Rep.fr (q3.keep λ b o hb ho=>⟨(λ e=>by have hb:H2 b=none:=hb;rw [ay.mp e,ha] at hb;cases hb),ho⟩) f3))
  ·rcases aD.mp hx with hx|hx
   ·exact bo x hx
   ·rw [ay.mp hx];exact ob
 intro σ H2 zz_;refine oE3 zz_ λ v ws bs z1_=>oA7 z1_ λ z2_ s2 ha rw2 lb bo eb=>?_;clear zz_;subst z2_;have lw:ws.length=3:=by rw [rw2.len,ai,lb];rfl
 have oo:zu 1 1:=⟨by decide,by decide,by decide,by decide⟩;walk_at "go";refine iE4 a.h _ _ _ ⟨(Zy T).mono,?_⟩;intro z1 d1 hz1 hd1 _;refine vR hz1 hd1 oo λ H3 s3 q3=>⟨rfl,iE4 a.h _ _ _ ⟨(Zy T).mono,?_⟩⟩;intro z2 d2 hz2 hd2 _;refine vR hz2 hd2 oo λ H4 s4 q4=>⟨rfl,λ p hp=>?_⟩;have s5:=zg (o:=.lst [.ref z1,.ref z2]) hp;have g5:upd H4 p (.lst [.ref z1,.ref z2]) p=some (.lst [.ref z1,.ref z2]):=upd_same;generalize upd H4 p (.lst [.ref z1,.ref z2])=H5 at s5 g5 ⊢;have t35:=s4.trans s5;have t25:=s3.trans t35;refine ZO (SqL.of (t25 _ _ ha)) (SqL.of g5) (j9 (by simp;omega)) λ L hL=>?_;have s6:=zg (o:=.lst (ws ++ [.ref z1,.ref z2])) hL;have g6:upd H5 L (.lst (ws ++ [.ref z1,.ref z2])) L=some (.lst (ws ++ [.ref z1,.ref z2])):=upd_same;have r6:Reps (upd H5 L (.lst (ws ++ [.ref z1,.ref z2]))) (λ _=>True) (ws ++ [.ref z1,.ref z2]) ((bs ++ [(1,1),(1,1)]).map (j8 a)):=by
  rw [a7];exact (ZN rw2 (t25.trans s6)).append (.cons (xU q3 (t35.trans s6)) (.one (xU q4 (s5.trans s6))))
 have bo6:∀ b∈bs ++ [(1,1),(1,1)],zu b.1 b.2:=λ x hx=>by
  rcases aD.mp hx with hx|hx
  ·exact bo x hx
  ·simp only [ax,a8,bz] at hx;rcases hx with rfl|rfl <;> exact oo
 have lb6:(bs ++ [((1:Int),(1:Int)),(1,1)]).length=5:=by rw [aP,lb];rfl
 have eB:bs ++ [((1:Int),(1:Int)),(1,1)]=lgB:=by rw [eb];rfl
 have t06:=(s2.trans t25).trans s6;generalize upd H5 L (.lst (ws ++ [.ref z1,.ref z2]))=H6 at g6 r6 t06 ⊢;generalize ws ++ [.ref z1,.ref z2]=bvs at g6 r6;generalize bs ++ [((1:Int),(1:Int)),(1,1)]=bs6 at r6 bo6 lb6 eB;clear s3 s4 s5 s6 t35 t25 rw2 q3 q4 ha g5 hL hp;walk_at "go";refine iE4 a.j _ _ _ ⟨(wo T).mono,iE3 _ _ _ ⟨(jk T).mono,⟨l,ns,0,rfl,xZ t06 hl,?_⟩⟩⟩;have x0:=bM (jD ns 0) (show (1000000000000000000000000000000:Int)≠0 by decide);have x1:=bu (jD ns 0) (show (0:Int) < 1000000000000000000000000000000 by decide);walk_at "go";generalize jD ns 0 % 1000000000000000000000000000000=x at x0 x1 ⊢;intro p hp;have s7:=zg (o:=.lst [.int x]) hp;have g7:upd H6 p (.lst [.int x]) p=some (.lst (iv [x])):=upd_same;generalize upd H6 p (.lst [.int x])=H7 at s7 g7 ⊢;intro k1 e1 hk1 he1 _;refine wj hk1 he1 g7 (by decide) (by decide) (by simp) (by simp) (λ z hz=>by rw [ay.mp hz];exact ⟨x0,x1⟩) λ H8 s8 q8=>⟨rfl,iE4 a.m _ _ _ ⟨(jM T).mono,λ p hp=>?_⟩⟩;have s9:=zg (o:=.lst [.int 1,.int 3]) hp;have g9:upd H8 p (.lst [.int 1,.int 3]) p=some (.lst (iv [1,3])):=upd_same;generalize upd H8 p (.lst [.int 1,.int 3])=H9 at s9 g9 ⊢;intro k2 e2 hk2 he2 _;refine Xm hk2 he2 g9 (by simp) (by simp) λ H10 s10 q10=>⟨rfl,iE4 a.m _ _ _ ⟨(jM T).mono,λ p hp=>?_⟩⟩;have s11:=zg (o:=.lst [.int 2,.int 4]) hp;have g11:upd H10 p (.lst [.int 2,.int 4]) p=some (.lst (iv [2,4])):=upd_same;generalize upd H10 p (.lst [.int 2,.int 4])=H11 at s11 g11 ⊢;intro k3 e3 hk3 he3 _;refine Xm hk3 he3 g11 (by simp) (by simp) λ H12 s12 q12=>⟨rfl,λ R hR=>?_⟩;have s13:=zg (o:=.lst [.ref k1,.ref k2,.ref k3]) hR;have g13:upd H12 R (.lst [.ref k1,.ref k2,.ref k3]) R=some (.lst [.ref k1,.ref k2,.ref k3]):=upd_same;have b13:Reps (upd H12 R (.lst [.ref k1,.ref k2,.ref k3])) (λ _=>True) [.ref k1,.ref k2,.ref k3] ([⟨.source,[],[0],4,[x]⟩,⟨.first,[0],[1,3],0,[]⟩,⟨.first,[1],[2,4],0,[]⟩].map (vH a)):=.cons (xU q8 ((s9.trans s10).trans ((s11.trans s12).trans s13))) (.cons (xU q10 ((s11.trans s12).trans s13)) (.one (xU q12 s13)));have t13:=(s7.trans s8).trans ((s9.trans s10).trans ((s11.trans s12).trans s13));have g6:=t13 _ _ g6;have r6:=ZN r6 t13;have t0:=t06.trans t13;generalize upd H12 R (.lst [.ref k1,.ref k2,.ref k3])=H13 at g13 b13 g6 r6 t0 ⊢;clear s7 s8 s9 s10 s11 s12 s13 t13 t06 q8 q10 q12 g7 g9 g11 hR;walk_at "go";refine iE4 a.q _ _ _ ⟨(Vy T).mono,iE4 a.k _ _ _ ⟨(wT T).mono,?_⟩⟩;intro k4 e4 hk4 he4 _;refine wm hk4 he4 (by decide) (by decide) λ H14 s14 q14=>⟨rfl,iE4 a.k _ _ _ ⟨(wT T).mono,?_⟩⟩;intro k5 e5 hk5 he5 _;refine wm hk5 he5 (by decide) (by decide) λ H15 s15 q15=>⟨rfl,iE4 a.k _ _ _ ⟨(wT T).mono,?_⟩⟩;intro k6 e6 hk6 he6 _;refine wm hk6 he6 (by decide) (by decide) λ H16 s16 q16=>⟨rfl,λ p hp=>?_⟩;have s17:=zg (o:=.lst [.ref k4,.ref k5,.ref k6]) hp;have g17:upd H16 p (.lst [.ref k4,.ref k5,.ref k6]) p=some (.lst [.ref k4,.ref k5,.ref k6]):=upd_same;generalize upd H16 p (.lst [.ref k4,.ref k5,.ref k6])=H17 at s17 g17 ⊢;have t17:=s14.trans ((s15.trans s16).trans s17);refine ZO (SqL.of (t17 _ _ g13)) (SqL.of g17) (j9 (by simp)) λ R2 hR2=>?_;have s18:=zg (o:=.lst ([.ref k1,.ref k2,.ref k3] ++ [.ref k4,.ref k5,.ref k6])) hR2;have t18:=t17.trans s18;obtain ⟨wok,ro⟩:=zf7 lb6 x0 x1;intro z dz hz hdz _;exact Jm hz hdz (t18 _ _ g6) upd_same (ZN r6 t18) ((ZN b13 t18).append (.cons (xU q14 (((s15.trans s16).trans s17).trans s18)) (.cons (xU q15 ((s16.trans s17).trans s18)) (.one (xU q16 (s17.trans s18)))))) wok bo6 ro λ H19 s19 r19=>⟨rfl,k _ _ _ _ ((t0.trans t18).trans s19) r19 wok bo6 ro (by subst eB;exact zdk bo6 ro)⟩
def zcd (K:PySem.W.Frag) (a:Ad):Sp:=λ vs H Q _=>∃ (l:Addr) (ns:List Int),vs=[.ref l]/\SqL K H l (iv ns)/\∀ t vw (lim:Nat) H' bs rs,Same H H'->H' t=some (.tup [vw,.int lim])->lim<=1000->Rep H' (Off []) vw (zX a bs rs)->zH bs rs->(∀ b∈bs,zu b.1 b.2)->(∀ r∈rs,r.ok)->(200 < lim->zb7 bs rs)->Q (.ref t) H'
def zds {K:PySem.W.Frag} {a:Ad} {vs:List V} {H:Hp} {Q:VK} {E:XK} (l:Addr) (ns:List Int) (q0:vs=[.ref l]) (q1:SqL K H l (iv ns)) (q2:∀ t vw (lim:Nat) H' bs rs,Same H H'->H' t=some (.tup [vw,.int lim])->lim<=1000->Rep H' (Off []) vw (zX a bs rs)->zH bs rs->(∀ b∈bs,zu b.1 b.2)->(∀ r∈rs,r.ok)->(200 < lim->zb7 bs rs)->Q (.ref t) H'):zcd K a vs H Q E:=⟨l,ns,q0,q1,q2⟩
def zdO (T:Txt K mg a):Cal P w K mg base "_law_built" 8 ["_law_cells"] [] (zcd K a):=T.lS.cal λ F=>by
 refine F.okx zbo ?_ ?_
 ·walk_at "i"
 walk_at "j";refine oE2 h λ l ns z1_=>oA3 z1_ λ z2_ hl k=>?_;clear h;subst z2_;have kk:∀ t vw (lim:Int) H1 H' bs rs,Same H H1->H1 t=none->H'=upd H1 t (.tup [vw,.int lim])->0<=lim->lim<=1000->Rep H1 (Off []) vw (zX a bs rs)->zH bs rs->(∀ b∈bs,zu b.1 b.2)->(∀ r∈rs,r.ok)->(200 < lim->zb7 bs rs)->Q (.ref t) H':=λ t vw lim H1 H' bs rs s1 ht e l0 l1 r1 wok bo ro nr=>by
  obtain ⟨m,rfl⟩:∃ m:Nat,lim=m:=⟨lim.toNat,by omega⟩;subst e;have s2:=zg (o:=.tup [vw,.int m]) ht;exact k t vw m _ bs rs (s1.trans s2) upd_same (by omega) (r1.same s2) wok bo ro λ z=>nr (by omega)
 clear k;walk_at "T";refine ⟨_,(zi (zx 1 zbo.nd (zt ⟨rfl,rfl,rfl⟩ hr (za (zt ⟨rfl,rfl,rfl⟩ hr (za (pq 0) (za zd zc))) (za zd (za zd zc)))))  (zi (zx 2 zbo.nd (Qv (zt ⟨rfl,rfl,rfl⟩ hr (za (pq 0) (za zd zc)))))  (zi (zD (zo (j5 hr.units1) (pq 2) zd (zq _))  (ze (zj (qS (za (zt ⟨rfl,rfl,rfl⟩ hr (za (pq 0) (za (Qv (pq 1)) zc))) (za (zr (zC (za zd (za (zR qq zd (Qv (Qw (pq 1)))) zc))) (Qv (Qw (pq 1)))) zc)))))  zp)  (zi (zD (zo (j5 hr.units1) (pq 2) zd (zq _))  (ze (zj (qS (za (zt ⟨rfl,rfl,rfl⟩ hr (za (pq 0) zc)) (za (zR qq zd (Qv (pq 1))) zc)))))  zp)  (zi (zx 3 zbo.nd (zR qq zd (zt ⟨rfl,rfl,rfl⟩ hr (za (zt ⟨rfl,rfl,rfl⟩ hr (za (pq 0) (za zd zc))) (za zd (za zd zc))))))  (zi (zD (zo (j5 hr.units1) (pq 2) zd (zq _))  (ze (zj (qS (za (zt ⟨rfl,rfl,rfl⟩ hr (za (pq 0) zc)) (za (pq 3) zc)))))  zp)  (ze (zj (qS (za (zt ⟨rfl,rfl,rfl⟩ hr (za (pq 0) (za zd zc))) (za (pq 3) zc))))))))))),?_⟩;walk_at "go";refine uc (qp T).mono (uc (jk T).mono (iE3 l ns 1 (iA3 rfl hl (iE3 _ 10111 9108 (iA4 rfl (by decide) (by decide) (λ nu n0 n1=>?_))))));walk_at "go";refine uc (jk T).mono (iE3 l ns 1 (iA3 rfl hl ?_));generalize jD ns 1 % 9=pk;walk_at "go";refine zI (λ _=>?_) (λ _=>?_)
 ·walk_at "go";refine uc (zdL T).mono (iE3 l ns _ (iA5 rfl hl (by omega) (by omega) (λ vw H1 bs rs s1 r1 wok bo ro nr p hp=>?_)));have s2:=zg (o:=.lst [.int 200,.int (242 + nu / 4 % 759)]) hp;obtain ⟨lim,hx,ex⟩:=Jk (ns:=[200,242 + nu / 4 % 759]) (r:=nu / 2 % 2) (by omega) (by show nu / 2 % 2 < 2;omega);refine zn (SqL.of upd_same) ex λ t ht=>?_;simp only [ax,a8,bz] at hx;exact kk t vw lim _ _ bs rs (s1.trans s2) ht rfl (by omega) (by omega) (r1.same s2) wok bo ro λ _=>nr
 walk_at "go";refine zI (λ _=>?_) (λ _=>?_)
 ·walk_at "go";exact uc (zfk T).mono (iE2 l ns (iA3 rfl hl (λ vw H1 bs rs s1 r1 wok bo ro nr t ht=>kk t vw _ H1 _ bs rs s1 ht rfl (by omega) (by omega) r1 wok bo ro λ _=>nr)))
 walk_at "go";refine uc (qp T).mono (uc (jk T).mono (iE3 l ns 1 (iA3 rfl hl (iE3 _ 10103 40 (iA4 rfl (by decide) (by decide) (λ r r0 r1=>?_))))));walk_at "go";refine zI (λ _=>?_) (λ _=>?_)
 ·exact uc (zb4 T).mono (iE2 l ns (iA3 rfl hl (λ vw H1 bs rs s1 r1 wok bo ro t ht=>kk t vw _ H1 _ bs rs s1 ht rfl (by omega) (by omega) r1 wok bo ro λ z=>by omega)))
 ·exact uc (zfi T).mono (iE2 l ns (iA3 rfl hl (λ vw H1 bs rs s1 r1 wok bo ro t ht=>kk t vw _ H1 _ bs rs s1 ht rfl (by omega) (by omega) r1 wok bo ro λ z=>by omega)))
theorem Xx (b:Int):∀ ns:List Int,inV (.int b) (iv ns)=decide (b∈ns)
 | []=>rfl
 | n :: ns=>by
  show (eqV (.int n) (.int b) || inV (.int b) (iv ns))=_
  rw [Xx b ns];by_cases h:n=b
  ·subst h;simp [eqV]
  ·simp [eqV,h,aZ h]
def wV (part:Row->List Int) (rs:List Row) (b:Int) (j:Nat):Prop:=(∃ r,rs[j]?=some r/\b∈part r)/\∀ m r,m < j->rs[m]?=some r->b ∉ part r
def zd7 (a:Ad) (part:Row->List Int):Sp:=λ vs H Q _=>∃ (v:V) (b:Int) (j:Nat) (bs:List (Int × Int)) (rs:List Row) (p:Addr->Prop),vs=[v,.int b]/\Rep H p v (zX a bs rs)/\rs.length<=100/\wV part rs b j/\∀ H',Same H H'->Q (.int j) H'
def ziq {cs:List Bool} {j:Nat} {c:Bool} (h:cs[j]?=some c):(cs.map V.bl)[j]?=some (.bl c):=by rw [aj,h];rfl
def zgt (cs:List Bool):(cs.map V.bl).all jr=true:=cf.mpr λ x hx=>by
 obtain ⟨n,_,rfl⟩:=aW.mp hx
 rfl
theorem zhG {part:Row->List Int} {rs:List Row} {b:Int} {j:Nat} (h:wV part rs b j):(∃ z,((rs.map λ r=>decide (b∈part r)).map V.bl)[j]?=some z/\eqV z (.bl true)=true)/\∀ m z,m < j->((rs.map λ r=>decide (b∈part r)).map V.bl)[m]?=some z->eqV z (.bl true)=false:=by
 obtain ⟨⟨r,h1,h2⟩,h3⟩:=h;refine ⟨⟨.bl true,?_,rfl⟩,λ m z hm hz=>?_⟩
 ·refine ziq ?_;rw [aj,h1];simp [h2]
 ·rw [aj,aj] at hz;cases e:rs[m]? with
  | none=>rw [e] at hz;cases hz
  | some r' =>
   rw [e] at hz;have:=h3 m r' hm e;simp [this] at hz;subst hz
   rfl
def Vv (T:Txt K mg a):MCal P w K mg base a.q "taker" 1 ["self","belt"] [] (zd7 a Row.ins):=T.kC.cal T.fK λ F=>by
 refine F.okx XZ ?_ ?_
 ·walk_at "i"
 walk_at "j";refine oE6 h λ v b j bs rs p z1_=>oA5 z1_ λ z2_ hv l100 fa k=>?_;clear h;subst z2_;refine oE7 (qr hv) λ y dx fs l1 l2 bvs kvs z1_=>oA9 z1_ λ z2_ hy e1 e2 h1 h2 hB hK no=>?_;subst z2_;walk_at "T";refine ⟨_,(ze (zj (qQ ap cZ eE zaz (jY (vars:=["knot"]) (caps:=[1]) (N:=["knot","belt"]) (ON:=["self","belt"]) (osc:=zf xa) rfl rfl (by first|decide +kernel|kernel_rfl) rfl rfl (qd (zl (pq 0) rfl)) (λ s H fp pins=>(qk 0 (show (["knot","belt"]:List Str).Nodup from by decide +kernel))) (λ s H fp pins=>qf) (λ s H fp pins=>(jz zeB (pq 1) (zl (pq 0) rfl) (by with_unfolding_all rfl)))) (za vv zc)))),?_⟩;walk_at "go";walk_at "lc";walk_at "go";refine ra hy T.fK T.fJ e2 ⟨l2,rfl,.inl ⟨⟨_,SqL.of h2⟩,λ _ _ _ _ acc hacc=>?_⟩⟩;let M1_:Nat->St->Hp->Prop:=λ i σ H'=>∃ (v0:Option V),σ=[v0,some (.int b)]/\Same H H'/\H' acc=some (.lst (((rs.take i).map λ r=>decide (b∈r.ins)).map V.bl));refine qE (K:=K) (a:=l2) (xs:=kvs) M1_ ⟨_,iA3 rfl (zg hacc) (by rw [cu];exact upd_same)⟩ (λ i σ H' _ h=>by obtain ⟨_,_,s,_⟩:=h;exact SqL.of (s _ _ h2)) ?_ ?_
 ·intro i x σ H' hi zz_;refine oE1 zz_ λ v0 z1_=>oA3 z1_ λ z2_ s7 e1'=>?_;clear zz_;subst z2_;obtain ⟨r,hr',hKn⟩:=hK.at hi;refine oE6 hKn.inv λ y1 dx1 m1 m2 m3 fs1 z1_=>oA9 z1_ λ z2_ _ _ _ _ g0 f1 f2 z3_=>oA5 z3_ λ _ g1 g2 _ _=>?_;subst z2_;have hil:=(aa.mp hr').1;walk_at "go";refine ra (s7 _ _ g0) (CT T _) (NI T _) f1 ?_;refine iE2 m1 _ (iA5 rfl (.inl (SqL.of (s7 _ _ g1))) rfl (vT _) ?_);refine ⟨_,iA3 e1' (zm (by rw [ai,ai,aT];omega)) ⟨_,iA3 rfl (λ b o hb=>by rw [upd_ne (ne_of_none hb hacc)];exact s7 b o hb) ?_⟩⟩;rw [upd_same,aR,hr',a7,a7];simp [Xx]
 intro σ H2 zz_;refine oE1 zz_ λ v0 z1_=>oA3 z1_ λ z2_ s2 ha=>?_;clear zz_;subst z2_;rw [hK.len,aS] at ha;refine ⟨.inl ⟨rfl,_,SqL.of ha⟩,?_⟩;obtain ⟨q1,q2⟩:=zhG fa;exact iE4 acc _ _ j (iA9 rfl rfl ha (by rw [ai,ai];omega) rfl (zgt _) q1 q2 (k _ s2))
def VE {H:Hp} {y:Addr} {n:SN} {st:PSt} (so:StO a H y n st) {i:Nat} (hi:i < st.cells.length) (c0:0 < (st.cells.getD i []).length):∃ b us z,n.acs[i]?=some b/\H b=some (.lst us)/\Reps H (zT H) us ((st.cells.getD i []).map qc)/\atI us (-1)=some z/\Rep H (zT H) z (qc (zZ (st.cells.getD i []))):=by
 have ec:=ac hi;have eg:st.cells.getD i []=st.cells[i]:=by rw [ae,ec];rfl
 rw [eg] at c0 ⊢;obtain ⟨b,us,hb,hu,ru⟩:=so.hc.at (i:=i) (xs:=st.cells[i].map qc) (by rw [qe,aj,ec];rfl);have lu:us.length=st.cells[i].length:=by rw [ru.len,ai]
 obtain ⟨z,hz⟩:∃ z,us[us.length - 1]?=some z:=⟨us[us.length - 1]'(by omega),ac _⟩;obtain ⟨d,hd,rz⟩:=ru.at hz;rw [aj,av] at hd;obtain ⟨wr,hwr,rfl⟩:=hd;have ew:zZ st.cells[i]=wr:=by
  unfold zZ;rw [aX,bp,<- lu,hwr]
  rfl
 refine ⟨b,us,z,hb,hu,ru,?_,by rw [ew];exact rz⟩;rw [Jn (d:=z) (ci (by omega)),aX,bp,hz]
 rfl
def zfE (a:Ad):Sp:=λ vs H Q _=>∃ (y:Addr) (n:SN) (st:PSt),vs=[.ref y]/\StO a H y n st/\(∀ c∈st.cells,0 < c.length) /\
 ∀ o H',Same H H'->(∀ b:Nat,o=some (b:Int)->b < st.cells.length/\zZ (st.cells.getD b [])≠none/\∀ m,m < b->zZ (st.cells.getD m [])=none)->(o=none->∀ c∈st.cells,zZ c=none)->(∀ x,o=some x->∃ b:Nat,x=b)->Q (oiV o) H'
theorem Wb (T:Txt K mg a):Cal P w K mg base "first_laden" 1 ["state"] [] (zfE a):=T.i5.cal λ F=>by
 refine F.okx JR ?_ ?_
 ·walk_at "i"
 walk_at "j";obtain ⟨y,n,st,rfl,so,cl,k⟩:=h;have la:n.acs.length=st.cells.length:=by rw [so.hc.len,qe,ai]
 walk_at "T";refine ⟨_,(zi (qK ji rfl (xg (za (zl (pq 0) rfl) zc)) (Zr (n:=2) rfl (qu (qk 1 JR.nd) (qu (qk 2 JR.nd) wO)))  (ze (zD (zo wP (zr (pq 2) (vt xl zd)) zv (zq _))  (ze (zj (pq 1)))  zp)))  (ze (zj zv))),?_⟩;walk_at "for";walk_at "go";refine ra so.hy T.fH T.fI rfl ⟨n.lc,_,rfl,so.hc.out,?_⟩;refine zcs (K:=K) (a:=n.lc) (xs:=n.acs.map V.ref) (λ i σ H'=>∃ (v1 v2:Option V),σ=[some (.ref y),v1,v2]/\Same H H'/\∀ m,m < i->zZ (st.cells.getD m [])=none) ⟨_,_,rfl,Same.refl _,λ m hm=>absurd hm (bn _)⟩ (λ i σ H' _ h=>by obtain ⟨_,_,_,s,_⟩:=h;exact SqL.of (s _ _ so.hc.out)) ?_ ?_
 ·rintro i x t σ H2 hi ht ⟨v1,v2,rfl,s2,no⟩;rw [aj,av] at hi;obtain ⟨b,hb,rfl⟩:=hi;have hil:i < st.cells.length:=by rw [<- la];exact (aa.mp hb).1
  obtain ⟨b',us,z,hb',hu,_,lz,rz⟩:=VE so hil (by rw [ae,ac hil];exact cl _ (br hil));rw [hb] at hb';cases hb';have s3:=s2.trans (zg (o:=.tup [.int i,.ref b]) ht);refine un2 upd_same ?_;generalize upd H2 t (.tup [.int i,.ref b])=H3 at s3 ⊢;walk_at "go";refine zn (SqL.of (s3 _ _ hu)) lz ?_;cases e:zZ (st.cells.getD i []) with
  | none =>
   rw [e] at rz;cases rz;refine zI (λ z=>absurd rfl z) (λ _=>⟨_,_,rfl,s3,λ m hm=>?_⟩);by_cases z:m=i
   ·rw [z];exact e
   ·exact no m (by omega)
  | some wr =>
   rw [e] at rz;obtain ⟨tw,rfl,_⟩:=wg (b:=wr) rz;refine zI (λ _=>k (some i) H3 s3 (λ b hb=>?_) (λ z=>nomatch z) (λ x hx=>⟨i,(aI hx).symm⟩)) (λ z=>absurd (λ q=>nomatch q) z);have:b=i:=by have:=aI hb;omega
   subst this;exact ⟨hil,by rw [e];exact (λ z=>nomatch z),no⟩
 ·rintro σ H2 ⟨v1,v2,rfl,s2,no⟩;rw [ai,la] at no;walk_at "go";exact k none H2 s2 (λ _ z=>nomatch z) (λ _ c hc=>by
   obtain ⟨m,hm,rfl⟩:=cX hc;have:=no m hm;rw [ae,ac hm] at this;exact this) (λ _ z=>nomatch z)
def zic (T:Txt K mg a) (wd:Wd):PySem.W.kitOne K (.ref (wt a wd)) (.ref a.n)=some (decide (wd=.sieve)):=by
 cases wd
 ·exact T.iF
 ·exact T.iW
 ·exact T.iG
 ·exact T.gQ
 ·exact T.iX
 ·exact T.iH
theorem zcu {bs:List (Int × Int)} {rs:List Row} {st:PSt} (wf:stWf bs rs st) (ro:∀ r∈rs,r.ok) {b:Nat} (hb:b < st.cells.length) (c0:0 < st.cells[b].length) (ne:zZ (st.cells.getD b [])≠none):∃ (j0:Nat) (nr:Int) (r0:Row),zZ (st.cells.getD b [])=some ((j0:Int),nr)/\rs[j0]?=some r0/\r0.wd=.source/\0 < r0.kinds.length:=by
 have hbb:=ac (l:=bs) (i:=b) (by rw [<- wf.co.1];exact hb);have hcc:=ac hb;have eg:st.cells.getD b []=st.cells[b]:=by rw [ae,hcc];rfl
 cases ee:zZ (st.cells.getD b []) with
 | none=>exact absurd ee ne
 | some wr =>
  obtain ⟨sr,nr⟩:=wr;have mw:some (sr,nr)∈st.cells[b]:=by
   rw [<- ee,eg];unfold zZ;rw [aX,dh (ci c0)];exact getLast_mem _
  obtain ⟨j0,r0,rfl,hr0,hw0,_⟩:=(wf.co.2 b _ _ hbb hcc).2 _ mw _ _ rfl;have ok0:=ro r0 (af hr0);refine ⟨j0,nr,r0,rfl,hr0,hw0,?_⟩;obtain ⟨wd,ins,outs,pc,ks⟩:=r0;simp only at hw0;subst hw0;exact ok0.2.2.2.2.1
def zch {r:Row} (ok:r.ok) (e:r.wd≠.drain) (e2:r.wd≠.sieve):∃ o os,r.outs=o :: os:=by
 obtain ⟨wd,ins,outs,pc,ks⟩:=r;cases wd
 ·obtain ⟨_,⟨o,q⟩,_⟩:=ok;exact ⟨o,[],q⟩
 ·exact absurd rfl e
 ·obtain ⟨_,q,_⟩:=ok;simp only at q ⊢;cases outs with|nil=>simp at q|cons o os=>exact ⟨o,os,rfl⟩
 ·obtain ⟨_,q,_⟩:=ok;simp only at q ⊢;cases outs with|nil=>simp at q|cons o os=>exact ⟨o,os,rfl⟩
 ·exact absurd rfl e2
 ·obtain ⟨⟨o,q⟩,_⟩:=ok;exact ⟨o,[],q⟩
theorem Jv {rs:List Row} {cs:List (List zG)} {b j0:Nat} {nr kk pace:Int} {r0:Row} {ins outs:List Int} (ee:zZ (cs.getD b [])=some ((j0:Int),nr)) (hr0:rs[j0]?=some r0) (q1:outs.length=2):∃ p1 p2,outs=[p1,p2]/\jP rs cs ⟨.sieve,ins,outs,pace,[kk]⟩ b=some (if wS r0.kinds nr=kk then p1 else p2):=by
 match outs,q1 with
 | [p1,p2],_ =>
  refine ⟨p1,p2,rfl,?_⟩;have ek:j6 rs (zZ (zE cs b))=some (wS r0.kinds nr):=by
   rw [zE,aK,ee];simp [j6,hr0]
  unfold jP;simp only;rw [ek];by_cases z:wS r0.kinds nr=kk
  ·rw [aq z,aq (by simpa using z)];rfl
  ·rw [am z,am (by simpa using z)];rfl
def JF (a:Ad):Sp:=λ vs H Q _=>∃ (vw:V) (y:Addr) (n:SN) (st:PSt) (bs:List (Int × Int)) (rs:List Row) (b k:Nat) (r:Row) (p:Addr->Prop),vs=[vw,.ref y,.int b]/\Rep H p vw (zX a bs rs)/\StO a H y n st/\stWf bs rs st/\rs.length<=24/\(∀ r∈rs,r.ok)/\(∀ c∈st.cells,0 < c.length)/\wV Row.ins rs b k/\rs[k]?=some r/\b < st.cells.length/\zZ (st.cells.getD b [])≠none/\∀ H',Same H H'->Q (oiV (jP rs st.cells r b)) H'
def VH (T:Txt K mg a):Cal P w K mg base "waited_for" 2 ["work","state","belt"] [] (JF a):=T.ku.cal λ F=>by
 refine F.okx XQ ?_ ?_
 ·walk_at "i"
 walk_at "j";refine oE8 h λ vw y n st bs rs b kt z1_=>oE2 z1_ λ r p z2_=>oA9 z2_ λ z3_ hv so wf r24 ro cl fa z4_=>oA4 z4_ λ hr' hb ne k=>?_;clear h;subst z3_;have hv0:=hv;refine oE7 (qr hv) λ yw dw fw l1 l2 bvs kvs z1_=>oA9 z1_ λ z2_ hyw ew1 ew2 hl1 hl2 hB hK no=>?_;subst z2_;obtain ⟨vk,hvk,hKn⟩:∃ vk,kvs[kt]?=some vk/\KnP a H p vk r:=by
  have hkl:kt < kvs.length:=by rw [hK.len];exact (aa.mp hr').1
  obtain ⟨r',h1,h2⟩:=hK.at (ac hkl);rw [hr'] at h1;cases h1;exact ⟨_,ac hkl,h2⟩
 walk_at "T";refine ⟨_,(zh (zx 3 XQ.nd (zr (zl (pq 0) rfl) (Vl ⟨rfl,rfl,rfl⟩ hr (pq 0) (za (pq 2) zc))))  (zh (zD (z7 (zJ qU zB (za (pq 3) (za jq zc))) (λ _=>rfl))  (ze (zj zv))  zp)  (zh (zD (z7 (zJ qU zB (za (pq 3) (za jq zc))) (λ _=>rfl))  (ze (zj (zr (zl (pq 3) rfl) (Vl ⟨rfl,rfl,rfl⟩ hr (pq 3) (za (zt ⟨rfl,rfl,rfl⟩ hr (za (pq 0) (za (zr (zr (zl (pq 1) rfl) (pq 2)) (vt xl zd)) zc))) zc)))))  zp)  (ze (zj (zr (zl (pq 3) rfl) zd)))))),?_⟩;walk_at "go";refine oE6 hKn.inv λ y1 dx1 m1 m2 m3 fs1 z1_=>oA9 z1_ λ z2_ _ _ _ _ g0 f1 f2 z3_=>oA5 z3_ λ _ g1 g2 _ _=>?_;subst z2_;have ok:=ro r (af hr');refine ra hyw T.fK T.fJ ew2 (iE7 yw a.q dw fw _ _ _ (iA5 rfl hyw (no _ (by decide +kernel) (by decide +kernel)) ((Vv T).mono) ⟨_,b,kt,bs,rs,p,rfl,hv0,by omega,fa,λ H1 s1=>zn (SqL.of (s1 _ _ hl2)) (zy hvk) ?_⟩));walk_at "go";refine ⟨.ref a.k,_,T.hX,rfl,_,_,_,_,rfl,(WT T r.wd).ty (CT T r.wd) (s1 _ _ g0),.inl ⟨_,rfl,zgb T r.wd⟩,?_⟩;have k:=k H1 s1;by_cases e:r.wd=.drain
 ·rw [aJ e];unfold jP at k;rw [e] at k;exact k
 rw [aH e];walk_at "go";refine iE2 (.ref a.n) _ (iA3 T.kI rfl (iE4 _ _ _ _ (iA4 rfl ((WT T r.wd).ty (CT T r.wd) (s1 _ _ g0)) (.inl ⟨_,rfl,zic T r.wd⟩) ?_)));by_cases e2:r.wd=.sieve
 ·rw [aJ e2];walk_at "go";obtain ⟨b',us,z,hb',hu,_,lz,rz⟩:=VE so hb (by rw [ae,ac hb];exact cl _ (br hb));refine oE3 (zcu wf ro hb (cl _ (br hb)) ne) λ j0 nr r0 z1_=>oA4 z1_ λ ee hr0 hw0 kp=>?_;rw [ee] at rz;obtain ⟨wd,ins,outs,pace,kinds⟩:=r;simp only at e2;subst e2;refine oA3 ok λ z1_ q1 z2_=>oE1 z2_ λ kk z3_=>oA2 z3_ λ q2 _=>?_;clear ok;obtain ⟨o,eo⟩:=z1_;simp only at eo q1 q2;subst q2;refine oE3 hKn.sieve λ dxs n1 n2 hys=>?_;refine ra (s1 _ _ g0) T.fN T.fV f2 (iE7 y1 a.n dxs _ _ _ _ (iA5 rfl (s1 _ _ hys) (zgB (by decide +kernel) (by decide +kernel) (by decide +kernel)) ((Zb T).mono) (iE3 _ _ _ ⟨(vU T).mono,?_⟩)));refine ra (s1 _ _ so.hy) T.fH T.fI rfl (zn (SqL.of (s1 _ _ so.hc.out)) (zy (by rw [aj,hb'];rfl)) (zn (SqL.of (s1 _ _ hu)) lz ?_));refine iE5 _ _ bs rs p (iE4 _ j0 nr r0 (iA7 rfl (qY hv0 s1) (qY rz s1) hr0 hw0 kp (iE6 y1 dxs n1 n2 kk _ (iA3 rfl (s1 _ _ hys) ?_))));refine oE2 (Jv (ins:=ins) (pace:=pace) (kk:=kk) ee hr0 q1) λ p1 p2 z1_=>oA2 z1_ λ z2_ ew=>?_;subst z2_;rw [ew] at k;by_cases z:wS r0.kinds nr=kk
  ·rw [aq z] at k ⊢;exact zn (SqL.of (s1 _ _ g2)) at0 k
  ·rw [am z] at k ⊢;exact zn (SqL.of (s1 _ _ g2)) (show atI (iv [p1,p2]) 1=some (.int p2) from rfl) k
 rw [aH e2];walk_at "go";refine ra (s1 _ _ g0) (CT T _) (NO T _) f2 ?_;have ew:jP rs st.cells r b=some (r.outs.getD 0 0):=by
  unfold jP
  split
  ·rename_i z;exact absurd z e
  ·rename_i z;exact absurd z e2
  ·rfl
 rw [ew] at k;obtain ⟨o,os,eo⟩:=zch ok e e2;rw [eo] at g2 k;exact zn (SqL.of (s1 _ _ g2)) at0 k
theorem zaL {part:Row->List Int} {b:Int}:∀ {rs:List Row},(∃ r∈rs,b∈part r)->∃ j,wV part rs b j
 | [],h=>by obtain ⟨_,h,_⟩:=h;cases h
 | r :: rs,h=>by
  by_cases e:b∈part r
  ·exact ⟨0,⟨r,rfl,e⟩,λ m _ hm=>absurd hm (bn _)⟩
  ·obtain ⟨r',hr,hb⟩:=h;obtain ⟨j,⟨r2,g1,g2⟩,g3⟩:=zaL (rs:=rs) ⟨r',(ax.mp hr).resolve_left (λ z=>e (z ▸ hb)),hb⟩;refine ⟨j + 1,⟨r2,g1,g2⟩,λ m r3 hm hr3=>?_⟩;cases m with
   | zero=>cases hr3;exact e
   | succ m=>exact g3 m r3 (by omega) hr3
noncomputable def Jw (rs:List Row) (cs:List (List zG)) (b:Int):Option Int:=(rs.find? λ r=>decide (b∈r.ins)).bind λ r=>jP rs cs r b
theorem zb8 {cs:List (List zG)} {b:Int} {rs0:List Row}:∀ {rs:List Row} {k:Nat} {r:Row},wV Row.ins rs b k->rs[k]?=some r->((rs.find? λ r=>decide (b∈r.ins)).bind λ r=>jP rs0 cs r b)=jP rs0 cs r b
 | [],_,_,_,h=>by simp at h
 | x :: xs,0,r,h,hr=>by
  obtain ⟨⟨r',g1,g2⟩,_⟩:=h;cases hr;cases g1;rw [cm,aJ g2]
  rfl
 | x :: xs,k + 1,r,h,hr=>by
  obtain ⟨⟨r',g1,g2⟩,g3⟩:=h;rw [cm,aH (g3 0 x (by omega) rfl)];exact zb8 (rs:=xs) ⟨⟨r',g1,g2⟩,λ m r3 hm hr3=>g3 (m + 1) r3 (by omega) hr3⟩ hr
def XJ (bs:List (Int × Int)) (cs:List (List zG)) (o:Option Int):Prop:=∀ x,o=some x->∃ b:Nat,x=b/\b < bs.length/\zZ (cs.getD b [])≠none
def Sti (bs:List (Int × Int)) (rs:List Row) (cs:List (List zG)):Prop:=(∀ b:Nat,b < bs.length->Zv (cs.getD b []))/\∀ b:Nat,b < bs.length->zZ (cs.getD b [])≠none->∃ k r,wV Row.ins rs b k/\rs[k]?=some r/\Jw rs cs b=jP rs cs r b /\
 ((r.wd=.drain/\r.pace=0/\jP rs cs r b=none)\/(r.wd≠.drain/\∃ x:Nat,jP rs cs r b=some (x:Int)/\x < bs.length/\zZ (cs.getD x [])≠none/\∀ w∈cs.getD x [],w≠none))
def zg7 {n:Nat} {x:Int} (h:x∈rgI n):∃ b:Nat,x=b/\b < n:=by
 obtain ⟨b,hb,rfl⟩:=aW.mp h;exact ⟨b,rfl,aY.mp hb⟩
def zd0 {bs:List (Int × Int)} {rs:List Row} (wok:zH bs rs) (bo:∀ b∈bs,zu b.1 b.2) (ro:∀ r∈rs,r.ok) {lim i j:Nat} (rd:RoundAt bs rs lim i j) (st:qx (jh bs rs i j)):Sti bs rs (zk bs rs i).cells:=by
 refine ⟨λ b hb=>JD wok bo ro rd st hb,λ b hb ne=>?_⟩;have mb:(b:Int)∈qt rs:=wok.2.2.mem_iff.mpr (aW.mpr ⟨b,aY.mpr hb,rfl⟩);obtain ⟨r0,hr0,hb0⟩:=c9.mp mb;obtain ⟨k,fa⟩:=zaL (part:=Row.ins) ⟨r0,hr0,hb0⟩;obtain ⟨r,hr,hbr⟩:=fa.1;obtain ⟨q,hq⟩:=bh hbr;refine ⟨k,r,fa,hr,zb8 fa hr,?_⟩;rcases JC wok bo ro rd st hr hq (by rw [zE,aK];exact ne) with h|⟨h1,x,h2,h3,h4⟩
 ·exact .inl h
 ·obtain ⟨y,rfl,hy⟩:=zg7 (wok.2.1.mem_iff.mp (c9.mpr ⟨r,af hr,h3⟩));rw [zE,aK] at h4;have pk:=JD wok bo ro rd st hy;have full:=λ w hw=>zde pk h4 (x:=w) hw;refine .inr ⟨h1,y,h2,hy,?_,full⟩;have nn:(zk bs rs i).cells.getD y []≠[]:=λ z=>by rw [z] at h4;exact h4 rfl
  unfold zZ;rw [aX,dh nn];exact full _ (getLast_mem nn)
noncomputable def itr (rs:List Row) (cs:List (List zG)) (o:Option Int):Nat->Option Int
 | 0=>o
 | n + 1=>(itr rs cs o n).bind (Jw rs cs)
theorem xk {bs:List (Int × Int)} {rs:List Row} {cs:List (List zG)} {o:Option Int} (s:Sti bs rs cs) (h:XJ bs cs o):∀ n,XJ bs cs (itr rs cs o n)
 | 0=>h
 | n + 1=>λ x hx=>by
  cases e:itr rs cs o n with
  | none=>rw [itr,e] at hx;cases hx
  | some z =>
   obtain ⟨b,rfl,hb,ne⟩:=xk s h n z e;rw [itr,e] at hx;obtain ⟨_,_,_,_,e1,g⟩:=s.2 b hb ne;have hx:Jw rs cs b=some x:=hx;rw [e1] at hx;rcases g with ⟨_,_,g⟩|⟨_,y,g,g1,g2,_⟩
   ·rw [g] at hx;cases hx
   ·rw [g] at hx;cases hx;exact ⟨y,rfl,g1,g2⟩
def ZI (f:Nat->Option Int) (m:Nat):Prop:=f m=none\/∃ k,k < m/\f k=f m
def EndA (f:Nat->Option Int) (m:Nat):Prop:=ZI f m/\∀ n,n < m->¬ ZI f n
noncomputable def js (f:Nat->Option Int) (m:Nat):List Int:=(List.range m).map λ k=>(f k).getD 0
def EndA.one {f:Nat->Option Int} {m n:Nat} (h:EndA f m) (h':EndA f n):m=n:=by
 rcases bR m n with z|z|z
 ·exact absurd h.1 (h'.2 m z)
 ·exact z
 ·exact absurd h'.1 (h.2 n z)
def zdV (f:Nat->Option Int) (m:Nat) {b:Int} (e:f m=some b):js f (m + 1)=js f m ++ [b]:=by
 unfold js;rw [eR,a7,List.map_singleton,e]
 rfl
theorem Jf {f:Nat->Option Int} {m:Nat} (no:∀ n,n < m->¬ ZI f n) {b:Int}:b∈js f m ↔ ∃ k,k < m/\f k=some b:=by
 unfold js;rw [aW];constructor
 ·rintro ⟨k,hk,rfl⟩;have hk:=aY.mp hk;refine ⟨k,hk,?_⟩;cases e:f k with
  | none=>exact absurd (.inl e) (no k hk)
  | some x=>rfl
 ·rintro ⟨k,hk,e⟩;exact ⟨k,aY.mpr hk,by rw [e];rfl⟩
def za1 {f:Nat->Option Int} {m k:Nat} (hk:k < m):(js f m)[k]?=some ((f k).getD 0):=by
 unfold js;rw [aj,List.getElem?_range hk]
 rfl
def xA (f:Nat->Option Int) (m:Nat):(js f m).length=m:=by simp [js]
theorem za0 {f:Nat->Option Int} {m:Nat} (no:∀ n,n < m->¬ ZI f n):(js f m).Nodup:=by
 unfold js;refine List.pairwise_map.mpr (List.Pairwise.imp_of_mem (R:=(· < ·)) (λ {x y} hx hy hlt e=>?_) (eK));have hx:=aY.mp hx;have hy:=aY.mp hy;refine no y hy (.inr ⟨x,hlt,?_⟩);cases e1:f x with
 | none=>exact absurd (.inl e1) (no x hx)
 | some u =>
  cases e2:f y with
  | none=>exact absurd (.inl e2) (no y hy)
  | some v=>rw [e1,e2] at e;exact bP some e
theorem zeq:∀ (n:Nat) (l:List Int),l.Nodup->(∀ x∈l,∃ b:Nat,x=b/\b < n)->l.length<=n
 | 0,l,_,h=>by
  cases l with
  | nil=>exact ar _
  | cons x xs=>obtain ⟨b,_,hb⟩:=h x (bK ..);exact absurd hb (bn _)
 | n + 1,l,nd,h=>by
  have:=zeq n (l.erase (n:Int)) (nd.erase _) λ x hx=>by
   obtain ⟨ne,hx⟩:=nd.mem_erase_iff.mp hx;obtain ⟨b,rfl,hb⟩:=h x hx;exact ⟨b,rfl,by omega⟩
  rw [List.length_erase] at this
  split at this <;> omega
def Ju {bs:List (Int × Int)} {rs:List Row} {cs:List (List zG)} {o:Option Int} (s:Sti bs rs cs) (h:XJ bs cs o) {m:Nat} (no:∀ n,n < m->¬ ZI (itr rs cs o) n):m<=bs.length:=by
 rw [<- xA (itr rs cs o) m];refine zeq _ _ (za0 no) λ x hx=>?_;obtain ⟨k,_,e⟩:=(Jf no).mp hx;obtain ⟨b,rfl,hb,_⟩:=xk s h k x e;exact ⟨b,rfl,hb⟩
def Lad (cs:List (List zG)) (o:Option Int):Prop:=(∀ b:Nat,o=some (b:Int)->b < cs.length/\zZ (cs.getD b [])≠none/\∀ m,m < b->zZ (cs.getD m [])=none)/\(o=none->∀ c∈cs,zZ c=none)/\∀ x,o=some x->∃ b:Nat,x=b
def Lad.laden {bs:List (Int × Int)} {cs:List (List zG)} {o:Option Int} (h:Lad cs o) (l:cs.length=bs.length):XJ bs cs o:=λ x e=>by
 obtain ⟨b,rfl⟩:=h.2.2 x e;obtain ⟨h1,h2,_⟩:=h.1 b e;exact ⟨b,rfl,by rw [<- l];exact h1,h2⟩
def zeY {H:Hp} {Q:VK} {l:Addr} {ns:List Int} {j:Nat} {b:Int} (h:H l=some (.lst (iv ns))) (l1:ns.length < 1000) (nd:ns.Nodup) (e:ns[j]?=some b) (q:Q (.int j) H):zek (.ref l) [.int b] H Q:=by
 refine ⟨l,.int b,iv ns,j,rfl,rfl,h,by rw [zF];exact l1,rfl,by simp [iv,jr],⟨.int b,qM e,by simp [eqV]⟩,λ m z hm hz=>?_,q⟩;obtain ⟨x,hx,rfl⟩:=ZY hz;have:x≠b:=λ y=>by
  obtain ⟨h1,e1⟩:=aa.mp hx;obtain ⟨h2,e2⟩:=aa.mp e;exact d6.mp nd m j h1 h2 hm (by rw [e1,e2,y])
 simp [eqV,this]
def RingA (f:Nat->Option Int) (m:Nat) (rg:Option Int):Prop:=(f m=none/\rg=none)\/∃ k,k < m/\f m≠none/\f k=f m/\rg=some (k:Int)
def zis (rs:List Row) (cs:List (List zG)) (v:V) (H':Hp):Prop:=∃ (t l:Addr) (o rg:Option Int) (m:Nat),v=.ref t/\H' t=some (.tup [.ref l,oiV rg])/\H' l=some (.lst (iv (js (itr rs cs o) m)))/\Lad cs o/\EndA (itr rs cs o) m/\RingA (itr rs cs o) m rg
def zca (a:Ad):Sp:=λ vs H Q E=>∃ (vw:V) (lim:Nat) (bs:List (Int × Int)) (rs:List Row),vs=[vw,.int lim]/\Rep H (Off []) vw (zX a bs rs)/\zH bs rs/\(∀ b∈bs,zu b.1 b.2)/\(∀ r∈rs,r.ok)/\lim<=1000 /\
 (∀ i j v H',RoundAt bs rs lim i j->qx (jh bs rs i j)->Same H H'->zis rs (zk bs rs i).cells v H'->Q v H')/\(∀ i j,RoundAt bs rs lim i j->¬ qx (jh bs rs i j)->∀ H',Same H H'->E (.ref a.g) none H')/\(jO bs rs lim->∀ H',Same H H'->E (.ref a.f) none H')
def zcn {a:Ad} {vs:List V} {H:Hp} {Q:VK} {E:XK} (vw:V) (lim:Nat) (bs:List (Int × Int)) (rs:List Row) (q0:vs=[vw,.int lim]) (q1:Rep H (Off []) vw (zX a bs rs)) (q2:zH bs rs) (q3:(∀ b∈bs,zu b.1 b.2)) (q4:(∀ r∈rs,r.ok)) (q5:lim<=1000) (q6:(∀ i j v H',RoundAt bs rs lim i j->qx (jh bs rs i j)->Same H H'->zis rs (zk bs rs i).cells v H'->Q v H')) (q7:(∀ i j,RoundAt bs rs lim i j->¬ qx (jh bs rs i j)->∀ H',Same H H'->E (.ref a.g) none H')) (q8:(jO bs rs lim->∀ H',Same H H'->E (.ref a.f) none H')):zca a vs H Q E:=⟨vw,lim,bs,rs,q0,q1,q2,q3,q4,q5,q6,q7,q8⟩
def WE {bs:List (Int × Int)} {rs:List Row} {st:PSt} (wf:stWf bs rs st) (bo:∀ b∈bs,zu b.1 b.2):∀ c∈st.cells,0 < c.length:=λ c hc=>by
 obtain ⟨q,hq⟩:=bh hc;have hb:=ac (l:=bs) (i:=q) (by rw [<- wf.co.1];exact (aa.mp hq).1);have:=(wf.co.2 q _ _ hb hq).1;have:=(bo _ (af hb)).1;omega
theorem vy (T:Txt K mg a) (F:FunD K "waiting_way" "waiting_way" qy f fd):FnOk P w K mg base (CXr P w) 10 f fd ["work","limit"] (zca a):=by
 refine F.okx JO ?_ ?_
 ·walk_at "i"
 walk_at "j";obtain ⟨vw,lim,bs,rs,rfl,hv,wok,bo,ro,l1000,kQ,kM,kE⟩:=h;walk_at "T";refine ⟨_,(zh (zx 2 JO.nd (zt ⟨rfl,rfl,rfl⟩ hr (za (pq 0) (za (pq 1) zc))))  (zh (zD (zo qL (pq 2) zv (zq _))  (ze (qP ⟨rfl,rfl,rfl⟩ rfl (za qT zc)))  zp)  (zh (zx 3 JO.nd (zC zc))  (zh (zx 4 JO.nd (zt ⟨rfl,rfl,rfl⟩ hr (za (pq 2) zc)))  (qJ (zao ji (PW.pt (pw_and (zo wP (pq 4) zv (zq _)) (pw_and1 (zo zeA (pq 4) (pq 3) (by with_unfolding_all rfl)))))  (zh (zA (qQ ap aC aB zU (pq 3) (za (pq 4) zc)))  (ze (zx 4 JO.nd (zt ⟨rfl,rfl,rfl⟩ hr (za (pq 0) (za (pq 2) (za (pq 4) zc))))))))  (zh (zx 5 JO.nd (jQ (zo qL (pq 4) zv (zq _)) zv (qQ ap cZ eE zaz (pq 3) (za (pq 4) zc))))  (ze (zj (qS (za (pq 3) (za (pq 5) zc))))))))))),?_⟩;walk_at "go";refine uc (Zf T).mono ⟨vw,lim,bs,rs,rfl,hv,wok,bo,ro,l1000,λ i j v H1 rnd s1 r=>?_,kE⟩;rcases r.symm with ⟨st,rfl⟩|⟨st,y,n,rfl,so⟩
 ·walk_at "go";exact ⟨a.g,T.gR,T.ml,kM i j rnd st H1 s1⟩
 have sti:=zd0 wok bo ro rnd st;have wf:=qb wok bo ro i;have lc:=wf.co.1;have cl:=WE wf bo;walk_at "go";intro L hL;have s2:=zg (o:=.lst (iv [])) hL;walk_at "go";refine uc (Wb T).mono ⟨y,n,_,rfl,so.same s2,cl,λ o H2 s3 l1 l2 l3=>?_⟩;have lad:Lad (zk bs rs i).cells o:=⟨l1,l2,l3⟩;have ldn:=lad.laden (bs:=bs) lc;have sA:Same H1 H2:=s2.trans s3;have gL:=s3 _ _ (show upd H1 L (.lst (iv [])) L=some (.lst (iv [])) from upd_same);clear s2 s3;walk_at "go";refine cut (λ σ' H'=>∃ (m:Nat),σ'=[some vw,some (.int lim),some (.ref y),some (.ref L),some (oiV (itr rs (zk bs rs i).cells o m)),none]/\Same H1 H'/\H' L=some (.lst (iv (js (itr rs (zk bs rs i).cells o) m)))/\EndA (itr rs (zk bs rs i).cells o) m) ?_ ?_
 ·refine ⟨λ ms σ' H'=>∃ (m:Nat),σ'=[some vw,some (.int lim),some (.ref y),some (.ref L),some (oiV (itr rs (zk bs rs i).cells o m)),none]/\Same H1 H'/\H' L=some (.lst (iv (js (itr rs (zk bs rs i).cells o) m)))/\(∀ n,n < m->¬ ZI (itr rs (zk bs rs i).cells o) n)/\ms=24 - m,⟨_,0,rfl,sA,gL,λ n hn=>absurd hn (bn _),rfl⟩,?_⟩;rintro ms σ' H3 ⟨m,rfl,s3,g3,no,rfl⟩;have mle:=Ju sti ldn no;have b24:=wok.1.1.2;walk_at "go";cases e:itr rs (zk bs rs i).cells o m with
  | none=>exact zI (λ z=>absurd rfl z) (λ _=>⟨m,by rw [e],s3,g3,.inl e,no⟩)
  | some x =>
   obtain ⟨b,rfl,hb,ne⟩:=xk sti ldn m x e;refine zI (λ _=>⟨L,_,rfl,.inl (SqL.of g3),rfl,vT _,?_⟩) (λ z=>absurd (λ q=>nomatch q) z);show bq (.bl (!inV (.int (b:Int)) (iv (js (itr rs (zk bs rs i).cells o) m)))) _
   rw [Xx];by_cases hm:(b:Int)∈js (itr rs (zk bs rs i).cells o) m
   ·rw [aJ hm];obtain ⟨k,hk,ek⟩:=(Jf no).mp hm;exact ⟨m,by rw [e],s3,g3,.inr ⟨k,hk,ek.trans e.symm⟩,no⟩
   rw [aH hm];have no':∀ n,n < m + 1->¬ ZI (itr rs (zk bs rs i).cells o) n:=λ n hn z=>by
    by_cases q:n=m
    ·subst q;rcases z with z|⟨k,hk,z⟩
     ·rw [e] at z;cases z
     ·exact hm ((Jf no).mpr ⟨k,hk,z.trans e⟩)
    ·exact no n (by omega) z
   have mle':=Ju sti ldn no';obtain ⟨k,r,fa,hr',ew,_⟩:=sti.2 b hb ne;refine zh0 ?_;walk_at "go";refine ⟨.inl ⟨rfl,_,SqL.of g3⟩,_,_,_,rfl,rfl,g3,zm (by rw [zF,xA];omega),?_⟩;have hL1:H1 L=none:=hL;have s4:Same H1 (upd H3 L (.lst (iv (js (itr rs (zk bs rs i).cells o) (m + 1))))):=λ c u hc=>by rw [upd_ne (ne_of_none hc hL1)];exact s3 c u hc
   have eL:iv (js (itr rs (zk bs rs i).cells o) m) ++ [oiV (some (b:Int))]=iv (js (itr rs (zk bs rs i).cells o) (m + 1)):=by rw [zdV _ _ e,iv,iv,a7];rfl
   rw [eL];have g4:upd H3 L (.lst (iv (js (itr rs (zk bs rs i).cells o) (m + 1)))) L=some (.lst (iv (js (itr rs (zk bs rs i).cells o) (m + 1)))):=upd_same;generalize upd H3 L (.lst (iv (js (itr rs (zk bs rs i).cells o) (m + 1))))=H4 at s4 g4 ⊢;walk_at "go";refine uc (VH T).mono ⟨vw,y,n,_,bs,rs,b,k,r,_,rfl,hv.same (s1.trans s4),so.same s4,wf,wok.1.2.2,ro,cl,fa,hr',by rw [lc];exact hb,ne,λ H5 s5=>?_⟩;exact ⟨_,by omega,m + 1,by rw [itr,e];show _=[_,_,_,_,some (oiV (Jw rs (zk bs rs i).cells b)),_];rw [ew],s4.trans s5,s5 _ _ g4,no',rfl⟩
 ·rintro σ' H3 ⟨m,rfl,s3,g3,en⟩;walk_at "go";have so3:=s1.trans s3;have fin:∀ (rg:Option Int),RingA (itr rs (zk bs rs i).cells o) m rg->∀ t,H3 t=none->Q (.ref t) (upd H3 t (.tup [.ref L,oiV rg])):=λ rg hrg t ht=>kQ i j _ _ rnd st (so3.trans (zg ht)) ⟨t,L,o,rg,m,rfl,upd_same,zg ht _ _ g3,lad,en,hrg⟩;refine zI (λ z=>?_) (λ z=>⟨.inl ⟨rfl,_,SqL.of g3⟩,?_⟩)
  ·walk_at "go";cases e:itr rs (zk bs rs i).cells o m with
   | none=>exact fin none (.inl ⟨e,rfl⟩)
   | some x=>rw [e] at z;cases z
  ·cases e:itr rs (zk bs rs i).cells o m with
   | none=>rw [e] at z;exact absurd rfl z
   | some x =>
    rcases en.1 with q|⟨k,hk,ek⟩
    ·rw [e] at q;cases q
    refine zeY g3 (by rw [xA];have:=Ju sti ldn en.2;have:=wok.1.1.2;omega) (za0 en.2) (j:=k) (by rw [za1 hk,ek,e];rfl) ?_;walk_at "go";exact fin (some k) (.inr ⟨k,hk,by rw [e];exact (λ z=>nomatch z),ek,rfl⟩)
def xY (T:Txt K mg a):Cal P w K mg base "waiting_way" 10 ["work","limit"] [] (zca a):=T.gY.cal (vy T)
def xX (T:Txt K mg a):Cal P w K mg base "waiting_way" 10 ["work","limit"] [.int 200] (zca a):=T.gY.cald (vy T)
def ziz (a:Ad) (R:List (Int × Int)->List Row->Nat->Hp->V->Hp->Prop):Sp:=λ vs H Q _=>∃ (vw:V) (lim:Nat) (bs:List (Int × Int)) (rs:List Row),vs=[vw,.int lim]/\Rep H (Off []) vw (zX a bs rs)/\zH bs rs/\(∀ b∈bs,zu b.1 b.2)/\(∀ r∈rs,r.ok)/\lim<=1000/\∀ v H',Same H H'->R bs rs lim H v H'->Q v H'
def stA (bs:List (Int × Int)) (rs:List Row) (lim:Nat) (x y:V):Prop:=(jO bs rs lim/\x=.str "long"/\y=.non)\/∃ i j,RoundAt bs rs lim i j/\((qx (jh bs rs i j)/\x=.str "still"/\y=.int i)\/(¬ qx (jh bs rs i j)/\x=.str "moving"/\y=.non))
def zg8 (bs:List (Int × Int)) (rs:List Row) (lim:Nat) (_:Hp) (v:V) (H':Hp):Prop:=∃ t x y,v=.ref t/\H' t=some (.tup [x,y])/\stA bs rs lim x y
def zdI (T:Txt K mg a):Cal P w K mg base "_law_still" 11 ["_law_work_here","_law_limit"] [] (ziz a zg8):=T.lN.cal λ F=>by
 refine F.okx zbi ?_ ?_
 ·walk_at "i"
 walk_at "j";obtain ⟨vw,lim,bs,rs,rfl,hv,wok,bo,ro,l1000,k⟩:=h;have k:∀ x y t H1,Same H H1->H1 t=none->stA bs rs lim x y->Q (.ref t) (upd H1 t (.tup [x,y])):=λ x y t H1 s1 ht sa=>k _ _ (s1.trans (zg ht)) ⟨t,x,y,rfl,upd_same,sa⟩;walk_at "T";refine ⟨_,(zi (zx 2 zbi.nd qT)  (qJ (zhc ⟨rfl,rfl,rfl⟩ rfl (λ pn G=>(ze (zx 3 zbi.nd (zt ⟨rfl,rfl,rfl⟩ hr (za (pq 0) (za (pq 1) zc)))))) (λ pn a=>(zi (zx 3 zbi.nd zv)  (ze (zx 2 zbi.nd qT)))))  (qJ (zD (PW.pt (pw_and (zo (j5 hr.units1) (pq 2) qT (zq _)) (pw_and1 (zo qL (pq 3) zv (zq _)))))  (ze (zx 2 zbi.nd qT))  zp)  (ze (zj (qS (za (pq 2) (za (pq 3) zc)))))))),?_⟩;walk_at "go";refine cut (λ σ' H'=>∃ x y,σ'=[some vw,some (.int lim),some x,some y]/\Same H H'/\((jO bs rs lim/\x=.str "long"/\y=.non)\/∃ i j,RoundAt bs rs lim i j/\x=.str "still"/\((qx (jh bs rs i j)/\y=.int i)\/(¬ qx (jh bs rs i j)/\y=.non)))) ?_ ?_
 ·unfold zgE;walk_at "go";refine ⟨a.f,T.gg,T.lW,λ pn=>?_⟩;refine uc (VJ T).mono ⟨vw,lim,bs,rs,rfl,hv,wok,bo,ro,l1000,λ i j v H1 rnd s1 r=>⟨_,_,rfl,s1,.inr ⟨i,j,rnd,rfl,r⟩⟩,λ nr H1 s1=>⟨a.f,rfl,T.hW,λ _ _=>⟨_,_,rfl,s1,.inl ⟨nr,rfl,rfl⟩⟩⟩⟩
 rintro σ' H1 ⟨x,y,rfl,s1,h⟩;refine cut (λ σ' H'=>H'=H1/\∃ x y,σ'=[some vw,some (.int lim),some x,some y]/\stA bs rs lim x y) ?_ ?_
 ·rcases h with ⟨nr,rfl,rfl⟩|⟨i,j,rd,rfl,⟨st,rfl⟩|⟨st,rfl⟩⟩
  ·walk_at "go";exact zI (λ z=>absurd z (by decide +kernel)) (λ _=>⟨_,_,rfl,.inl ⟨nr,rfl,rfl⟩⟩)
  ·walk_at "go";exact ⟨_,_,rfl,.inr ⟨i,j,rd,.inl ⟨st,rfl,rfl⟩⟩⟩
  ·walk_at "go";exact ⟨_,_,rfl,.inr ⟨i,j,rd,.inr ⟨st,rfl,rfl⟩⟩⟩
 rintro σ' H2 ⟨rfl,x,y,rfl,sa⟩;walk_at "go";exact λ t ht=>k x y t _ s1 ht sa
def Wj (a:Ad):Sp:=λ vs H Q _=>∃ (vw wd:V) (lim:Nat) (bs:List (Int × Int)) (rs:List Row),vs=[vw,.int lim,wd]/\Rep H (Off []) vw (zX a bs rs)/\zH bs rs/\(∀ b∈bs,zu b.1 b.2)/\(∀ r∈rs,r.ok)/\lim<=1000/\((jO bs rs lim/\wd=.str "long")\/∃ i j,RoundAt bs rs lim i j/\¬ qx (jh bs rs i j)/\wd=.str "moving")/\∀ H',Same H H'->Q (.bl true) H'
def QR {a:Ad} {vs:List V} {H:Hp} {Q:VK} {E:XK} (vw wd:V) (lim:Nat) (bs:List (Int × Int)) (rs:List Row) (q0:vs=[vw,.int lim,wd]) (q1:Rep H (Off []) vw (zX a bs rs)) (q2:zH bs rs) (q3:(∀ b∈bs,zu b.1 b.2)) (q4:(∀ r∈rs,r.ok)) (q5:lim<=1000) (q6:((jO bs rs lim/\wd=.str "long")\/∃ i j,RoundAt bs rs lim i j/\¬ qx (jh bs rs i j)/\wd=.str "moving")) (q7:∀ H',Same H H'->Q (.bl true) H'):Wj a vs H Q E:=⟨vw,wd,lim,bs,rs,q0,q1,q2,q3,q4,q5,q6,q7⟩
def QV (T:Txt K mg a):Cal P w K mg base "_law_refused" 11 ["_law_work_here","_law_limit","_law_word"] [] (Wj a):=T.kP.cal λ F=>by
 refine F.okx Vb ?_ ?_
 ·walk_at "i"
 walk_at "j";obtain ⟨vw,wd,lim,bs,rs,rfl,hv,wok,bo,ro,l1000,hw,k⟩:=h;walk_at "T";refine ⟨_,(zh (zx 3 Vb.nd zv)  (zh (zc8 (i:=4) ⟨rfl,rfl,rfl⟩ rfl Vb.nd rfl rfl (λ pn G=>(ze (zD (zo (j5 hr.units1) (pq 1) zd (zq _))  (ze (zA (zt ⟨rfl,rfl,rfl⟩ hr (za (pq 0) zc))))  (ze (zA (zt ⟨rfl,rfl,rfl⟩ hr (za (pq 0) (za (pq 1) zc)))))))) (λ pn a=>(ze (zx 3 Vb.nd (pq 4)))))  (zh (zD (zo (j5 hr.units1) (pq 2) qT (zq _))  (ze (zj (vx (zJ qU zB (za (pq 3) (za jq zc))) (Zs (zes (zJ qU zB (za (pq 3) (za jq zc))))))))  zp)  (ze (zj (vx (zJ qU zB (za (pq 3) (za jq zc))) (Zs (zes (zJ qU zB (za (pq 3) (za jq zc))))))))))),?_⟩;rcases hw with ⟨nr,rfl⟩|⟨i,j,rd,ns,rfl⟩
 ·walk_at "go";refine ⟨a.b,T.iL,T.iN,λ pn=>zI (λ e=>?_) (λ _=>?_)⟩
  ·have e:lim=200:=by omega
   subst e;exact ⟨_,_,_,(xX T).mono,vw,200,bs,rs,rfl,hv,wok,bo,ro,l1000,λ i j v H1 rnd=>absurd nr rnd.no,λ i j rnd=>absurd nr rnd.no,λ _ H1 s1=>⟨a.f,rfl,T.gd,λ e he=>by walk_at "go";exact ⟨.ref a.f,_,T.gg,rfl,xK upd_same T.gN rfl T.gr ⟨fM,.ref a.g,_,T.gR,rfl,xK upd_same T.gN rfl T.gu (k _ (s1.trans (zg he)))⟩⟩⟩⟩
  ·exact uc (xY T).mono (zcn vw lim bs rs rfl hv wok bo ro l1000 (λ i j v H1 rnd=>absurd nr rnd.no) (λ i j rnd=>absurd nr rnd.no) (λ _ H1 s1=>⟨a.f,rfl,T.gd,λ e he=>by walk_at "go";exact ⟨.ref a.f,_,T.gg,rfl,xK upd_same T.gN rfl T.gr ⟨fM,.ref a.g,_,T.gR,rfl,xK upd_same T.gN rfl T.gu (k _ (s1.trans (zg he)))⟩⟩⟩))
 ·have no:∀ i' j',RoundAt bs rs lim i' j'->¬ qx (jh bs rs i' j'):=λ i' j' rd'=>by
   obtain ⟨e1,e2⟩:=rd.one rd';subst e1 e2;exact ns
  walk_at "go";refine ⟨a.b,T.iL,T.iN,λ pn=>zI (λ e=>?_) (λ _=>?_)⟩
  ·have e:lim=200:=by omega
   subst e;exact ⟨_,_,_,(xX T).mono,vw,200,bs,rs,rfl,hv,wok,bo,ro,l1000,λ i' j' v H1 rd' st'=>absurd st' (no i' j' rd'),λ _ _ _ _ H1 s1=>⟨a.g,rfl,T.gq,λ e he=>by
    walk_at "go";exact ⟨.ref a.g,_,T.gR,rfl,xK upd_same T.gX rfl T.gA ⟨fM,.ref a.f,_,T.gg,rfl,xK upd_same T.gX rfl T.gv (k _ (s1.trans (zg he)))⟩⟩⟩,λ nr=>absurd nr rd.no⟩
  ·exact ⟨_,_,_,(xY T).mono,vw,lim,bs,rs,rfl,hv,wok,bo,ro,l1000,λ i' j' v H1 rd' st'=>absurd st' (no i' j' rd'),λ _ _ _ _ H1 s1=>⟨a.g,rfl,T.gq,λ e he=>by
    walk_at "go";exact ⟨.ref a.g,_,T.gR,rfl,xK upd_same T.gX rfl T.gA ⟨fM,.ref a.f,_,T.gg,rfl,xK upd_same T.gX rfl T.gv (k _ (s1.trans (zg he)))⟩⟩⟩,λ nr=>absurd nr rd.no⟩
def WG (T:Txt K mg a):Cal P w K mg base "_law_ahead" 2 ["_law_work_here","_law_state","_law_belt_here"] [] (JF a):=T.lO.cal λ F=>by
 refine F.okx zbp ?_ ?_
 ·walk_at "i"
 walk_at "j";refine oE8 h λ vw y n st bs rs b kt z1_=>oE2 z1_ λ r p z2_=>oA9 z2_ λ z3_ hv so wf r24 ro cl fa z4_=>oA4 z4_ λ hr' hb ne k=>?_;clear h;subst z3_;have k:=k H (Same.refl _);have hv0:=hv;refine oE7 (qr hv) λ yw dw fw l1 l2 bvs kvs z1_=>oA9 z1_ λ z2_ hyw ew1 ew2 hl1 hl2 hB hK no=>?_;subst z2_;have ok:=ro r (af hr');walk_at "T";refine ⟨_,(zh (qK ji rfl (qd (zl (pq 0) rfl)) (qk 3 zbp.nd)  (ze (zD (zo zeB (pq 2) (zl (pq 3) rfl) (by with_unfolding_all rfl))  (zh (zD (z7 (zJ qU zB (za (pq 3) (za jq zc))) (λ _=>rfl))  (ze (zj zv))  zp)  (zh (zD (PW.pt (pw_and (z7 (zJ qU zB (za (pq 3) (za jq zc))) (λ _=>rfl)) (pw_and1 (zo (vZ hr.units1) (zt ⟨rfl,rfl,rfl⟩ hr (za (pq 0) (za (zr (zr (zl (pq 1) rfl) (pq 2)) (vt xl zd)) zc))) (zl (pq 3) rfl) (zq _)))))  (ze (zj (zr (zl (pq 3) rfl) zd)))  zp)  (ze (zj (zr (zl (pq 3) rfl) zd)))))  zp)))  (ze (zj zv))),?_⟩;walk_at "for";walk_at "go";refine ra hyw T.fK T.fJ ew2 ⟨l2,rfl,.inl ⟨⟨_,SqL.of hl2⟩,?_⟩⟩;let M1_:Nat->St->Hp->Prop:=λ i σ H'=>∃ (v3:Option V),σ=[some (.ref yw),some (.ref y),some (.int b),v3]/\H'=H/\i<=kt;refine qE (K:=K) (a:=l2) (xs:=kvs) M1_ ⟨_,iA3 rfl rfl (bQ _)⟩ (λ i σ H' _ h=>by obtain ⟨_,_,rfl,_⟩:=h;exact SqL.of hl2) ?_ ?_
 ·intro i x σ H' hi zz_;refine oE1 zz_ λ v3 z1_=>oA3 z1_ λ z2_ z3_ ik=>?_;clear zz_;subst z2_ z3_;obtain ⟨r0,hr0,hKn⟩:=hK.at hi;refine oE6 hKn.inv λ y1 dx1 m1 m2 m3 fs1 z1_=>oA9 z1_ λ z2_ _ _ _ _ g0 f1 f2 z3_=>oA5 z3_ λ _ g1 g2 _ _=>?_;subst z2_;walk_at "go";refine ra g0 (CT T _) (NI T _) f1 (iE2 m1 _ (iA5 rfl (.inl (SqL.of g1)) rfl (vT _) ?_));show bq (.bl (inV (.int (b:Int)) (iv r0.ins))) _
  rw [Xx];by_cases e:i≠kt
  ·rw [aH (fa.2 i r0 (by omega) hr0)];exact ⟨_,iA3 rfl rfl (by omega)⟩
  have e:i=kt:=bc e;subst e;rw [hr'] at hr0;cases hr0;obtain ⟨⟨r2,hr2,hbr⟩,_⟩:=fa;rw [hr'] at hr2;cases hr2;rw [aJ hbr];refine ⟨fM,iE2 (.ref a.k) _ (iA3 T.hX rfl (iE4 _ _ _ _ (iA4 rfl ((WT T r.wd).ty (CT T r.wd) g0) (.inl ⟨_,rfl,zgb T r.wd⟩) ?_)))⟩;by_cases e:r.wd=.drain
  ·rw [aJ e];unfold jP at k;rw [e] at k;exact k
  rw [aH e];walk_at "go";refine iE2 (.ref a.n) _ (iA3 T.kI rfl (iE4 _ _ _ _ (iA4 rfl ((WT T r.wd).ty (CT T r.wd) g0) (.inl ⟨_,rfl,zic T r.wd⟩) ?_)));by_cases e2:r.wd=.sieve
  ·rw [aJ e2];walk_at "go";obtain ⟨b',us,z,hb',hu,_,lz,rz⟩:=VE so hb (by rw [ae,ac hb];exact cl _ (br hb));refine oE3 (zcu wf ro hb (cl _ (br hb)) ne) λ j0 nr r0 z1_=>oA4 z1_ λ ee hr0 hw0 kp=>?_;rw [ee] at rz;obtain ⟨wd,ins,outs,pace,kinds⟩:=r;simp only at e2;subst e2;refine oA3 ok λ z1_ q1 z2_=>oE1 z2_ λ kk z3_=>oA2 z3_ λ q2 _=>?_;clear ok;obtain ⟨o,eo⟩:=z1_;simp only at eo q1 q2;subst q2;refine oE3 hKn.sieve λ dxs n1 n2 hys=>?_;refine uc (vU T).mono (ra so.hy T.fH T.fI rfl (zn (SqL.of so.hc.out) (zy (by rw [aj,hb'];rfl)) (zn (SqL.of hu) lz ?_)));refine iE5 _ _ bs rs p (iE4 _ j0 nr r0 (iA7 rfl hv0 rz hr0 hw0 kp (iE5 y1 a.n dxs _ _ (iA6 rfl hys T.fN T.gj rfl ?_))));refine oE2 (Jv (ins:=ins) (pace:=pace) (kk:=kk) ee hr0 q1) λ p1 p2 z1_=>oA2 z1_ λ z2_ ew=>?_;subst z2_;rw [ew] at k;refine zI (λ z=>?_) (λ z=>?_)
   ·rw [am z] at k;exact ra g0 T.fN T.fV f2 (zn (SqL.of g2) (show atI (iv [p1,p2]) 1=some (.int p2) from rfl) k)
   ·rw [aq (bc z)] at k;exact ra g0 T.fN T.fV f2 (zn (SqL.of g2) at0 k)
  rw [aH e2];walk_at "go";refine ra g0 (CT T _) (NO T _) f2 ?_;have ew:jP rs st.cells r b=some (r.outs.getD 0 0):=by
   unfold jP
   split
   ·rename_i z;exact absurd z e
   ·rename_i z;exact absurd z e2
   ·rfl
  rw [ew] at k;obtain ⟨o,os,eo⟩:=zch ok e e2;rw [eo] at g2 k;exact zn (SqL.of g2) at0 k
 ·intro σ H' zz_;refine oE1 zz_ λ v3 z1_=>oA3 z1_ λ z2_ z3_ ik=>?_;clear zz_;subst z2_ z3_;have:=(aa.mp hr').1;have:=hK.len;omega
def zg0 (a:Ad):Sp:=λ vs H Q _=>∃ (vw:V) (bs:List (Int × Int)) (rs:List Row) (b k:Nat) (r:Row) (p:Addr->Prop),vs=[vw,.int b]/\Rep H p vw (zX a bs rs)/\wV Row.ins rs b k/\rs[k]?=some r/\r.wd=.drain/\r.pace=0/\Q (.bl true) H
def zfj (T:Txt K mg a):Cal P w K mg base "_law_shut" 1 ["_law_work_here","_law_belt_here"] [] (zg0 a):=T.l9.cal λ F=>by
 refine F.okx zcX ?_ ?_
 ·walk_at "i"
 walk_at "j";refine oE7 h λ vw bs rs b kt r p z1_=>oA7 z1_ λ z2_ hv fa hr' hwd hp k=>?_;clear h;subst z2_;refine oE7 (qr hv) λ yw dw fw l1 l2 bvs kvs z1_=>oA9 z1_ λ z2_ hyw ew1 ew2 hl1 hl2 hB hK no=>?_;subst z2_;walk_at "T";refine ⟨_,(zh (qK ji rfl (qd (zl (pq 0) rfl)) (qk 2 zcX.nd)  (ze (zD (zo zeB (pq 1) (zl (pq 2) rfl) (by with_unfolding_all rfl))  (ze (zj (vx (zJ qU zB (za (pq 2) (za jq zc))) (Zs (jz (Ws hr.units1) (zl (pq 2) rfl) zd (zq _))))))  zp)))  (ze (zj vv))),?_⟩;walk_at "for";walk_at "go";refine ra hyw T.fK T.fJ ew2 ⟨l2,rfl,.inl ⟨⟨_,SqL.of hl2⟩,?_⟩⟩;let M1_:Nat->St->Hp->Prop:=λ i σ H'=>∃ (v2:Option V),σ=[some (.ref yw),some (.int b),v2]/\H'=H/\i<=kt;refine qE (K:=K) (a:=l2) (xs:=kvs) M1_ ⟨_,iA3 rfl rfl (bQ _)⟩ (λ i σ H' _ h=>by obtain ⟨_,_,rfl,_⟩:=h;exact SqL.of hl2) ?_ ?_
 ·intro i x σ H' hi zz_;refine oE1 zz_ λ v2 z1_=>oA3 z1_ λ z2_ z3_ ik=>?_;clear zz_;subst z2_ z3_;obtain ⟨r0,hr0,hKn⟩:=hK.at hi;refine oE6 hKn.inv λ y1 dx1 m1 m2 m3 fs1 z1_=>oA9 z1_ λ z2_ _ _ _ _ g0 f1 f2 z3_=>oA5 z3_ λ _ g1 g2 _ _=>?_;subst z2_;walk_at "go";refine ra g0 (CT T _) (NI T _) f1 (iE2 m1 _ (iA5 rfl (.inl (SqL.of g1)) rfl (vT _) ?_));show bq (.bl (inV (.int (b:Int)) (iv r0.ins))) _
  rw [Xx];by_cases e:i≠kt
  ·rw [aH (fa.2 i r0 (by omega) hr0)];exact ⟨_,iA3 rfl rfl (by omega)⟩
  have e:i=kt:=bc e;subst e;rw [hr'] at hr0;cases hr0;obtain ⟨⟨r2,hr2,hbr⟩,_⟩:=fa;rw [hr'] at hr2;cases hr2;rw [aJ hbr];refine ⟨fM,iE2 (.ref a.k) _ (iA3 T.hX rfl (iE4 _ _ _ _ (iA4 rfl ((WT T r.wd).ty (CT T r.wd) g0) (.inl ⟨_,rfl,zgb T r.wd⟩) ?_)))⟩;rw [aJ hwd];obtain ⟨wd,ins,outs,pace,kinds⟩:=r;simp only at hwd hp;subst hwd hp;refine oE3 hKn.drain λ dxs n1 n2 hyd=>?_;walk_at "go";exact ra hyd T.f9 T.fU rfl k
 ·intro σ H' zz_;refine oE1 zz_ λ v2 z1_=>oA3 z1_ λ z2_ z3_ ik=>?_;clear zz_;subst z2_ z3_;have:=(aa.mp hr').1;have:=hK.len;omega
def zgY (K:PySem.W.Frag):Sp:=λ vs H Q _=>∃ (l:Addr) (ns:List Int) (many:Int),vs=[.ref l,.int many]/\H l=some (.lst (iv ns))/\ns.Nodup/\ns.length<=24/\(∀ n∈ns,0<=n/\n < many)/\∀ H',Same H H'->Q (.bl true) H'
def zaW (T:Txt K mg a):Cal P w K mg base "_law_numbers" 1 ["_law_way","_law_many"] [] (zgY K):=T.kR.cal λ F=>by
 refine F.okx Vc ?_ ?_
 ·walk_at "i"
 walk_at "j";obtain ⟨l,ns,many,rfl,hl,nd,l24,hn,k⟩:=h;walk_at "T";refine ⟨_,(zi (qK ji rfl (qd (pq 0)) (qk 2 Vc.nd)  (ze (zD (PW.pt (pw_or (qR (z7 (zJ qU zB (za (pq 2) (za (Wp zfo) zc))) (λ _=>rfl))) (pw_or (z7 (zJ qU zB (za (pq 2) (za (Wp zcG) zc))) (λ _=>rfl)) (pw_or1 (qR (jx jZ zez zd (pq 2) (pq 1)))))))  (ze (zj vv))  zp)))  (ze (zj (jz (Ws hr.units1) (zJ zgv zQ (za (wY (zhK rfl) zhM (za (pq 0) zc)) zc)) (zJ zS zQ (za (pq 0) zc)) (zq _))))),?_⟩;walk_at "for";walk_at "go";refine ⟨l,rfl,.inl ⟨⟨_,SqL.of hl⟩,?_⟩⟩;refine qE (K:=K) (a:=l) (xs:=iv ns) (λ i σ H'=>∃ (v2:Option V),σ=[some (.ref l),some (.int many),v2]/\H'=H) ⟨_,rfl,rfl⟩ (λ i σ H' _ h=>by obtain ⟨_,_,rfl⟩:=h;exact SqL.of hl) ?_ ?_
 ·rintro i x σ H' hi ⟨v2,rfl,rfl⟩;obtain ⟨c,hc,rfl⟩:=ZY hi;obtain ⟨c0,c1⟩:=hn c (af hc);walk_at "go";exact zI (λ _=>zI (λ _=>⟨_,rfl⟩) (λ z=>absurd c1 z)) (λ z=>absurd c0 z)
 ·rintro σ H' ⟨v2,rfl,rfl⟩;walk_at "go";refine ⟨l,ns,rfl,SqL.of hl,nd,by omega,λ S hS=>⟨S,_,_,rfl,upd_same,gf,_,.inl ⟨_,SqL.of (zg hS _ _ hl),rfl⟩,?_⟩⟩;rw [zF,aJ rfl];exact k _ (zg hS)
structure WaySt (a:Ad) (H:Hp) (vw:V) (y:Addr) (n:SN) (st:PSt) (bs:List (Int × Int)) (rs:List Row) (p:Addr->Prop) (o:Option Int) (m:Nat):Prop where
 hv:Rep H p vw (zX a bs rs)
 so:StO a H y n st
 wf:stWf bs rs st
 r24:rs.length<=24
 b24:bs.length<=24
 ro:∀ r∈rs,r.ok
 cl:∀ c∈st.cells,0 < c.length
 sti:Sti bs rs st.cells
 ldn:XJ bs st.cells o
 no:∀ n,n < m->¬ ZI (itr rs st.cells o) n
def WaySt.same {a:Ad} {H H':Hp} {vw:V} {y:Addr} {n:SN} {st:PSt} {bs:List (Int × Int)} {rs:List Row} {p:Addr->Prop} {o:Option Int} {m:Nat} (h:WaySt a H vw y n st bs rs p o m) (s:Same H H'):WaySt a H' vw y n st bs rs p o m:={ h with hv:=qY h.hv s,so:=h.so.same s }
theorem WaySt.at {a:Ad} {H:Hp} {vw:V} {y:Addr} {n:SN} {st:PSt} {bs:List (Int × Int)} {rs:List Row} {p:Addr->Prop} {o:Option Int} {m:Nat} (h:WaySt a H vw y n st bs rs p o m) {k:Nat} (hk:k < m):∃ b:Nat,itr rs st.cells o k=some (b:Int)/\(js (itr rs st.cells o) m)[k]?=some (b:Int)/\b < bs.length/\b < st.cells.length/\zZ (st.cells.getD b [])≠none/\itr rs st.cells o (k + 1)=Jw rs st.cells b:=by
 cases e:itr rs st.cells o k with
 | none=>exact absurd (.inl e) (h.no k hk)
 | some x =>
  obtain ⟨b,rfl,hb,ne⟩:=xk h.sti h.ldn k x e;exact ⟨b,rfl,by rw [za1 hk,e];rfl,hb,by rw [h.wf.co.1];exact hb,ne,by rw [itr,e];rfl⟩
def WaySt.ahead {a:Ad} {H:Hp} {vw:V} {y:Addr} {n:SN} {st:PSt} {bs:List (Int × Int)} {rs:List Row} {p:Addr->Prop} {o:Option Int} {m:Nat} (h:WaySt a H vw y n st bs rs p o m) {b:Nat} (hb:b < bs.length) (ne:zZ (st.cells.getD b [])≠none) {Q:VK} {E:XK} (k:∀ H',Same H H'->Q (oiV (Jw rs st.cells b)) H'):JF a [vw,.ref y,.int b] H Q E:=by
 obtain ⟨kt,r,fa,hr,ew,_⟩:=h.sti.2 b hb ne;rw [ew] at k;exact ⟨vw,y,n,st,bs,rs,b,kt,r,p,rfl,h.hv,h.so,h.wf,h.r24,h.ro,h.cl,fa,hr,by rw [h.wf.co.1];exact hb,ne,k⟩
theorem WaySt.full {a:Ad} {H:Hp} {vw:V} {y:Addr} {n:SN} {st:PSt} {bs:List (Int × Int)} {rs:List Row} {p:Addr->Prop} {o:Option Int} {m:Nat} (h:WaySt a H vw y n st bs rs p o m) {b x:Nat} (hb:b < bs.length) (ne:zZ (st.cells.getD b [])≠none) (e:Jw rs st.cells b=some (x:Int)):∃ c us,n.acs[x]?=some c/\H c=some (.lst us)/\∀ z∈us,∃ t ts,z=.ref t/\H t=some (.tup ts):=by
 obtain ⟨kt,r,fa,hr,ew,g⟩:=h.sti.2 b hb ne;rw [ew] at e;rcases g with ⟨_,_,g⟩|⟨_,x',g,hx,_,full⟩
 ·rw [g] at e;cases e
 rw [g] at e;have e:x'=x:=by have:=aI e;omega
 subst e;have hxl:x' < st.cells.length:=by rw [h.wf.co.1];exact hx
 have ec:=ac hxl;obtain ⟨c,us,hc,hu,ru⟩:=h.so.hc.at (i:=x') (xs:=st.cells[x'].map qc) (by rw [qe,aj,ec];rfl);refine ⟨c,us,hc,hu,λ z hz=>?_⟩;obtain ⟨q,hq⟩:=bh hz;obtain ⟨d,hd,rz⟩:=ru.at hq;rw [aj,av] at hd;obtain ⟨wr,hwr,rfl⟩:=hd;have nn:=full wr (by rw [ae,ec];exact af hwr);cases wr with
 | none=>exact absurd rfl nn
 | some w2 =>
  obtain ⟨tw,rfl,htw⟩:=wg (b:=w2) rz;exact ⟨tw,_,rfl,htw⟩
theorem WaySt.fin {a:Ad} {H:Hp} {vw:V} {y:Addr} {n:SN} {st:PSt} {bs:List (Int × Int)} {rs:List Row} {p:Addr->Prop} {o:Option Int} {m:Nat} (h:WaySt a H vw y n st bs rs p o m) {b:Nat} (hb:b < st.cells.length) (ne:zZ (st.cells.getD b [])≠none):∃ c us t,n.acs[b]?=some c/\H c=some (.lst us)/\atI us (-1)=some (.ref t):=by
 obtain ⟨c,us,z,hc,hu,_,lz,rz⟩:=VE h.so hb (by rw [ae,ac hb];exact h.cl _ (br hb));cases e:zZ (st.cells.getD b []) with
 | none=>exact absurd e ne
 | some w2 =>
  rw [e] at rz;obtain ⟨tw,rfl,_⟩:=wg (b:=w2) rz;exact ⟨c,us,tw,hc,hu,lz⟩
def zfz (a:Ad):Sp:=λ vs H Q _=>∃ (vw:V) (y l:Addr) (n:SN) (st:PSt) (bs:List (Int × Int)) (rs:List Row) (p:Addr->Prop) (o:Option Int) (m:Nat),vs=[vw,.ref y,.ref l]/\WaySt a H vw y n st bs rs p o m/\H l=some (.lst (iv (js (itr rs st.cells o) m)))/\0 < m/\∀ H',Same H H'->Q (.bl true) H'
def zdJ (T:Txt K mg a):Cal P w K mg base "_law_steps" 3 ["_law_work_here","_law_state","_law_way"] [] (zfz a):=T.lP.cal λ F=>by
 refine F.okx zbj ?_ ?_
 ·walk_at "i"
 walk_at "j";refine oE8 h λ vw y l n st bs rs p z1_=>oE2 z1_ λ o m z2_=>oA5 z2_ λ z3_ ws hl m0 k=>?_;clear h;subst z3_;walk_at "T";refine ⟨_,(zh (zD (zo qL (zr (zr (zl (pq 1) rfl) (zr (pq 2) zd)) (vt xl zd)) zv (zq _))  (ze (zj vv))  zp)  (zh (qK ji rfl (zhf (za zd (za (zJ zS zQ (za (pq 2) zc)) zc))) (qk 3 zbj.nd)  (zh (zD (zo (vZ hr.units1) (zr (pq 2) (pq 3)) (zt ⟨rfl,rfl,rfl⟩ hr (za (pq 0) (za (pq 1) (za (zr (pq 2) (zR Vm (pq 3) zd)) zc)))) (zq _))  (ze (zj vv))  zp)  (ze (zD (zo (zho hr.units1) zv (zr (zl (pq 1) rfl) (zr (pq 2) (pq 3))) (by with_unfolding_all rfl))  (ze (zj vv))  zp))))  (ze (zj vv)))),?_⟩;walk_at "go";refine oE1 (ws.at m0) λ b0 z1_=>oA6 z1_ λ _ w0 _ hc0 ne0 _=>?_;refine oE3 (ws.fin hc0 ne0) λ c0 us0 t0 z1_=>oA3 z1_ λ hc' hu0 lz0=>?_;refine ra ws.so.hy T.fH T.fI rfl (zn (SqL.of hl) (show atI _ ((0:Nat):Int)=_ from zy (qM w0)) (zn (SqL.of ws.so.hc.out) (zy (by rw [aj,hc'];rfl)) (zn (SqL.of hu0) lz0 (zI (λ z=>nomatch z) λ _=>?_))));walk_at "for";walk_at "go";refine ⟨_,.inl ⟨_,SqL.of hl,rfl⟩,?_⟩;rw [zF,xA];have mle:=Ju ws.sti ws.ldn ws.no;have b24:=ws.b24;refine iE2 1 m (iA3 rfl (by omega) ?_);refine Zd (lo:=1) (n:=((m:Int) - 1).toNat) (λ _ σ H'=>∃ v3,σ=[some vw,some (.ref y),some (.ref l),v3]/\Same H H') ⟨_,rfl,Same.refl _⟩ ?_ ?_
 ·rintro i σ H2 hi ⟨v3,rfl,s2⟩;have hm:i + 1 < m:=by omega
  refine oE1 (ws.at (show i < m by omega)) λ b z1_=>oA6 z1_ λ _ wb hb _ ne eb=>?_;refine oE1 (ws.at hm) λ b1 z1_=>oA3 z1_ λ e1 wb1 _=>?_;rw [e1] at eb;have i1:(1:Int) + (i:Int)=((i + 1:Nat):Int):=by omega
  have i2:((i + 1:Nat):Int) - 1=(i:Int):=by omega
  walk_at "go";rw [i1,i2];have hl2:=s2 _ _ hl;have ws2:=ws.same s2;refine zn (SqL.of hl2) (zy (qM wb1)) (uc (WG T).mono (zn (SqL.of hl2) (zy (qM wb)) (ws2.ahead hb ne λ H3 s3=>?_)));rw [<- eb];refine zI (λ z=>absurd rfl z) λ _=>?_;have hl3:=s3 _ _ hl2;have ws3:=ws2.same s3;refine oE2 (ws3.full hb ne eb.symm) λ c us z1_=>oA3 z1_ λ hc hu fu=>?_;walk_at "go";refine ra ws3.so.hy T.fH T.fI rfl (zn (SqL.of hl3) (zy (qM wb1)) (zn (SqL.of ws3.so.hc.out) (zy (by rw [aj,hc];rfl)) (.inr (iE2 c us (iA5 rfl rfl (SqL.of hu) fu ?_)))));walk_at "go";exact ⟨_,rfl,s2.trans s3⟩
 ·rintro σ H2 ⟨v3,rfl,s2⟩;walk_at "go";exact k H2 s2
def zgg {H:Hp} {Q:VK} {p:Addr} {xs:List V} (h:H p=some (.lst xs)) (q:Q (.bl true) H):zal K [.ref p,.ty "list"] H Q:=⟨_,_,_,_,rfl,.old (.lst h),.inl ⟨_,rfl,rfl⟩,q⟩
theorem zgm {H:Hp} {us:List V} {c:List zG} (ru:Reps H (zT H) us (c.map qc)) {m:Nat}:∀ (j:Nat) (x y:V),us[j]?=some x->(List.replicate m V.non)[j]?=some y->DE K H 0 x y (decide (c.getD j none=none)):=λ j x y hx hy=>by
 rw [(bW.mp (af hy)).2];obtain ⟨d,hd,rz⟩:=ru.at hx;rw [aj,av] at hd;obtain ⟨wr,hwr,rfl⟩:=hd;rw [ae,hwr];cases wr with
 | none=>cases rz;exact .flat rfl rfl
 | some w2 =>
  obtain ⟨tw,rfl,htw⟩:=wg (b:=w2) rz;exact .tn (SqT.of htw)
theorem zfq {c:List zG} (pk:Zv c):((List.range c.length).all λ j=>decide (c.getD j none=none))=decide (zZ c=none):=by
 by_cases e:zZ c=none
 ·rw [aJ e,cf];intro j hj;rw [bZ];have hj:=aY.mp hj;rw [ae,ac hj];exact bc λ z=>zey pk (br hj) z e
 ·rw [aH e,List.all_eq_false];have c0:0 < c.length:=by
   cases c with
   | nil=>exact absurd rfl e
   | cons x xs=>exact dP _
  refine ⟨c.length - 1,aY.mpr (by omega),?_⟩;unfold zZ at e;rw [aX,bp,<- ae] at e;simpa using e
def LadN (cs:List (List zG)) (j:Nat) (ns:List Int):Prop:=ns.length<=j/\(((∀ k,k < j->zZ (cs.getD k [])=none)/\ns=[])\/∃ b:Nat,b < j/\zZ (cs.getD b [])≠none/\(∀ k,k < b->zZ (cs.getD k [])=none)/\ns[0]?=some (b:Int))
def LadN.no {cs:List (List zG)} {j:Nat} {ns:List Int} (h:LadN cs j ns) (e:zZ (cs.getD j [])=none):LadN cs (j + 1) ns:=by
 refine ⟨Nat.le_succ_of_le h.1,?_⟩;rcases h.2 with ⟨h1,h2⟩|⟨b,h1,h2,h3,h4⟩
 ·refine .inl ⟨λ k hk=>?_,h2⟩;by_cases z:k=j
  ·rw [z];exact e
  ·exact h1 k (by omega)
 ·exact .inr ⟨b,by omega,h2,h3,h4⟩
def LadN.yes {cs:List (List zG)} {j:Nat} {ns:List Int} (h:LadN cs j ns) (e:zZ (cs.getD j [])≠none):LadN cs (j + 1) (ns ++ [(j:Int)]):=by
 refine ⟨by have:=h.1;simp;omega,.inr ?_⟩;rcases h.2 with ⟨h1,rfl⟩|⟨b,h1,h2,h3,h4⟩
 ·exact ⟨j,by omega,e,h1,rfl⟩
 ·refine ⟨b,by omega,h2,h3,?_⟩;rw [aQ (aa.mp h4).1];exact h4
theorem LadN.end_ {cs:List (List zG)} {ns:List Int} {o:Option Int} (h:LadN cs cs.length ns) (l:Lad cs o):(o=none/\ns=[])\/∃ b:Nat,o=some (b:Int)/\ns[0]?=some (b:Int)/\ns.length≠0:=by
 rcases h.2 with ⟨h1,rfl⟩|⟨b,h1,h2,h3,h4⟩
 ·refine .inl ⟨?_,rfl⟩;cases o with
  | none=>rfl
  | some x =>
   obtain ⟨b,rfl⟩:=l.2.2 x rfl;obtain ⟨q1,q2,_⟩:=l.1 b rfl;exact absurd (h1 b q1) q2
 ·refine .inr ⟨b,?_,h4,by have:=(aa.mp h4).1;omega⟩;cases o with
  | none =>
   refine absurd (l.2.1 rfl _ (br h1)) ?_;rw [ae,ac h1] at h2;exact h2
  | some x =>
   obtain ⟨b',rfl⟩:=l.2.2 x rfl;obtain ⟨q1,q2,q3⟩:=l.1 b' rfl;rcases bR b b' with z|z|z
   ·exact absurd (q3 b z) h2
   ·rw [z]
   ·exact absurd (h3 b' z) q2
def zdW {f:Nat->Option Int} {m:Nat} {x:Int} (m0:0 < m) (h:(js f m)[m - 1]?=some x):atI (iv (js f m)) (-1)=some (.int x):=by
 have hl:(iv (js f m)).length=m:=by rw [zF,xA]
 rw [Jn (d:=.int x) (ci (by omega)),aX,bp,hl,qM h]
 rfl
def zg1 (a:Ad):Sp:=λ vs H Q _=>∃ (vw:V) (y t l:Addr) (n:SN) (st:PSt) (bs:List (Int × Int)) (rs:List Row) (p:Addr->Prop) (o rg:Option Int) (m:Nat),vs=[vw,.ref y,.ref t]/\WaySt a H vw y n st bs rs p o m/\(∀ b∈bs,zu b.1 b.2)/\Lad st.cells o/\EndA (itr rs st.cells o) m/\RingA (itr rs st.cells o) m rg/\H t=some (.tup [.ref l,oiV rg])/\H l=some (.lst (iv (js (itr rs st.cells o) m)))/\∀ H',Same H H'->Q (.bl true) H'
theorem zfl (T:Txt K mg a):Cal P w K mg base "_law_good" 4 ["_law_work_here","_law_state","_law_told"] [] (zg1 a):=T.ma.cal λ F=>by
 refine F.okx zcZ ?_ ?_
 ·walk_at "i"
 walk_at "j";refine oE8 h λ vw y t l n st bs rs z1_=>oE4 z1_ λ p o rg m z2_=>oA9 z2_ λ z3_ ws bo lad en ring ht hl k=>?_;clear h;subst z3_;refine oE7 (qr ws.hv) λ yw dw fw l1 l2 bvs kvs z1_=>oA9 z1_ λ z2_ hyw ew1 ew2 hl1 hl2 hB hK no=>?_;subst z2_;walk_at "T";refine ⟨_,(zh (zD (PW.pt (pw_or (qR (z7 (zJ qU zB (za (pq 2) (za (Wp vJ) zc))) (λ _=>rfl))) (pw_or (zo (vZ hr.units1) (zJ zS zQ (za (pq 2) zc)) zd (zq _)) (pw_or1 (qR (z7 (zJ qU zB (za (zr (pq 2) zd) (za (Wp xN) zc))) (λ _=>rfl)))))))  (ze (zj vv))  zp)  (zh (zx 3 zcZ.nd (zr (pq 2) zd))  (zh (zx 4 zcZ.nd (zr (pq 2) zd))  (zh (QN (i:=5) zcZ.nd rfl (Or.inl rfl) (vars:=["_law_k"]) (caps:=[1,0]) (N:=["_law_k","_law_state","_law_work_here"]) (ON:=["_law_work_here","_law_state","_law_told","_law_way","_law_ring","_law_laden","_law_last"]) (osc:=zf ZM) rfl rfl (by first|decide +kernel|kernel_rfl) rfl rfl (wN (za (zJ zS zQ (za (zl (pq 0) rfl) zc)) zc)) (λ s H fp pins=>(qk 0 (show (["_law_k","_law_state","_law_work_here"]:List Str).Nodup from by decide +kernel))) (λ s H fp pins=>(Vj (zo (vZ hr.units1) (zr (zl (pq 1) rfl) (pq 0)) (zR Vn (zC (za zv zc)) (zl (zr (zl (pq 2) rfl) (pq 0)) rfl)) (zq _)))) (λ s H fp pins=>(pq 0)))  (zh (zD (zo (j5 hr.units1) (zJ zS zQ (za (pq 5) zc)) zd (zq _))  (ze (zj (vx (jz (Ws hr.units1) (pq 3) (zC zc) (zq _)) (Zs (jz op_isN (pq 4) zv (zq _))))))  zp)  (zh (zD (PW.pt (pw_or (zo (j5 hr.units1) (zJ zS zQ (za (pq 3) zc)) zd (zq _)) (pw_or1 (qR (z7 (zt ⟨rfl,rfl,rfl⟩ hr (za (pq 3) (za (zJ zS zQ (za (zl (pq 0) rfl) zc)) zc))) (λ _=>rfl))))))  (ze (zj vv))  zp)  (zh (zD (PW.pt (pw_or (zo (vZ hr.units1) (zr (pq 3) zd) (zr (pq 5) zd) (zq _)) (pw_or1 (qR (z7 (zt ⟨rfl,rfl,rfl⟩ hr (za (pq 0) (za (pq 1) (za (pq 3) zc)))) (λ _=>rfl))))))  (ze (zj vv))  zp)  (zh (zx 6 zcZ.nd (zt ⟨rfl,rfl,rfl⟩ hr (za (pq 0) (za (pq 1) (za (zr (pq 3) (vt xl zd)) zc)))))  (zh (zD (zo qL (pq 6) zv (zq _))  (ze (zj (vx (jz op_isN (pq 4) zv (zq _)) (Zs (zt ⟨rfl,rfl,rfl⟩ hr (za (pq 0) (za (zr (pq 3) (vt xl zd)) zc)))))))  zp)  (zh (zD (PW.pt (pw_or (qR (z7 (zJ qU zB (za (pq 4) (za (Wp zfo) zc))) (λ _=>rfl))) (pw_or1 (z7 (zJ qU zB (za (pq 4) (za (Wp zcG) zc))) (λ _=>rfl)))))  (ze (zj vv))  zp)  (ze (zj (vx (zev op_le zib zd (pq 4) (zJ zS zQ (za (pq 3) zc))) (vx (jz (Ws hr.units1) (zr (pq 3) (pq 4)) (pq 6) (zq _)) (Zs (jz (zdi hr.units1) zv (zr (zl (pq 1) rfl) (pq 6)) (by with_unfolding_all rfl))))))))))))))))),?_⟩;walk_at "go";refine zgf ht ?_;walk_at "go";refine ⟨_,.inr ⟨_,SqT.of ht,rfl⟩,zI (λ z=>absurd rfl z) λ _=>⟨fM,rd_ixT ht at0 ⟨lB,zgg hl ?_⟩⟩⟩;walk_at "go";refine rd_ixT ht at0 ?_;walk_at "go";refine rd_ixT ht (show atI _ 1=some (oiV rg) from rfl) ?_;walk_at "go";walk_at "lc";walk_at "go";have b24:=ws.b24;refine ra hyw T.fK T.fR ew1 ⟨_,.inl ⟨_,SqL.of hl1,rfl⟩,?_⟩;rw [hB.len];refine ⟨by omega,by omega,λ _ _ _ _ acc hacc=>?_⟩;let M1_:Nat->St->Hp->Prop:=λ j σ H'=>∃ v0 ns,σ=[v0,some (.ref y),some (.ref yw)]/\Same H H'/\H' acc=some (.lst (iv ns))/\LadN st.cells j ns;refine Zd (n:=((bs.length:Nat):Int).toNat) M1_ (iE2 _ ([]) (iA5 rfl (zg hacc) upd_same (ar _) (.inl ⟨λ k hk=>absurd hk (bn _),rfl⟩))) ?_ ?_
 ·intro j σ H2 hj zz_;refine oE2 zz_ λ v0 ns z1_=>oA4 z1_ λ z2_ s2 ha ln=>?_;clear zz_;subst z2_;have hj:j < bs.length:=hj;have hjc:j < st.cells.length:=by rw [ws.wf.co.1];exact hj
  have ec:=ac hjc;have eb:=ac hj;obtain ⟨c,hc⟩:∃ c,n.acs[j]?=some c:=⟨_,ac (by rw [ws.so.hc.len,qe,ai];exact hjc)⟩;obtain ⟨vb,hvb⟩:∃ vb,bvs[j]?=some vb:=⟨_,ac (by rw [hB.len];exact hj)⟩;obtain ⟨b',hb',hBt⟩:=hB.at hvb;rw [eb] at hb';cases hb';refine oE3 hBt.inv λ y1 dx1 fs1 z1_=>oA5 z1_ λ z2_ _ g0 f1 f2=>?_;subst z2_;have bk:=bo _ (af eb);have lc:st.cells[j].length=bs[j].1.toNat:=(ws.wf.co.2 j _ _ eb ec).1;walk_at "go";simp only [dc];refine ra (s2 _ _ ws.so.hy) T.fH T.fI rfl (zn (SqL.of (s2 _ _ ws.so.hc.out)) (zy (by rw [aj,hc];rfl)) λ q hq=>?_);have sq:=zg (o:=.lst [V.non]) hq;have s3:=s2.trans sq;refine ra (s3 _ _ hyw) T.fK T.fR ew1 (zn (SqL.of (s3 _ _ hl1)) (zy hvb) (ra (s3 _ _ g0) T.gH T.gw f1 ?_));have b1:=bk.1;have b2:=bk.2.1;refine iE3 q _ _ (iA7 rfl rfl upd_same (by omega) (by omega) (j9 (by simp;omega)) (λ q2 hq2=>?_));rw [zfO];have s4:=sq.trans (zg (o:=.lst (List.replicate bs[j].1.toNat V.non)) hq2);have h4:upd (upd H2 q (.lst [V.non])) q2 (.lst (List.replicate bs[j].1.toNat V.non)) q2=some (.lst (List.replicate bs[j].1.toNat V.non)):=upd_same;generalize upd (upd H2 q (.lst [V.non])) q2 (.lst (List.replicate bs[j].1.toNat V.non))=H4 at s4 h4 ⊢;obtain ⟨c',us,hc',hu,ru⟩:=(ws.same (s2.trans s4)).so.hc.at (i:=j) (xs:=st.cells[j].map qc) (by rw [qe,aj,ec];rfl);rw [hc] at hc';cases hc';have lu:us.length=st.cells[j].length:=by rw [ru.len,ai]
  have eg:st.cells.getD j []=st.cells[j]:=by rw [ae,ec];rfl
  refine .inr (.inr (iE6 c q2 us _ 0 _ (iA5 rfl rfl (by decide) (zgm ru) (.inl (iA4 (SqL.of hu) (SqL.of h4) (by rw [lu,lc,bb]) ?_)))));have pk:=ws.sti.1 j hj;rw [eg] at pk;rw [lu,zfq pk];have ha4:=s4 _ _ ha;have f5:∀ o,Same H (upd H4 acc o):=λ o b u hb=>by rw [upd_ne (ne_of_none hb hacc)];exact s4 _ _ (s2 b u hb)
  by_cases e:zZ st.cells[j]=none
  ·rw [aJ e];exact iE2 _ ns (iA4 rfl (s2.trans s4) ha4 (ln.no (by rw [eg];exact e)))
  ·rw [aH e];exact ⟨_,iA3 ha4 (zm (by rw [zF];have:=ln.1;omega)) (iE2 _ (ns ++ [(j:Int)]) (iA4 rfl (f5 _) (by rw [upd_same,je]) (ln.yes (by rw [eg];exact e))))⟩
 ·intro σ H2 zz_;refine oE2 zz_ λ v0 ns z1_=>oA4 z1_ λ z2_ s2 ha ln=>?_;clear zz_;subst z2_;have ln:LadN st.cells st.cells.length ns:=by rw [ws.wf.co.1];exact ln
  walk_at "go";refine ⟨_,.inl ⟨_,SqL.of ha,rfl⟩,?_⟩;rw [zF];have ht2:=s2 _ _ ht;have hl2':=s2 _ _ hl;rcases ln.end_ lad with ⟨rfl,rfl⟩|⟨b,rfl,h0,hn⟩
  ·have m0:m=0:=by
    cases m with
    | zero=>rfl
    | succ m=>exact absurd (.inl rfl) (en.2 0 (by omega))
   subst m0;refine zI (λ _ q hq=>?_) (λ z=>absurd rfl z);refine .inr (.inl (iE4 l q ([]) ([]) (iA6 rfl rfl (.inl ⟨SqL.of (zg hq _ _ hl2'),SqL.of upd_same⟩) rfl rfl ?_)));have e:rg=none:=by
    rcases ring with ⟨_,e⟩|⟨k,hk,_⟩
    ·exact e
    ·exact absurd hk (bn _)
   subst e;exact k _ (s2.trans (zg hq))
  have m0:0 < m:=by
   cases m with
   | zero =>
    rcases en.1 with z|⟨k,hk,_⟩
    ·cases z
    ·exact absurd hk (bn _)
   | succ m=>exact dP _
  refine zI (λ z=>absurd (by omega) hn) λ _=>?_;have mle:=Ju ws.sti ws.ldn ws.no;walk_at "go";refine ⟨_,.inl ⟨_,SqL.of hl2',rfl⟩,?_⟩;rw [zF,xA];refine zI (λ z=>absurd m0 (by omega)) λ _=>(uc (zaW T).mono ⟨gf,iE5 yw a.q dw fw _ (iA6 rfl (s2 _ _ hyw) T.fK T.fR ew1 ⟨_,⟨.inl ⟨_,SqL.of (s2 _ _ hl1),rfl⟩,iE3 l _ _ (iA6 rfl hl2' (za0 ws.no) (by rw [xA];omega) (λ x hx=>?_) (λ H3 s3=>?_))⟩⟩)⟩)
  ·obtain ⟨k,_,e⟩:=(Jf ws.no).mp hx;refine oE1 (xk ws.sti ws.ldn k x e) λ b' z1_=>oA3 z1_ λ z2_ hb _=>?_;subst z2_;rw [hB.len];omega
  refine oE1 (ws.at m0) λ b0 z1_=>oA3 z1_ λ e0 w0 _=>?_;have e0:b0=b:=by have:=aI e0;omega
  subst e0;have ha3:=s3 _ _ ha;have s3:=s2.trans s3;have ws3:=ws.same s3;have hl3:=s3 _ _ hl;walk_at "go";refine zn (SqL.of hl3) (show atI _ ((0:Nat):Int)=_ from zy (qM w0)) (zn (SqL.of ha3) (show atI _ ((0:Nat):Int)=_ from zy (qM h0)) (zI (λ z=>absurd rfl z) λ _=>(uc (zdJ T).mono (iE8 (.ref yw) y l n st bs rs p (iE2 _ m (iA5 rfl ws3 hl3 m0 (λ H4 s4=>?_)))))));have ws4:=ws3.same s4;have hl4:=s4 _ _ hl3;have s4:=s3.trans s4;clear ws3 hl3 ha3 s3 s2 ha ht2 hl2';refine oE1 (ws.at (show m - 1 < m by omega)) λ bl z1_=>oA6 z1_ λ el wl hbl hcl nel nx=>?_;rw [show m - 1 + 1=m by omega] at nx;have al:=zdW m0 wl;walk_at "go";refine uc (WG T).mono (zn (SqL.of hl4) al (ws4.ahead hbl nel λ H5 s5=>?_));rw [<- nx];have ws5:=ws4.same s5;have hl5:=s5 _ _ hl4;have s5:=s4.trans s5;clear ws4 hl4 s4;cases em:itr rs st.cells (some (b0:Int)) m with
  | none =>
   have e:rg=none:=by
    rcases ring with ⟨_,e⟩|⟨_,_,z,_⟩
    ·exact e
    ·exact absurd em z
   subst e;refine oE2 (ws.sti.2 bl hbl nel) λ kt r z1_=>oA4 z1_ λ fa hr' ew g=>?_;rcases g with ⟨g1,g2,_⟩|⟨_,x,g,_⟩
   ·walk_at "go";exact zI (λ _=>zI (λ _=>(uc (zfj T).mono (zn (SqL.of hl5) al (iE7 (.ref yw) bs rs bl kt r p (iA7 rfl ws5.hv fa hr' g1 g2 (k _ s5)))))) (λ z=>absurd rfl z)) (λ z=>absurd rfl z)
   ·rw [<- nx,em] at ew;rw [g] at ew;cases ew
  | some x =>
   obtain ⟨kr,hkr,ekr,e⟩:∃ kr:Nat,kr < m/\itr rs st.cells (some (b0:Int)) kr=some x/\rg=some (kr:Int):=by
    rcases ring with ⟨z,_⟩|⟨kr,h1,_,h3,h4⟩
    ·rw [em] at z;cases z
    ·exact ⟨kr,iA3 h1 (h3.trans em) h4⟩
   subst e;obtain ⟨bx,rfl,_⟩:=xk ws.sti ws.ldn m x em;refine oE2 (ws5.full hbl nel (nx.symm.trans em)) λ c us z1_=>oA3 z1_ λ hc hu fu=>?_;have wr:(js (itr rs st.cells (some (b0:Int))) m)[kr]?=some (bx:Int):=by rw [za1 hkr,ekr];rfl
   simp only [oiV];walk_at "go";refine ⟨_,.inl ⟨_,SqL.of hl5,rfl⟩,?_⟩;rw [zF,xA];refine zI (λ _=>zn (SqL.of hl5) (zy (qM wr)) ?_) (λ z=>absurd hkr (by omega));walk_at "go";exact ra ws5.so.hy T.fH T.fI rfl (zn (SqL.of ws5.so.hc.out) (zy (by rw [aj,hc];rfl)) (.inr (iE2 c us (iA5 rfl rfl (SqL.of hu) fu (k _ s5)))))
theorem Lad.one {cs:List (List zG)} {o o':Option Int} (h:Lad cs o) (h':Lad cs o'):o=o':=by
 have no:∀ {u:Option Int} {x:Int},Lad cs u->Lad cs (some x)->u≠none:=λ {u x} hu hx z=>by
  obtain ⟨b,rfl⟩:=hx.2.2 x rfl;obtain ⟨q1,q2,_⟩:=hx.1 b rfl;refine q2 ?_;rw [ae,ac q1];exact hu.2.1 z _ (br q1)
 cases o with
 | none =>
  cases o' with
  | none=>rfl
  | some x=>exact absurd rfl (no h h')
 | some x =>
  cases o' with
  | none=>exact absurd rfl (no h' h)
  | some x' =>
   obtain ⟨b,rfl⟩:=h.2.2 x rfl;obtain ⟨b',rfl⟩:=h'.2.2 x' rfl;obtain ⟨_,p2,p3⟩:=h.1 b rfl;obtain ⟨_,q2,q3⟩:=h'.1 b' rfl;rcases bR b b' with z|z|z
   ·exact absurd (q3 b z) p2
   ·rw [z]
   ·exact absurd (p3 b' z) q2
def RingA.one {f:Nat->Option Int} {m:Nat} {x y:Option Int} (no:∀ n,n < m->¬ ZI f n) (h:RingA f m x) (h':RingA f m y):x=y:=by
 rcases h with ⟨e,rfl⟩|⟨k,hk,n1,e,rfl⟩ <;> rcases h' with ⟨e',rfl⟩|⟨k',hk',n1',e',rfl⟩
 ·rfl
 ·exact absurd e n1'
 ·exact absurd e' n1
 ·rcases bR k k' with z|z|z
  ·exact absurd (.inr ⟨k,z,e.trans e'.symm⟩) (no k' hk')
  ·rw [z]
  ·exact absurd (.inr ⟨k',z,e'.trans e.symm⟩) (no k hk)
def V1 (K:PySem.W.Frag):Sp:=λ vs H Q _=>∃ (l:Addr) (ns:List Int),vs=[.ref l]/\SqL K H l (ns.map V.int)/\ns.length<=63/\∀ H',Q (.bl true) H'
theorem zhl (T:Txt K mg a) (F:Fun K "law" "law" QM f fd):FnOk P w K mg base (CXr P w) 12 f fd ["_law_script"] (V1 K):=by
 refine F.okx zg5 ?_ ?_
 ·walk_at "i"
 walk_at "j";refine oE2 h λ l ns z1_=>oA4 z1_ λ z2_ hl hn k=>?_;clear h;subst z2_;walk_at "T";refine ⟨_,(zh (QN (i:=1) zg5.nd rfl (Or.inl rfl) (vars:=["_law_cell_here"]) (caps:=[]) (N:=["_law_cell_here"]) (ON:=["_law_script","_law_cells","_law_work_here","_law_limit","_law_word","_law_turn","_law_told"]) (osc:=zf QM) rfl rfl (by first|decide +kernel|kernel_rfl) rfl rfl (qd (pq 0)) (λ s H fp pins=>(qk 0 (show (["_law_cell_here"]:List Str).Nodup from by decide +kernel))) (λ s H fp pins=>qf) (λ s H fp pins=>(Qu (pq 0))))  (zh (Zq (zt ⟨rfl,rfl,rfl⟩ hr (za (pq 1) zc)) (Zr (n:=2) rfl (qu (qk 2 zg5.nd) (qu (qk 3 zg5.nd) wO))))  (zh (Zq (zt ⟨rfl,rfl,rfl⟩ hr (za (pq 2) (za (pq 3) zc))) (Zr (n:=2) rfl (qu (qk 4 zg5.nd) (qu (qk 5 zg5.nd) wO))))  (zh (zD (zo (vZ hr.units1) (pq 4) qT (zq _))  (ze (zj (zt ⟨rfl,rfl,rfl⟩ hr (za (pq 2) (za (pq 3) (za (pq 4) zc))))))  zp)  (zh (zx 6 zg5.nd (zt ⟨rfl,rfl,rfl⟩ hr (za (pq 2) (za (pq 3) zc))))  (ze (zj (vx (zt ⟨rfl,rfl,rfl⟩ hr (za (pq 2) (za (zt ⟨rfl,rfl,rfl⟩ hr (za (pq 2) (za (pq 5) zc))) (za (pq 6) zc)))) (Zs (jz (Ws hr.units1) (zt ⟨rfl,rfl,rfl⟩ hr (za (pq 2) zc)) (pq 6) (zq _))))))))))),?_⟩;walk_at "go";walk_at "lc";walk_at "go";refine ⟨l,rfl,.inl ⟨⟨_,hl⟩,λ _ _ _ _ acc hacc=>?_⟩⟩;refine qE (K:=K) (a:=l) (xs:=iv ns) (λ q σ H'=>∃ (v0:Option V) (cs:List Int),σ=[v0]/\Same H H'/\H' acc=some (.lst (iv cs))/\cs.length=q) (iE2 _ ([]) (iA4 rfl (zg hacc) upd_same rfl)) (λ q σ H' _ h=>by obtain ⟨_,_,_,s,_⟩:=h;exact xZ s hl) ?_ ?_
 ·intro q x σ H1 hq zz_;refine oE2 zz_ λ v0 cs z1_=>oA4 z1_ λ z2_ s1 ha lc=>?_;clear zz_;subst z2_;obtain ⟨c,hc,rfl⟩:=ZY hq;have hql:=(aa.mp hc).1;walk_at "go";exact ⟨_,iA3 ha (zm (by rw [zF];omega)) (iE2 _ (cs ++ [_]) (iA4 rfl (λ b o hb=>by rw [upd_ne (ne_of_none hb hacc)];exact s1 b o hb) (by rw [upd_same,je]) (by simp [lc])))⟩
 intro σ H1 zz_;refine oE2 zz_ λ v0 cs z1_=>oA4 z1_ λ z2_ s1 ha _=>?_;clear zz_;subst z2_;walk_at "go";refine uc (zdO T).mono (zds acc cs rfl (SqL.of ha) (λ t vw lim H2 bs rs s2 ht l1000 rw2 wok bo ro near=>?_));clear s1 s2 ha hl hacc;walk_at "go";refine un2 ht ?_;walk_at "go";refine uc (zdI T).mono (iE4 vw lim bs rs (iA7 rfl rw2 wok bo ro l1000 (λ v H3 s3 r3=>?_)));have rw3:=rw2.same s3;refine oE3 r3 λ t2 x y z1_=>oA3 z1_ λ z2_ ht2 sa=>?_;clear r3;subst z2_;clear rw2 s3 ht;walk_at "go";refine un2 ht2 ?_;rcases sa with ⟨nr,rfl,rfl⟩|⟨i,j,rd,⟨st,rfl,rfl⟩|⟨st,rfl,rfl⟩⟩
 ·walk_at "go";exact zI (λ _=>(uc (QV T).mono (QR vw _ lim bs rs rfl rw3 wok bo ro l1000 (.inl ⟨nr,rfl⟩) (λ H4 _=>k _)))) (λ z=>absurd (by decide +kernel) z)
 ·walk_at "go";refine uc (xY T).mono (zcn vw lim bs rs rfl rw3 wok bo ro l1000 (λ i' j' v H4 rd' _ s4 wv=>?_) (λ i' j' rd' ns=>?_) (λ nr=>absurd nr rd.no))
  ·obtain ⟨e1,e2⟩:=rd.one rd';subst e1 e2;have rw4:=rw3.same s4;clear rw3 s4 ht2 rd';refine oE5 wv λ t l' o rg m z1_=>oA6 z1_ λ z2_ ht hl' lad en ring=>?_;clear wv;subst z2_;have wf:=qb wok bo ro i;have lc:=wf.co.1;have li:=rd.lt;have lj:=rd.le;walk_at "go";refine uc (zfl T).mono (uc (zfg T).mono (zbO vw i bs rs rfl rw4 wok bo ro (by omega) (λ v' H5 s5 sn=>?_)));refine oE2 sn λ y nn z1_=>oA3 z1_ λ z2_ so _=>?_;clear sn;subst z2_;have rw5:=rw4.same s5;have ht5:=s5 _ _ ht;have hl5:=s5 _ _ hl';clear rw4 s5 ht hl';refine iE8 vw y t l' nn _ bs rs (iE4 _ o rg m (iA9 rfl ⟨rw5,so,wf,wok.1.2.2,wok.1.1.2,ro,WE wf bo,zd0 wok bo ro rd st,lad.laden lc,en.2⟩ bo lad en ring ht5 hl5 (λ H6 s6=>?_)));have rw6:=rw5.same s6;have ht6:=s6 _ _ ht5;have hl6:=s6 _ _ hl5;clear rw5 s6 ht5 hl5 so;have le2:j<=200:=by
    by_cases z:200 < lim
    ·exact near z lim i j rd st
    ·omega
   have rd2:RoundAt bs rs 200 i j:={ rd with le:=le2 };walk_at "go";refine iE3 _ _ _ ⟨(xX T).mono,⟨vw,200,bs,rs,rfl,rw6,wok,bo,ro,by decide,λ i' j' v H7 rd' _ s7 wv=>?_,λ i' j' rd' ns=>?_,λ nr=>absurd nr rd2.no⟩⟩
   ·obtain ⟨e1,e2⟩:=rd2.one rd';subst e1 e2;refine oE5 wv λ t' l2 o' rg' m' z1_=>oA6 z1_ λ z2_ ht7 hl7 lad' en' ring'=>?_;clear wv;subst z2_;have e:=lad'.one lad;subst e;have e:=en'.one en;subst e;have e:=RingA.one en.2 ring' ring;subst e;refine .inr (.inr (iE6 t' t _ _ 1 (λ _=>true) (iA5 rfl rfl (by decide) (λ q x y hx hy=>?_) (.inr ⟨SqT.of ht7,SqT.of (s7 _ _ ht6),?_⟩))))
    ·match q,hx,hy with
     | 0,hx,hy =>
      cases hx;cases hy;by_cases e:l2=l'
      ·subst e;exact .same
      ·exact zgn e (SqL.of hl7) (SqL.of (s7 _ _ hl6))
     | 1,hx,hy =>
      cases hx;cases hy;have z:DE K H7 1 (oiV rg') (oiV rg') (eqV (oiV rg') (oiV rg')):=.flat (by cases rg' <;> rfl) (by cases rg' <;> rfl);rw [show eqV (oiV rg') (oiV rg')=true by cases rg' <;> simp [eqV,oiV]] at z;exact z
     | _ + 2,hx,_=>cases hx
    ·exact k _
   ·obtain ⟨e1,e2⟩:=rd2.one rd';subst e1 e2;exact absurd st ns
  ·obtain ⟨e1,e2⟩:=rd.one rd';subst e1 e2;exact absurd st ns
 ·walk_at "go";exact zI (λ _=>(uc (QV T).mono (QR vw _ lim bs rs rfl rw3 wok bo ro l1000 (.inr (iE2 i j (iA3 rd st rfl))) (λ H4 _=>k _)))) (λ z=>absurd (by decide +kernel) z)
theorem top_ok (T:Txt K mg a) (F:Fun K "law" "law" QM f fd):FnOk P w K mg base (CXr P w) 12 f fd ["_law_script"] (V1 K):=zhl T F
end
theorem zdB {α:Type} {n:Nat} {P:List α->Prop} (us:List α) (hl:us.length=n + 1) (h:∀ a vs,vs.length=n->P (a :: vs)):P us:=by
 cases us with
 | nil=>cases hl
 | cons a vs=>exact h a vs (Nat.succ.inj hl)
theorem ey0 {α:Type} {P:List α->Prop} (us:List α) (hl:us.length=0) (h:P []):P us:=by
 cases us with
 | nil=>exact h
 | cons=>cases hl
def ey1 {α:Type} {P:List α->Prop} (us:List α) (hl:us.length=1) (h:∀ a0,P [a0]):P us:=zdB us hl λ a0 _ l=>ey0 (P:=λ z=>P (a0 :: z)) _ l (h a0)
def ex1 {fn:FuncData} {ps:List Str} (us:List Value) (hl:us.length=1) (h:∀ a0,bindArgs fn ⟨[a0],[]⟩=pure (ps.zip [a0])):bindArgs fn ⟨us,[]⟩=pure (ps.zip us):=ey1 (P:=λ z=>bindArgs fn ⟨z,[]⟩=pure (ps.zip z)) us hl h
def ey2 {α:Type} {P:List α->Prop} (us:List α) (hl:us.length=2) (h:∀ a0 a1,P [a0,a1]):P us:=zdB us hl λ a0 _ l=>ey1 (P:=λ z=>P (a0 :: z)) _ l λ a1=>h a0 a1
def ex2 {fn:FuncData} {ps:List Str} (us:List Value) (hl:us.length=2) (h:∀ a0 a1,bindArgs fn ⟨[a0,a1],[]⟩=pure (ps.zip [a0,a1])):bindArgs fn ⟨us,[]⟩=pure (ps.zip us):=ey2 (P:=λ z=>bindArgs fn ⟨z,[]⟩=pure (ps.zip z)) us hl h
def ey3 {α:Type} {P:List α->Prop} (us:List α) (hl:us.length=3) (h:∀ a0 a1 a2,P [a0,a1,a2]):P us:=zdB us hl λ a0 _ l=>ey2 (P:=λ z=>P (a0 :: z)) _ l λ a1 a2=>h a0 a1 a2
def ex3 {fn:FuncData} {ps:List Str} (us:List Value) (hl:us.length=3) (h:∀ a0 a1 a2,bindArgs fn ⟨[a0,a1,a2],[]⟩=pure (ps.zip [a0,a1,a2])):bindArgs fn ⟨us,[]⟩=pure (ps.zip us):=ey3 (P:=λ z=>bindArgs fn ⟨z,[]⟩=pure (ps.zip z)) us hl h
def ey4 {α:Type} {P:List α->Prop} (us:List α) (hl:us.length=4) (h:∀ a0 a1 a2 a3,P [a0,a1,a2,a3]):P us:=zdB us hl λ a0 _ l=>ey3 (P:=λ z=>P (a0 :: z)) _ l λ a1 a2 a3=>h a0 a1 a2 a3
def ex4 {fn:FuncData} {ps:List Str} (us:List Value) (hl:us.length=4) (h:∀ a0 a1 a2 a3,bindArgs fn ⟨[a0,a1,a2,a3],[]⟩=pure (ps.zip [a0,a1,a2,a3])):bindArgs fn ⟨us,[]⟩=pure (ps.zip us):=ey4 (P:=λ z=>bindArgs fn ⟨z,[]⟩=pure (ps.zip z)) us hl h
def ey5 {α:Type} {P:List α->Prop} (us:List α) (hl:us.length=5) (h:∀ a0 a1 a2 a3 a4,P [a0,a1,a2,a3,a4]):P us:=zdB us hl λ a0 _ l=>ey4 (P:=λ z=>P (a0 :: z)) _ l λ a1 a2 a3 a4=>h a0 a1 a2 a3 a4
def ex5 {fn:FuncData} {ps:List Str} (us:List Value) (hl:us.length=5) (h:∀ a0 a1 a2 a3 a4,bindArgs fn ⟨[a0,a1,a2,a3,a4],[]⟩=pure (ps.zip [a0,a1,a2,a3,a4])):bindArgs fn ⟨us,[]⟩=pure (ps.zip us):=ey5 (P:=λ z=>bindArgs fn ⟨z,[]⟩=pure (ps.zip z)) us hl h
def ey6 {α:Type} {P:List α->Prop} (us:List α) (hl:us.length=6) (h:∀ a0 a1 a2 a3 a4 a5,P [a0,a1,a2,a3,a4,a5]):P us:=zdB us hl λ a0 _ l=>ey5 (P:=λ z=>P (a0 :: z)) _ l λ a1 a2 a3 a4 a5=>h a0 a1 a2 a3 a4 a5
def ex6 {fn:FuncData} {ps:List Str} (us:List Value) (hl:us.length=6) (h:∀ a0 a1 a2 a3 a4 a5,bindArgs fn ⟨[a0,a1,a2,a3,a4,a5],[]⟩=pure (ps.zip [a0,a1,a2,a3,a4,a5])):bindArgs fn ⟨us,[]⟩=pure (ps.zip us):=ey6 (P:=λ z=>bindArgs fn ⟨z,[]⟩=pure (ps.zip z)) us hl h
abbrev FHy (K:PySem.W.Frag) (x:Str) (st:Stmt):Prop:=∃ (f:Addr) (oc:Value) (od an:Option Addr) (osl:Array (Option Value)) (kV doc pm cdv ct:Value),PySem.W.nsIn K mainGlobals x=some (some (.ref f))/\K.lookup f=some ⟨oc,od,.func (PySem.W.fnOf x x (zW st) (zN st) (zf st) .none kV doc pm an cdv ct),osl⟩/\PySem.W.codeIn K cdv x=true/\PySem.W.keepIn K (.ref f)=true
def fhy {K:PySem.W.Frag} {x:Str} {st:Stmt} {f:Addr} {oc:Value} {od an:Option Addr} {osl:Array (Option Value)} {kV doc pm cdv ct:Value} (a:PySem.W.nsIn K mainGlobals x=some (some (.ref f))) (l:K.lookup f=some ⟨oc,od,.func (PySem.W.fnOf x x (zW st) (zN st) (zf st) .none kV doc pm an cdv ct),osl⟩) (c:PySem.W.codeIn K cdv x=true) (k:PySem.W.keepIn K (.ref f)=true):FHy K x st:=⟨_,_,_,_,_,_,_,_,_,_,a,l,c,k⟩
def qm {K:PySem.W.Frag} {mg:Str->Option Value} {h:Heap} {x:Str} {st:Stmt} {ps:List Str} (X:K.In h) (G:h.Ns mainGlobals mg) (y:FHy K x st) (hb:∀ (kV doc pm:Value) (an:Option Addr) (cdv ct:Value) (us:List Value),us.length=ps.length->bindArgs (PySem.W.fnOf x x (zW st) (zN st) (zf st) .none kV doc pm an cdv ct) ⟨us,[]⟩=pure (ps.zip us)):FA K mg x st ps:=by
 obtain ⟨_,_,_,_,_,_,_,_,_,_,a,l,c,k⟩:=y;exact zim X G a l c k hb
abbrev CHy (K:PySem.W.Frag) (C:Addr):Prop:=PySem.W.plainGet K C Str.empty=true/\PySem.W.hasDictIn K C=true/\plainOver K C=true/\PySem.W.findIn K (.ref C) "__setattr__"=some (some (.builtin "object.__setattr__"))/\PySem.W.makesIn K C=true/\PySem.W.keepIn K (.ref C)=true/\PySem.W.findIn K (.ref C) "__class__"=some (some (.builtin "object.__class__"))/\mroIn K C (.type "object")=some true
def CHy.c {K:PySem.W.Frag} {C:Addr} (h:CHy K C):Cls K C:=⟨h.1,h.2.1,h.2.2.1,h.2.2.2.1⟩
def CHy.w {K:PySem.W.Frag} {C:Addr} (h:CHy K C) (g:PySem.W.specialIn K (.builtin "object.__class__") "__get__"=some (some (.builtin "getset_descriptor.__get__"))) (t:PySem.W.takesIn K (.builtin "object.__class__")=some true):WI K C:=⟨h.2.2.2.2.2.2.1,h.2.2.2.2.2.2.2,g,t⟩
abbrev MHy (K:PySem.W.Frag) (C:Addr) (m q:Str) (st:Stmt):Prop:=∃ (f:Addr) (oc:Value) (od an:Option Addr) (osl:Array (Option Value)) (kV doc pm cdv ct:Value),PySem.W.findIn K (.ref C) m=some (some (.ref f))/\PySem.W.isFn K (.ref f)=true/\K.lookup f=some ⟨oc,od,.func (PySem.W.fnOf m q (zW st) (zN st) (zf st) .none kV doc pm an cdv ct),osl⟩/\PySem.W.codeIn K cdv q=true/\PySem.W.keepIn K (.ref f)=true
def mhy {K:PySem.W.Frag} {C:Addr} {m q:Str} {st:Stmt} {f:Addr} {oc:Value} {od an:Option Addr} {osl:Array (Option Value)} {kV doc pm cdv ct:Value} (a:PySem.W.findIn K (.ref C) m=some (some (.ref f))) (i:PySem.W.isFn K (.ref f)=true) (l:K.lookup f=some ⟨oc,od,.func (PySem.W.fnOf m q (zW st) (zN st) (zf st) .none kV doc pm an cdv ct),osl⟩) (c:PySem.W.codeIn K cdv q=true) (k:PySem.W.keepIn K (.ref f)=true):MHy K C m q st:=⟨_,_,_,_,_,_,_,_,_,_,a,i,l,c,k⟩
def vF {K:PySem.W.Frag} {C:Addr} {m q:Str} {st:Stmt} {ps:List Str} (y:MHy K C m q st) (hb:∀ (kV doc pm:Value) (an:Option Addr) (cdv ct:Value) (us:List Value),us.length=ps.length->bindArgs (PySem.W.fnOf m q (zW st) (zN st) (zf st) .none kV doc pm an cdv ct) ⟨us,[]⟩=pure (ps.zip us)):FM K C m q st ps:=by
 obtain ⟨_,_,_,_,_,_,_,_,_,_,a,i,l,c,k⟩:=y;exact zii a i l c k hb
def VD {K:PySem.W.Frag} {C:Addr} {q:Str} {st:Stmt} {ps:List Str} (z:CHy K C) (y:MHy K C "__init__" q st) (hb:∀ (kV doc pm:Value) (an:Option Addr) (cdv ct:Value) (us:List Value),us.length=ps.length->bindArgs (PySem.W.fnOf "__init__" q (zW st) (zN st) (zf st) .none kV doc pm an cdv ct) ⟨us,[]⟩=pure (ps.zip us)):FK K C q st ps:=by
 obtain ⟨_,_,_,_,_,_,_,_,_,_,a,i,l,c,k⟩:=y;exact zij z.2.2.2.2.1 z.2.2.2.2.2.1 a i l c k hb
theorem all_mk {l:PySem.W.OpenLaw} {w:World} {K:PySem.W.Frag} {h:Heap} {mg:Str->Option Value} {fa fL f25 ya f28 yb yc yd ye yf yg yh yi yj yk yl ym yn yo yp yq yr yt:Addr} (X:K.In h) (G:h.Ns mainGlobals mg) (hfa:mg "law"=some (.ref fa))
  {yu yv yx yy odL anL yz yA:Option Addr} {yB yC slL yD:Array (Option Value)} {yE yF yG yH yI yJ yK yL yM yN yO yP ocL kVL dcL pmL cdL ctL yQ yR yS yT yU yV:Value}
  {yW yX:Value} {yY yZ:Option Addr} {y9 yaa:Nat} {yba yca:Array (Option Value)} {yda yea:Tok}
  {yfa yga yha yia yja yka yla:Tok}
  (h1:FHy K "check_pace" wJ)
  (h2:FHy K "check_kind" wK)
  (h3:FHy K "check_ways" wH)
  (h4:FHy K "first_place" xS)
  (h5:FHy K "place_for_ware" jF)
  (h6:FHy K "kind_of" Qi)
  (h7:FHy K "no_counts" vh)
  (h8:FHy K "empty_state" jg)
  (h9:FHy K "copied_state" xp)
  (h10:FHy K "kinds_in" wF)
  (h11:FHy K "kind_place" wG)
  (h12:FHy K "shape_of" xn)
  (h13:FHy K "heads_of" xo)
  (h14:FHy K "taken_ware" wD)
  (h15:FHy K "belt_at" Qj)
  (h16:FHy K "counted_place" jS)
  (h17:FHy K "act" zaf)
  (h18:FHy K "act_all" Qk)
  (h19:FHy K "move_belt" vj)
  (h20:FHy K "pass_turn" xC)
  (h21:FHy K "one_turn" Zp)
  (h22:FHy K "round_ends" wE)
  (h23:FHy K "growth_of" xD)
  (h24:FHy K "still_state" xQ)
  (a25:PySem.W.nsIn K mainGlobals "still_from"=some (some (.ref f25))) (l25:K.lookup f25=some ⟨yE,yu,.func (PySem.W.fnOf "still_from" "still_from" (zW qH) (zN qH) (zf qH) (.ref ya) yF yG yH yv yI yJ),yB⟩) (c25:PySem.W.codeIn K yI "still_from"=true) (k25:PySem.W.keepIn K (.ref f25)=true)
  (yma:K.lookup ya=some ⟨yW,yY,.seq #[.int 200 yda] y9,yba⟩)
  (h26:FHy K "first_laden" xT)
  (h27:FHy K "waited_for" wC)
  (a28:PySem.W.nsIn K mainGlobals "waiting_way"=some (some (.ref f28))) (l28:K.lookup f28=some ⟨yK,yx,.func (PySem.W.fnOf "waiting_way" "waiting_way" (zW qy) (zN qy) (zf qy) (.ref yb) yL yM yN yy yO yP),yC⟩) (c28:PySem.W.codeIn K yO "waiting_way"=true) (k28:PySem.W.keepIn K (.ref f28)=true)
  (yna:K.lookup yb=some ⟨yX,yZ,.seq #[.int 200 yea] yaa,yca⟩)
  (h29:FHy K "played" JX)
  (h30:FHy K "common" ZK)
  (h31:FHy K "lasting" Qh)
  (h32:FHy K "check_size" wI)
  (h33:FHy K "check_each_once" ju)
  (h34:FHy K "_law_cell" J1)
  (h35:FHy K "_law_some" JZ)
  (h36:FHy K "_law_belt" J3)
  (h37:FHy K "_law_kinds" Qo)
  (h38:FHy K "_law_split" Qn)
  (h39:FHy K "_law_grown" Qp)
  (h40:FHy K "_law_work" JY)
  (h41:FHy K "_law_still" Ql)
  (h42:FHy K "_law_refused" vm)
  (h43:FHy K "_law_ahead" Qr)
  (h44:FHy K "_law_shut" J0)
  (h45:FHy K "_law_numbers" vn)
  (h46:FHy K "_law_steps" Qm)
  (h47:FHy K "_law_good" ZM)
  (h48:FHy K "_law_closed" wL)
  (h49:FHy K "_law_lanes" vN)
  (h50:FHy K "_law_long" ZL)
  (h51:FHy K "_law_built" Qq)
  (aL:PySem.W.nsIn K mainGlobals "law"=some (some (.ref fL))) (lL:K.lookup fL=some ⟨ocL,odL,.func (PySem.W.fnOf "law" "law" (zW QM) (zN QM) (zf QM) .none kVL dcL pmL anL cdL ctL),slL⟩) (cL:PySem.W.codeIn K cdL "law"=true) (kL:PySem.W.keepIn K (.ref fL)=true)
  (yoa:PySem.W.nsIn K mainGlobals "len"=some none)
  (ypa:PySem.W.nsIn K mainGlobals "range"=some none)
  (yqa:PySem.W.nsIn K mainGlobals "list"=some none)
  (yra:PySem.W.nsIn K mainGlobals "max"=some none)
  (ysa:PySem.W.nsIn K mainGlobals "tuple"=some none)
  (yta:PySem.W.nsIn K mainGlobals "isinstance"=some none)
  (yua:PySem.W.nsIn K mainGlobals "enumerate"=some none)
  (yva:PySem.W.nsIn K mainGlobals "zip"=some none)
  (ywa:PySem.W.nsIn K mainGlobals "sorted"=some none)
  (yxa:PySem.W.nsIn K mainGlobals "bool"=some none)
  (yya:PySem.W.nsIn K mainGlobals "set"=some none)
  (yza:PySem.W.nsIn K mainGlobals "int"=some none)
  (yAa:PySem.W.nsIn K mainGlobals "WorkError"=some (some (.ref yc)))
  (yBa:PySem.W.nsIn K mainGlobals "BadBelt"=some (some (.ref yd)))
  (yCa:PySem.W.nsIn K mainGlobals "BadKnot"=some (some (.ref ye)))
  (yDa:PySem.W.nsIn K mainGlobals "BadWork"=some (some (.ref yf)))
  (yEa:PySem.W.nsIn K mainGlobals "TooLong"=some (some (.ref yg)))
  (yFa:PySem.W.nsIn K mainGlobals "Moving"=some (some (.ref yh)))
  (yGa:PySem.W.nsIn K mainGlobals "Belt"=some (some (.ref yi)))
  (yHa:PySem.W.nsIn K mainGlobals "Knot"=some (some (.ref yj)))
  (yIa:PySem.W.nsIn K mainGlobals "Source"=some (some (.ref yk)))
  (yJa:PySem.W.nsIn K mainGlobals "Drain"=some (some (.ref yl)))
  (yKa:PySem.W.nsIn K mainGlobals "Parter"=some (some (.ref ym)))
  (yLa:PySem.W.nsIn K mainGlobals "FirstParter"=some (some (.ref yn)))
  (yMa:PySem.W.nsIn K mainGlobals "Sieve"=some (some (.ref yo)))
  (yNa:PySem.W.nsIn K mainGlobals "Joiner"=some (some (.ref yp)))
  (yOa:PySem.W.nsIn K mainGlobals "State"=some (some (.ref yq)))
  (yPa:PySem.W.nsIn K mainGlobals "Work"=some (some (.ref yr)))
  (yQa:CHy K yi)
  (yRa:NoAttr K yi "room")
  (ySa:NoAttr K yi "pace")
  (yTa:MHy K yi "__init__" "Belt.__init__" xG)
  (yUa:PySem.W.findIn K (.ref yj) "__init__"=some (some (.ref yt))) (yVa:PySem.W.isFn K (.ref yt)=true) (yWa:K.lookup yt=some ⟨yQ,yz,.func (PySem.W.fnOf "__init__" "Knot.__init__" (zW qV) (zN qV) (zf qV) .none yR yS yT yA yU yV),yD⟩) (yXa:PySem.W.codeIn K yU "Knot.__init__"=true) (yYa:PySem.W.keepIn K (.ref yt)=true)
  (yZa:PySem.W.specialIn K (.ref yj) "__getattribute__"=some (some (.builtin "type.__getattribute__")))
  (y0a:readsIn K yj (.type "type")=true)
  (y1a:findCls K (.ref yj) (.type "type") "__init__"=some (.val (.ref yt)))
  (y2a:CHy K yk)
  (y3a:NoAttr K yk "pace")
  (y4a:NoAttr K yk "kinds")
  (y5a:NoAttr K yk "ins")
  (y6a:NoAttr K yk "outs")
  (y7a:MHy K yk "__init__" "Source.__init__" jJ)
  (y8a:MHy K yk "choice" "Source.choice" jU)
  (y9a:MHy K yk "copied" "Source.copied" jT)
  (yab:CHy K yl)
  (ybb:NoAttr K yl "pace")
  (ycb:NoAttr K yl "ins")
  (ydb:NoAttr K yl "outs")
  (yeb:MHy K yl "__init__" "Drain.__init__" xf)
  (yfb:MHy K yl "choice" "Drain.choice" xu)
  (ygb:MHy K yl "copied" "Drain.copied" xt)
  (yhb:CHy K ym)
  (yib:NoAttr K ym "ins")
  (yjb:NoAttr K ym "outs")
  (ykb:MHy K ym "__init__" "Parter.__init__" jK)
  (ylb:MHy K ym "choice" "Parter.choice" jW)
  (ymb:MHy K ym "copied" "Parter.copied" jV)
  (ynb:CHy K yn)
  (yob:NoAttr K yn "ins")
  (ypb:NoAttr K yn "outs")
  (yqb:MHy K yn "__init__" "FirstParter.__init__" qI)
  (yrb:MHy K yn "choice" "FirstParter.choice" qX)
  (ysb:MHy K yn "copied" "FirstParter.copied" qW)
  (ytb:CHy K yo)
  (yub:NoAttr K yo "kind")
  (yvb:NoAttr K yo "ins")
  (ywb:NoAttr K yo "outs")
  (yxb:MHy K yo "__init__" "Sieve.__init__" xb)
  (yyb:MHy K yo "choice" "Sieve.choice" xr)
  (yzb:MHy K yo "place_for" "Sieve.place_for" jw)
  (yAb:MHy K yo "copied" "Sieve.copied" xq)
  (yBb:CHy K yp)
  (yCb:NoAttr K yp "ins")
  (yDb:NoAttr K yp "outs")
  (yEb:MHy K yp "__init__" "Joiner.__init__" jL)
  (yFb:MHy K yp "choice" "Joiner.choice" jl)
  (yGb:MHy K yp "copied" "Joiner.copied" jX)
  (yHb:CHy K yq)
  (yIb:NoAttr K yq "turn")
  (yJb:NoAttr K yq "cells")
  (yKb:NoAttr K yq "sides")
  (yLb:NoAttr K yq "gone")
  (yMb:MHy K yq "__init__" "State.__init__" jb)
  (yNb:CHy K yr)
  (yOb:NoAttr K yr "belts")
  (yPb:NoAttr K yr "knots")
  (yQb:MHy K yr "__init__" "Work.__init__" jp)
  (yRb:MHy K yr "taker" "Work.taker" xa)
  (ySb:MHy K yr "drains" "Work.drains" jI)
  (yTb:MHy K yr "sources" "Work.sources" jv)
  (yUb:MHy K yr "beat" "Work.beat" xF)
  (wgn:PySem.W.specialIn K (.builtin "object.__class__") "__get__"=some (some (.builtin "getset_descriptor.__get__"))) (wtk:PySem.W.takesIn K (.builtin "object.__class__")=some true)
  (yVb:PySem.W.nsIn K mainGlobals "MOST_ROOM"=some (some (.int 6 yfa)))
  (yWb:PySem.W.nsIn K mainGlobals "MOST_PACE"=some (some (.int 4 yga)))
  (yXb:PySem.W.nsIn K mainGlobals "MOST_KINDS"=some (some (.int 6 yha)))
  (yYb:PySem.W.nsIn K mainGlobals "FEWEST_WAYS"=some (some (.int 2 yia)))
  (yZb:PySem.W.nsIn K mainGlobals "MOST_WAYS"=some (some (.int 4 yja)))
  (y0b:PySem.W.nsIn K mainGlobals "MOST_BELTS"=some (some (.int 24 yka)))
  (y1b:PySem.W.nsIn K mainGlobals "MOST_KNOTS"=some (some (.int 24 yla)))
  (y2b:excIn K yd bmV "ValueError.__new__"=true)
  (y3b:excIn K ye bmV "ValueError.__new__"=true)
  (y4b:excIn K yg bmV "ValueError.__new__"=true)
  (y5b:PySem.W.findIn K (.ref yg) "__getattribute__"=some (some (.builtin "BaseException.__getattribute__")))
  (y6b:PySem.W.findIn K (.ref yg) "__getattr__"=some none)
  (y7b:PySem.W.findIn K (.ref yg) "__class__"=some (some (.builtin "object.__class__")))
  (y8b:PySem.W.hasDictIn K yg=true)
  (y9b:mroIn K yg (.type "object")=some true)
  (yac:PySem.W.subIn K (.ref yg) (.type "BaseException")=some true)
  (ybc:excIn K yh bmV "ValueError.__new__"=true)
  (ycc:PySem.W.findIn K (.ref yh) "__getattribute__"=some (some (.builtin "BaseException.__getattribute__")))
  (ydc:PySem.W.findIn K (.ref yh) "__getattr__"=some none)
  (yec:PySem.W.findIn K (.ref yh) "__class__"=some (some (.builtin "object.__class__")))
  (yfc:PySem.W.hasDictIn K yh=true)
  (ygc:mroIn K yh (.type "object")=some true)
  (yhc:PySem.W.subIn K (.ref yh) (.type "BaseException")=some true)
  (yic:excIn K yf bmV "ValueError.__new__"=true)
  (xgn:PySem.W.specialIn K (.builtin "object.__class__") "__get__"=some (some (.builtin "getset_descriptor.__get__")))
  (xtk:PySem.W.takesIn K (.builtin "object.__class__")=some true)
  (yjc:PySem.W.subIn K (.ref yg) (.type "BaseException")=some true)
  (ykc:PySem.W.hasDictIn K yg=true)
  (ylc:PySem.W.typeIn K (.ref yg)=some (.type "type"))
  (ymc:PySem.W.subIn K (.ref yg) (.ref yg)=some true)
  (ync:PySem.W.subIn K (.ref yc) (.type "BaseException")=some true)
  (yoc:PySem.W.hasDictIn K yc=true)
  (ypc:PySem.W.typeIn K (.ref yc)=some (.type "type"))
  (yqc:PySem.W.subIn K (.ref yg) (.ref yc)=some true)
  (yrc:PySem.W.subIn K (.ref yh) (.ref yc)=some true)
  (ysc:PySem.W.kitOne K (.ref yk) (.ref yp)=some false)
  (ytc:PySem.W.kitOne K (.ref yl) (.ref yp)=some false)
  (yuc:PySem.W.kitOne K (.ref ym) (.ref yp)=some false)
  (yvc:PySem.W.kitOne K (.ref yn) (.ref yp)=some false)
  (ywc:PySem.W.kitOne K (.ref yo) (.ref yp)=some false)
  (yxc:PySem.W.kitOne K (.ref yp) (.ref yp)=some true)
  (yyc:PySem.W.kitOne K (.ref yk) (.ref yl)=some false)
  (yzc:PySem.W.kitOne K (.ref yl) (.ref yl)=some true)
  (yAc:PySem.W.kitOne K (.ref ym) (.ref yl)=some false)
  (yBc:PySem.W.kitOne K (.ref yn) (.ref yl)=some false)
  (yCc:PySem.W.kitOne K (.ref yo) (.ref yl)=some false)
  (yDc:PySem.W.kitOne K (.ref yp) (.ref yl)=some false)
  (yEc:PySem.W.kitOne K (.ref yk) (.ref yo)=some false)
  (yFc:PySem.W.kitOne K (.ref yl) (.ref yo)=some false)
  (yGc:PySem.W.kitOne K (.ref ym) (.ref yo)=some false)
  (yHc:PySem.W.kitOne K (.ref yn) (.ref yo)=some false)
  (yIc:PySem.W.kitOne K (.ref yo) (.ref yo)=some true)
  (yJc:PySem.W.kitOne K (.ref yp) (.ref yo)=some false)
  (yKc:PySem.W.kitOne K (.ref yk) (.ref yk)=some true)
  (yLc:PySem.W.kitOne K (.ref yl) (.ref yk)=some false)
  (yMc:PySem.W.kitOne K (.ref ym) (.ref yk)=some false)
  (yNc:PySem.W.kitOne K (.ref yn) (.ref yk)=some false)
  (yOc:PySem.W.kitOne K (.ref yo) (.ref yk)=some false)
  (yPc:PySem.W.kitOne K (.ref yp) (.ref yk)=some false)
  (yQc:PySem.W.kitOne K (.ref yg) (.ref yh)=some false)
  (yRc:PySem.W.kitOne K (.ref yh) (.ref yh)=some true)
  (ySc:PySem.W.kitOne K (.ref yg) (.ref yg)=some true)
  (yTc:PySem.W.kitOne K (.ref yh) (.ref yg)=some false)
  : ∃ fd:FuncData,(∀ (s:Shared) (v:Value),BindsTo s fd ⟨[v],[]⟩ [("_law_script",v)])/\∀ base:Heap,K.In base->base.Ns mainGlobals mg->FnOk l.prog w K mg base (CXr l.prog w) 12 fa fd ["_law_script"] (V1 K):=by
 have e:=hfa.symm.trans (cj X G aL);cases e;have T:Txt K mg ⟨yc,yd,ye,yf,yg,yh,yi,yj,yk,yl,ym,yn,yo,yp,yq,yr⟩:={
  kg:=qm X G h1 λ _ _ _ _ _ _ us hl=>ex2 us hl λ _ _=>rfl
  kh:=qm X G h2 λ _ _ _ _ _ _ us hl=>ex1 us hl λ _=>rfl
  ki:=qm X G h3 λ _ _ _ _ _ _ us hl=>ex1 us hl λ _=>rfl
  iY:=qm X G h4 λ _ _ _ _ _ _ us hl=>ex2 us hl λ _ _=>rfl
  hZ:=qm X G h5 λ _ _ _ _ _ _ us hl=>ex3 us hl λ _ _ _=>rfl
  lE:=qm X G h6 λ _ _ _ _ _ _ us hl=>ex2 us hl λ _ _=>rfl
  kJ:=qm X G h7 λ _ _ _ _ _ _ us hl=>ex1 us hl λ _=>rfl
  iZ:=qm X G h8 λ _ _ _ _ _ _ us hl=>ex1 us hl λ _=>rfl
  iO:=qm X G h9 λ _ _ _ _ _ _ us hl=>ex1 us hl λ _=>rfl
  k9:=qm X G h10 λ _ _ _ _ _ _ us hl=>ex2 us hl λ _ _=>rfl
  kj:=qm X G h11 λ _ _ _ _ _ _ us hl=>ex3 us hl λ _ _ _=>rfl
  lh:=qm X G h12 λ _ _ _ _ _ _ us hl=>ex2 us hl λ _ _=>rfl
  ll:=qm X G h13 λ _ _ _ _ _ _ us hl=>ex3 us hl λ _ _ _=>rfl
  km:=qm X G h14 λ _ _ _ _ _ _ us hl=>ex3 us hl λ _ _ _=>rfl
  lF:=qm X G h15 λ _ _ _ _ _ _ us hl=>ex2 us hl λ _ _=>rfl
  ip:=qm X G h16 λ _ _ _ _ _ _ us hl=>ex2 us hl λ _ _=>rfl
  mD:=qm X G h17 λ _ _ _ _ _ _ us hl=>ex3 us hl λ _ _ _=>rfl
  lH:=qm X G h18 λ _ _ _ _ _ _ us hl=>ex2 us hl λ _ _=>rfl
  kK:=qm X G h19 λ _ _ _ _ _ _ us hl=>ex1 us hl λ _=>rfl
  kN:=qm X G h20 λ _ _ _ _ _ _ us hl=>ex2 us hl λ _ _=>rfl
  ly:=qm X G h21 λ _ _ _ _ _ _ us hl=>ex2 us hl λ _ _=>rfl
  ko:=qm X G h22 λ _ _ _ _ _ _ us hl=>ex2 us hl λ _ _=>rfl
  kO:=qm X G h23 λ _ _ _ _ _ _ us hl=>ex2 us hl λ _ _=>rfl
  i0:=qm X G h24 λ _ _ _ _ _ _ us hl=>ex2 us hl λ _ _=>rfl
  kq:=zgP (st:=qH) (ps:=["work","limit"]) X G a25 l25 c25 k25 yma (.cons ⟨_,rfl⟩ (.nil)) (λ s us hK hl=>match us,hl with | [_,_],_=>binds_K hK rfl yma rfl rfl rfl) (λ s us hK hl=>match us,(show us.length=1 by simp at hl;omega) with | [_],_=>binds_K hK rfl yma rfl rfl rfl)
  i5:=qm X G h26 λ _ _ _ _ _ _ us hl=>ex1 us hl λ _=>rfl
  ku:=qm X G h27 λ _ _ _ _ _ _ us hl=>ex3 us hl λ _ _ _=>rfl
  gY:=zgP (st:=qy) (ps:=["work","limit"]) X G a28 l28 c28 k28 yna (.cons ⟨_,rfl⟩ (.nil)) (λ s us hK hl=>match us,hl with | [_,_],_=>binds_K hK rfl yna rfl rfl rfl) (λ s us hK hl=>match us,(show us.length=1 by simp at hl;omega) with | [_],_=>binds_K hK rfl yna rfl rfl rfl)
  lY:=qm X G h29 λ _ _ _ _ _ _ us hl=>ex2 us hl λ _ _=>rfl
  lZ:=qm X G h30 λ _ _ _ _ _ _ us hl=>ex2 us hl λ _ _=>rfl
  lI:=qm X G h31 λ _ _ _ _ _ _ us hl=>ex1 us hl λ _=>rfl
  kx:=qm X G h32 λ _ _ _ _ _ _ us hl=>ex2 us hl λ _ _=>rfl
  gZ:=qm X G h33 λ _ _ _ _ _ _ us hl=>ex2 us hl λ _ _=>rfl
  l5:=qm X G h34 λ _ _ _ _ _ _ us hl=>ex2 us hl λ _ _=>rfl
  l6:=qm X G h35 λ _ _ _ _ _ _ us hl=>ex3 us hl λ _ _ _=>rfl
  l7:=qm X G h36 λ _ _ _ _ _ _ us hl=>ex1 us hl λ _=>rfl
  lJ:=qm X G h37 λ _ _ _ _ _ _ us hl=>ex1 us hl λ _=>rfl
  lK:=qm X G h38 λ _ _ _ _ _ _ us hl=>ex4 us hl λ _ _ _ _=>rfl
  lM:=qm X G h39 λ _ _ _ _ _ _ us hl=>ex6 us hl λ _ _ _ _ _ _=>rfl
  l8:=qm X G h40 λ _ _ _ _ _ _ us hl=>ex2 us hl λ _ _=>rfl
  lN:=qm X G h41 λ _ _ _ _ _ _ us hl=>ex2 us hl λ _ _=>rfl
  kP:=qm X G h42 λ _ _ _ _ _ _ us hl=>ex3 us hl λ _ _ _=>rfl
  lO:=qm X G h43 λ _ _ _ _ _ _ us hl=>ex3 us hl λ _ _ _=>rfl
  l9:=qm X G h44 λ _ _ _ _ _ _ us hl=>ex2 us hl λ _ _=>rfl
  kR:=qm X G h45 λ _ _ _ _ _ _ us hl=>ex2 us hl λ _ _=>rfl
  lP:=qm X G h46 λ _ _ _ _ _ _ us hl=>ex3 us hl λ _ _ _=>rfl
  ma:=qm X G h47 λ _ _ _ _ _ _ us hl=>ex3 us hl λ _ _ _=>rfl
  lA:=qm X G h48 λ _ _ _ _ _ _ us hl=>ex1 us hl λ _=>rfl
  lQ:=qm X G h49 λ _ _ _ _ _ _ us hl=>ex2 us hl λ _ _=>rfl
  md:=qm X G h50 λ _ _ _ _ _ _ us hl=>ex1 us hl λ _=>rfl
  lS:=qm X G h51 λ _ _ _ _ _ _ us hl=>ex1 us hl λ _=>rfl
  gf:=bV X G yoa
  lC:=bV X G ypa
  lB:=bV X G yqa
  lX:=bV X G yra
  lD:=bV X G ysa
  fM:=bV X G yta
  iK:=bV X G yua
  mv:=bV X G yva
  kY:=bV X G ywa
  me:=bV X G yxa
  my:=bV X G yya
  mz:=bV X G yza
  iL:=cj X G yAa
  lT:=cj X G yBa
  gC:=cj X G yCa
  ky:=cj X G yDa
  gg:=cj X G yEa
  gR:=cj X G yFa
  mB:=cj X G yGa
  kZ:=cj X G yIa
  hX:=cj X G yJa
  mf:=cj X G yKa
  i6:=cj X G yLa
  kI:=cj X G yMa
  k8:=cj X G yNa
  mn:=cj X G yOa
  mC:=cj X G yPa
  gH:=yQa.c
  gw:=yRa
  gx:=ySa
  kS:=VD yQa yTa λ _ _ _ _ _ _ us hl=>ex3 us hl λ _ _ _=>rfl
  fO:=zik (st:=qV) (ps:=["self","ins","outs"]) (cj X G yHa) yZa y0a y1a yWa yXa yYa λ _ _ _ _ _ _ us hl=>ex3 us hl λ _ _ _=>rfl
  fT:=y2a.c
  gb:=y3a
  fZ:=y4a
  ia:=y5a
  gy:=y6a
  mh:=y2a.w wgn wtk
  i7:=VD y2a y7a λ _ _ _ _ _ _ us hl=>ex4 us hl λ _ _ _ _=>rfl
  ir:=vF y8a λ _ _ _ _ _ _ us hl=>ex5 us hl λ _ _ _ _ _=>rfl
  iu:=vF y9a λ _ _ _ _ _ _ us hl=>ex1 us hl λ _=>rfl
  f9:=yab.c
  fU:=ybb
  gS:=ycb
  ib:=ydb
  mq:=yab.w wgn wtk
  kz:=VD yab yeb λ _ _ _ _ _ _ us hl=>ex3 us hl λ _ _ _=>rfl
  iP:=vF yfb λ _ _ _ _ _ _ us hl=>ex5 us hl λ _ _ _ _ _=>rfl
  iQ:=vF ygb λ _ _ _ _ _ _ us hl=>ex1 us hl λ _=>rfl
  gi:=yhb.c
  gI:=yib
  gc:=yjb
  mi:=yhb.w wgn wtk
  i8:=VD yhb ykb λ _ _ _ _ _ _ us hl=>ex3 us hl λ _ _ _=>rfl
  iw:=vF ylb λ _ _ _ _ _ _ us hl=>ex5 us hl λ _ _ _ _ _=>rfl
  ix:=vF ymb λ _ _ _ _ _ _ us hl=>ex1 us hl λ _=>rfl
  fS:=ynb.c
  fY:=yob
  fX:=ypb
  i9:=ynb.w wgn wtk
  gW:=VD ynb yqb λ _ _ _ _ _ _ us hl=>ex3 us hl λ _ _ _=>rfl
  gJ:=vF yrb λ _ _ _ _ _ _ us hl=>ex5 us hl λ _ _ _ _ _=>rfl
  gM:=vF ysb λ _ _ _ _ _ _ us hl=>ex1 us hl λ _=>rfl
  fN:=ytb.c
  gj:=yub
  gU:=yvb
  fV:=ywb
  mt:=ytb.w wgn wtk
  kA:=VD ytb yxb λ _ _ _ _ _ _ us hl=>ex4 us hl λ _ _ _ _=>rfl
  iR:=vF yyb λ _ _ _ _ _ _ us hl=>ex5 us hl λ _ _ _ _ _=>rfl
  hJ:=vF yzb λ _ _ _ _ _ _ us hl=>ex2 us hl λ _ _=>rfl
  iS:=vF yAb λ _ _ _ _ _ _ us hl=>ex1 us hl λ _=>rfl
  gk:=yBb.c
  gm:=yCb
  gz:=yDb
  mj:=yBb.w wgn wtk
  ka:=VD yBb yEb λ _ _ _ _ _ _ us hl=>ex3 us hl λ _ _ _=>rfl
  iy:=vF yFb λ _ _ _ _ _ _ us hl=>ex5 us hl λ _ _ _ _ _=>rfl
  iz:=vF yGb λ _ _ _ _ _ _ us hl=>ex1 us hl λ _=>rfl
  fH:=yHb.c
  fP:=yIb
  fI:=yJb
  fW:=yKb
  fQ:=yLb
  kB:=VD yHb yMb λ _ _ _ _ _ _ us hl=>ex5 us hl λ _ _ _ _ _=>rfl
  fK:=yNb.c
  fR:=yOb
  fJ:=yPb
  kT:=VD yNb yQb λ _ _ _ _ _ _ us hl=>ex3 us hl λ _ _ _=>rfl
  kC:=vF yRb λ _ _ _ _ _ _ us hl=>ex2 us hl λ _ _=>rfl
  kb:=vF ySb λ _ _ _ _ _ _ us hl=>ex1 us hl λ _=>rfl
  iT:=vF yTb λ _ _ _ _ _ _ us hl=>ex1 us hl λ _=>rfl
  kU:=vF yUb λ _ _ _ _ _ _ us hl=>ex1 us hl λ _=>rfl
  kW:=⟨_,cj X G yVb⟩
  iM:=⟨_,cj X G yWb⟩
  kD:=⟨_,cj X G yXb⟩
  ke:=⟨_,cj X G yYb⟩
  kX:=⟨_,cj X G yZb⟩
  kF:=⟨_,cj X G y0b⟩
  kG:=⟨_,cj X G y1b⟩
  lU:=⟨y2b⟩
  gD:=⟨y3b⟩
  lV:=⟨y4b⟩
  gN:=⟨y5b,y6b,y7b,y8b,xgn,xtk,y9b,yac⟩
  ml:=⟨ybc⟩
  gX:=⟨ycc,ydc,yec,yfc,xgn,xtk,ygc,yhc⟩
  kH:=⟨yic⟩
  lW:=yjc
  hW:=QB ykc ylc ymc
  iN:=ync
  gd:=QB yoc ypc yqc
  gq:=QB yoc ypc yrc
  ic:=ysc
  iA:=ytc
  ie:=yuc
  gF:=yvc
  iB:=ywc
  ig:=yxc
  iC:=yyc
  iU:=yzc
  iD:=yAc
  gP:=yBc
  iV:=yCc
  iE:=yDc
  iF:=yEc
  iW:=yFc
  iG:=yGc
  gQ:=yHc
  iX:=yIc
  iH:=yJc
  ii:=yKc
  iI:=yLc
  ij:=yMc
  gG:=yNc
  iJ:=yOc
  io:=yPc
  gu:=yQc
  gA:=yRc
  gr:=ySc
  gv:=yTc
 }
 exact ⟨_,λ s v=>.of_eq rfl,λ base _ _=>top_ok T (wU (st:=QM) lL cL kL)⟩
def walk {l:PySem.W.OpenLaw} {q:Program} {loose:List Str} {XP:(Str->Option Value)->Heap->Prop} {YP:World->Heap->Prop} {d:DefRec} {K:Params->PySem.W.Frag} (hn:l.most=some 63) (hdf:d.params.defaults=[])
  (hY:∀ (w:World) (h:Heap),YP w h->(K w.params).In h)
  (F:∀ (w:World) (mg:Str->Option Value) (fa:Addr) (h:Heap),(K w.params).In h->h.Ns mainGlobals mg->mg d.name=some (.ref fa) ->
   ∃ fd:FuncData,(∀ (s:Shared) (u:Value),BindsTo s fd ⟨[u],[]⟩ [("_law_script",u)])/\∀ base:Heap,(K w.params).In base->base.Ns mainGlobals mg->FnOk l.prog w (K w.params) mg base (CXr l.prog w) 12 fa fd ["_law_script"] (V1 (K w.params))) :
  PySem.W.WalkO q loose XP YP l.row.toRowW d [] (λ f vs=>PySem.call f vs) :=
 L2.walk_of (n:=63) (k:=12) (x:="_law_script") (CX:=λ w=>CXr l.prog w) (sp:=λ w=>V1 (K w.params)) hn (by decide) hdf ⟨rfl,by decide,by decide⟩ hY F (λ _ _ a ns hl _ hS=>⟨a,ns,rfl,hS,hl,λ _=>rfl⟩) λ _ _ _ _ _ z=>zdC z
end K41
set_option Elab.async false
namespace PySem.W.Fast
def tw965194371085395723:=()
def tw5837407706923612351:=()
def tw4314975801847031823:=()
def tw12332961273239693831:=()
def tw8872305388437898019:=()
def tw15681273816893338772:=()
def tw1682370542638828086:=()
def tw5565494247615744467:=()
def tw1151139921368931874:=()
def tw12223338749165327206:=()
def tw7254126480331248795:=()
def tw16380118043055765835:=()
def tw14304322593043467314:=()
def tw13813732768655485453:=()
def tw6227185089939317532:=()
def tw16444476414325644144:=()
def tw2041448805737642994:=()
def tw16959137160879893252:=()
def tw13092434784349743575:=()
def tw5669707626621178436:=()
def tw8550613229572804764:=()
def tw8758721747260938546:=()
def tw1890599186933604222:=()
def tw12240832445150332816:=()
def tw1100006708119378334:=()
def tw8644227548548831797:=()
def tw15030189597652431794:=()
def tw5187366047144584059:=()
def tw4326871020873280045:=()
def tw3840671568107090839:=()
def tw14262037133703770139:=()
def tw12417686594821690124:=()
def tw16597941300182517701:=()
def tw4805473466014962479:=()
def tw17850077611713997464:=()
def tw17771737704836753710:=()
def tw13066419925708668252:=()
def tw3554114456223978559:=()
def tw6654104171791990344:=()
def tw5154856012705983619:=()
def tw16969306452754023651:=()
def tw17320513336131988535:=()
def tw16521493003707731645:=()
def tw6848476808746377506:=()
def tw7020272621777523051:=()
def tw17276387092254046061:=()
def tw15096477547024681156:=()
def tw12218569375085697381:=()
def tw5808601955951993042:=()
def tw8959157614820195555:=()
def tw6353984102587657112:=()
def tw15286101178972962222:=()
def tw11476939086710285871:=()
def tw498990185623087791:=()
def tw2144986404945246668:=()
def tw3444461512169343539:=()
def tw6219256101042462399:=()
def tw11021928068235691222:=()
def tw9305083879497026939:=()
def tw16649491172520427476:=()
def tw13566562291556029966:=()
def tw39339075284762636:=()
def tw2303108291593238891:=()
def tw1635754039602789126:=()
def tw16423902859345848898:=()
def tw17922151617250729095:=()
def tw11466133721785084936:=()
def tw17308270964206135861:=()
def tw1288319673411464998:=()
def tw537608425623173626:=()
def tw11364476952044811696:=()
def tw3099869428785822642:=()
def tw3852155157034682948:=()
def tw4599258648565127964:=()
def tw4749127619175777234:=()
def tw7530976229008975604:=()
def tw16696473573318175453:=()
def tw4284975018311395815:=()
def tw7966059010831333731:=()
def tw10431522421233646940:=()
def tw4339912324994088753:=()
def tw17609483093662309613:=()
def tw2194205985709821820:=()
def tw12265744471494980383:=()
def tw10588925743590864407:=()
def tw15595616829949207276:=()
def tw1096313166245547687:=()
def tw9108102209382458339:=()
def tw18406079536594000016:=()
def tw2093993567129152724:=()
def tw10126900740703627179:=()
def tw17918374928836345893:=()
def tw14730315534775551888:=()
def tw14720326785604409831:=()
def tw17256884180052951045:=()
def tw6369547199567582871:=()
def tw3214461448634190179:=()
def tw1641996540403922496:=()
def tw6833469759038000656:=()
def tw18174834024783644040:=()
def tw4439185722322657871:=()
def tw12084629091209883512:=()
def tw15991154032157107427:=()
def tw12103592489414784796:=()
def tw1444711079453797770:=()
def tw10445844743855392837:=()
def tw980136599590333376:=()
def tw17505270923386906381:=()
def tw10194297712618406714:=()
def tw14109208898197299253:=()
def tw12407547473961834152:=()
def tw17019298863730005520:=()
def tw7259629531229333904:=()
def tw5882900381863254824:=()
def tw14021086454237832395:=()
def tw9139466678796837746:=()
def tw11291245373431707672:=()
def tw10504787368154330811:=()
def tw9795340604953308601:=()
def tw13704669860292959177:=()
def tw6817952786100583539:=()
def tw539104074378751251:=()
def tw12955535736565243148:=()
def tw12582663443326194894:=()
def tw17316078769902054539:=()
def tw3265796681476930030:=()
def tw4353736856093537176:=()
def tw15508029163146129886:=()
def tw9670579669347412507:=()
def tw16323579188349726882:=()
def tw5496364951122182894:=()
def tw13481688705434323701:=()
def tw3899817001120937433:=()
def tw10195247767338970581:=()
def tw13426653586399363442:=()
def tw17226089464266422465:=()
def tw13283993684786890329:=()
def tw1147400623157997133:=()
def tw17202934637532643118:=()
def tw4916009900532862087:=()
def tw5778542326856574652:=()
def tw610625274219122972:=()
def tw11545021969426486630:=()
def tw11682514764673500349:=()
def tw5645495067781705665:=()
def tw6400233493997603502:=()
def tw17270653860695984743:=()
def tw15681046066376467492:=()
def tw14514116797749274929:=()
def tw14681319695421905660:=()
def tw6562929378892850475:=()
def tw1970784009545249712:=()
def tw7479623058695445642:=()
def tw4669780031313433089:=()
def tw5490900961588246381:=()
def tw2408047160205548589:=()
def tw10317839567364664:=()
def tw10426253206079956955:=()
def tw10083959932811993840:=()
def tw13531018922200906181:=()
def tw9763295029508218361:=()
def tw18225538481914165218:=()
def tw7311826896713116537:=()
def tw3428208366705855923:=()
def tw16704388611265868473:=()
def tw4081569484335661855:=()
def tw7274857645608211531:=()
def tw16217322619429580874:=()
def tw14720667396613345942:=()
def tw18242534404773671257:=()
def tw17887435683210293695:=()
def tw8950894070185032571:=()
def tw8974991425600419402:=()
def tw6663960516426397213:=()
def tw10131495714980200538:=()
def tw742867432530406170:=()
def tw5201979554561617209:=()
def tw601608312796911041:=()
def tw617103022484299303:=()
def tw87961638974873350:=()
def tw17900034775651027431:=()
def tw10036891488168387195:=()
def tw18211991402625326009:=()
def tw8784202106427324096:=()
def tw12313695049459303139:=()
def tw15038864866664375505:=()
def tw14121143534046152711:=()
def tw12093958216574488901:=()
def tw6261666045176624101:=()
def tw17901841453782555816:=()
def tw9821988724938001525:=()
def tw14388223608876772102:=()
def tw9071631463034560215:=()
def tw7628932955578654989:=()
def tw5343830878630701228:=()
def tw18300904121016751348:=()
def tw12801064437856674243:=()
def tw6220297686442655218:=()
def tw5311671156715164407:=()
def tw15938092360530040529:=()
def tw17184384037522001601:=()
def tw11523513110610867268:=()
def tw10085974264793044327:=()
def tw90526526362963558:=()
def tw9474760786188783288:=()
def tw10686000001768286595:=()
def tw12043321993031700312:=()
def tw2294210246581677996:=()
def tw17739011309009013445:=()
def tw13245125420287417143:=()
def tw9584949570647108743:=()
def tw17685119615122159848:=()
def tw12046458750533600642:=()
def tw18364342992897421076:=()
def tw11475081466282622011:=()
def tw8255695423971492195:=()
def tw88227467677181521:=()
def tw15137506341674017808:=()
def tw7567015409636541249:=()
def tw14658499322654309995:=()
def tw13704359100717368721:=()
def tw15836722549813242272:=()
def tw7070095175203510739:=()
def tw1912907401394643061:=()
def tw8333016460590896518:=()
def tw4814819660972593249:=()
def tw14733223049723996558:=()
def tw12341309639103481474:=()
def tw1431923343508904257:=()
def tw9149704971084240778:=()
def tw14064180209944252083:=()
def tw9351263746521802376:=()
def tw2955143603936649427:=()
def tw3686832934711416690:=()
def tw7369542470145387748:=()
def tw10265947341921147956:=()
def tw14060315052819756595:=()
def tw8579255696871366537:=()
def tw14633331253353023474:=()
def tw6556704009332801265:=()
def tw16445122743414321523:=()
def tw13507053026847474962:=()
def tw10772119793120767209:=()
def tw12189645708542627541:=()
def tw10283578834751257253:=()
def tw4719438784059877274:=()
def tw14657551868304931419:=()
def tw15168660047229504440:=()
def tw2827101697382592161:=()
def tw825726222137018875:=()
def tw14283527147319069904:=()
def tw8636509963634007509:=()
def tw1298654008398667168:=()
def tw5876138659376713143:=()
def tw16489772893123366876:=()
def tw16159846367732688662:=()
def tw5134865990195703511:=()
def tw11144825480583678578:=()
def tw1687739737554023954:=()
def tw6918673852274136913:=()
def tw1517762138332144577:=()
def tw17108031791409323681:=()
def tw1316705096630461394:=()
def tw6610812158544890306:=()
def tw7669412639096242093:=()
def tw4907957781498449862:=()
def tw2349350122913517593:=()
def tw9769821755710574882:=()
def tw17373894452282028631:=()
def tw14314618675782712735:=()
def tw2881434254186941557:=()
def tw3053512914437882034:=()
def tw2004796098287100373:=()
def tw3804272773626302986:=()
def tw10163324050298092345:=()
def tw2182344327864101300:=()
def tw4476581669993389042:=()
def tw6496622215916511961:=()
def tw12507096819443561083:=()
def tw15506096065538578632:=()
def tw2363003319136922916:=()
def tw2976713252932011282:=()
def tw8487657662610957892:=()
def tw10305142245182879911:=()
def tw14568439874600458330:=()
def tw10043258409654682620:=()
def tw1165187737917130847:=()
def tw10368073930611312375:=()
def tw12461027216587883243:=()
def tw4176925236052818964:=()
def tw12804134989544004586:=()
def tw17511864049295788145:=()
def tw977771173735369998:=()
def tw4860167697995890529:=()
def tw4333110646692648831:=()
def tw7599502743270332332:=()
def tw11326897091561477447:=()
def tw8799493125145522195:=()
end PySem.W.Fast
open PySem PySem.W PyProof.Rows
set_option maxRecDepth 100000 in
set_option maxHeartbeats 0 in
theorem PySem.Challenge.cw_beltshares_k41_waiting_way_holds : PySem.Challenge.rw_beltshares_k41_waiting_way.Holds := by
 w_on;o_law;k_head;(case hw=>w_witness2)
 k_fill
 refine K41.walk (l:=PySem.Challenge.rw_beltshares_k41_waiting_way) rfl rfl (λ w h Y=>PySem.W.kIn_of Y) ?F
 case F =>
  intro w mg fa h KX G hmg;refine' K41.all_mk KX G hmg ?h1 ?h2 ?h3 ?h4 ?h5 ?h6 ?h7 ?h8 ?h9 ?h10 ?h11 ?h12 ?h13 ?h14 ?h15 ?h16 ?h17 ?h18 ?h19 ?h20 ?h21 ?h22 ?h23 ?h24 ?a25 ?l25 ?c25 ?k25 ?yma ?h26 ?h27 ?a28 ?l28 ?c28 ?k28 ?yna ?h29 ?h30 ?h31 ?h32 ?h33 ?h34 ?h35 ?h36 ?h37 ?h38 ?h39 ?h40 ?h41 ?h42 ?h43 ?h44 ?h45 ?h46 ?h47 ?h48 ?h49 ?h50 ?h51 ?aL ?lL ?cL ?kL ?yoa ?ypa ?yqa ?yra ?ysa ?yta ?yua ?yva ?ywa ?yxa ?yya ?yza ?yAa ?yBa ?yCa ?yDa ?yEa ?yFa ?yGa ?yHa ?yIa ?yJa ?yKa ?yLa ?yMa ?yNa ?yOa ?yPa ?yQa ?yRa ?ySa ?yTa ?yUa ?yVa ?yWa ?yXa ?yYa ?yZa ?y0a ?y1a ?y2a ?y3a ?y4a ?y5a ?y6a ?y7a ?y8a ?y9a ?yab ?ybb ?ycb ?ydb ?yeb ?yfb ?ygb ?yhb ?yib ?yjb ?ykb ?ylb ?ymb ?ynb ?yob ?ypb ?yqb ?yrb ?ysb ?ytb ?yub ?yvb ?ywb ?yxb ?yyb ?yzb ?yAb ?yBb ?yCb ?yDb ?yEb ?yFb ?yGb ?yHb ?yIb ?yJb ?yKb ?yLb ?yMb ?yNb ?yOb ?yPb ?yQb ?yRb ?ySb ?yTb ?yUb ?wgn ?wtk ?yVb ?yWb ?yXb ?yYb ?yZb ?y0b ?y1b ?y2b ?y3b ?y4b ?y5b ?y6b ?y7b ?y8b ?y9b ?yac ?ybc ?ycc ?ydc ?yec ?yfc ?ygc ?yhc ?yic ?xgn ?xtk ?yjc ?ykc ?ylc ?ymc ?ync ?yoc ?ypc ?yqc ?yrc ?ysc ?ytc ?yuc ?yvc ?ywc ?yxc ?yyc ?yzc ?yAc ?yBc ?yCc ?yDc ?yEc ?yFc ?yGc ?yHc ?yIc ?yJc ?yKc ?yLc ?yMc ?yNc ?yOc ?yPc ?yQc ?yRc ?ySc ?yTc
  (case h1|h2|h3|h4|h5|h6|h7|h8|h9|h10|h11|h12|h13|h14|h15|h16|h17|h18|h19|h20|h21|h22|h23|h24=>(refine' K41.fhy ?a ?l ?c ?k;(case a=>k_is);(case l=>k_is);(case c=>k_is);(case k=>k_is)))
  (case a25|l25|c25|k25|yma=>k_is)
  (case h26|h27=>(refine' K41.fhy ?a ?l ?c ?k;(case a=>k_is);(case l=>k_is);(case c=>k_is);(case k=>k_is)))
  (case a28|l28|c28|k28|yna=>k_is)
  (case h29|h30|h31|h32|h33|h34|h35|h36|h37|h38|h39|h40|h41|h42|h43|h44|h45|h46|h47|h48|h49|h50|h51=>(refine' K41.fhy ?a ?l ?c ?k;(case a=>k_is);(case l=>k_is);(case c=>k_is);(case k=>k_is)))
  (case aL|lL|cL|kL|yoa|ypa|yqa|yra|ysa|yta|yua|yva|ywa|yxa|yya|yza|yAa|yBa|yCa|yDa|yEa|yFa|yGa|yHa|yIa|yJa|yKa|yLa|yMa|yNa|yOa|yPa=>k_is)
  (case yQa=>(refine ⟨?_,?_,?_,?_,?_,?_,?_,?_⟩ <;> k_is))
  (case yRa|ySa=>(show PySem.W.findIn _ _ _=_;k_is))
  (case yTa=>(refine' K41.mhy ?a ?i ?l ?c ?k;(case a=>k_is);(case i=>k_is);(case l=>k_is);(case c=>k_is);(case k=>k_is)))
  (case yUa|yVa|yWa|yXa|yYa|yZa|y0a|y1a=>k_is)
  (case y2a=>(refine ⟨?_,?_,?_,?_,?_,?_,?_,?_⟩ <;> k_is))
  (case y3a|y4a|y5a|y6a=>(show PySem.W.findIn _ _ _=_;k_is))
  (case y7a|y8a|y9a=>(refine' K41.mhy ?a ?i ?l ?c ?k;(case a=>k_is);(case i=>k_is);(case l=>k_is);(case c=>k_is);(case k=>k_is)))
  (case yab=>(refine ⟨?_,?_,?_,?_,?_,?_,?_,?_⟩ <;> k_is))
  (case ybb|ycb|ydb=>(show PySem.W.findIn _ _ _=_;k_is))
  (case yeb|yfb|ygb=>(refine' K41.mhy ?a ?i ?l ?c ?k;(case a=>k_is);(case i=>k_is);(case l=>k_is);(case c=>k_is);(case k=>k_is)))
  (case yhb=>(refine ⟨?_,?_,?_,?_,?_,?_,?_,?_⟩ <;> k_is))
  (case yib|yjb=>(show PySem.W.findIn _ _ _=_;k_is))
  (case ykb|ylb|ymb=>(refine' K41.mhy ?a ?i ?l ?c ?k;(case a=>k_is);(case i=>k_is);(case l=>k_is);(case c=>k_is);(case k=>k_is)))
  (case ynb=>(refine ⟨?_,?_,?_,?_,?_,?_,?_,?_⟩ <;> k_is))
  (case yob|ypb=>(show PySem.W.findIn _ _ _=_;k_is))
  (case yqb|yrb|ysb=>(refine' K41.mhy ?a ?i ?l ?c ?k;(case a=>k_is);(case i=>k_is);(case l=>k_is);(case c=>k_is);(case k=>k_is)))
  (case ytb=>(refine ⟨?_,?_,?_,?_,?_,?_,?_,?_⟩ <;> k_is))
  (case yub|yvb|ywb=>(show PySem.W.findIn _ _ _=_;k_is))
  (case yxb|yyb|yzb|yAb=>(refine' K41.mhy ?a ?i ?l ?c ?k;(case a=>k_is);(case i=>k_is);(case l=>k_is);(case c=>k_is);(case k=>k_is)))
  (case yBb=>(refine ⟨?_,?_,?_,?_,?_,?_,?_,?_⟩ <;> k_is))
  (case yCb|yDb=>(show PySem.W.findIn _ _ _=_;k_is))
  (case yEb|yFb|yGb=>(refine' K41.mhy ?a ?i ?l ?c ?k;(case a=>k_is);(case i=>k_is);(case l=>k_is);(case c=>k_is);(case k=>k_is)))
  (case yHb=>(refine ⟨?_,?_,?_,?_,?_,?_,?_,?_⟩ <;> k_is))
  (case yIb|yJb|yKb|yLb=>(show PySem.W.findIn _ _ _=_;k_is))
  (case yMb=>(refine' K41.mhy ?a ?i ?l ?c ?k;(case a=>k_is);(case i=>k_is);(case l=>k_is);(case c=>k_is);(case k=>k_is)))
  (case yNb=>(refine ⟨?_,?_,?_,?_,?_,?_,?_,?_⟩ <;> k_is))
  (case yOb|yPb=>(show PySem.W.findIn _ _ _=_;k_is))
  (case yQb|yRb|ySb|yTb|yUb=>(refine' K41.mhy ?a ?i ?l ?c ?k;(case a=>k_is);(case i=>k_is);(case l=>k_is);(case c=>k_is);(case k=>k_is)))
  (case wgn|wtk|yVb|yWb|yXb|yYb|yZb|y0b|y1b=>k_is)
  (case y2b|y3b|y4b=>k_exc)
  (case y5b|y6b|y7b|y8b|y9b|yac=>k_is)
  (case ybc=>k_exc)
  (case ycc|ydc|yec|yfc|ygc|yhc=>k_is)
  (case yic=>k_exc)
  (case xgn|xtk|yjc|ykc|ylc|ymc|ync|yoc|ypc|yqc|yrc=>k_is)
  (case ysc|ytc|yuc|yvc|ywc|yxc|yyc|yzc|yAc|yBc|yCc|yDc|yEc|yFc|yGc|yHc|yIc|yJc|yKc|yLc|yMc|yNc|yOc|yPc|yQc|yRc|ySc|yTc=>kit_is)
