import PyProof.Rows.All
import Wide.All
import OpenK.AllK
import Wide.FinOn
import Lean
import PyProof.EqAt
import PyProof.EqKinds
import PyProof.TupleCall
import PyProof.NeKinds
import PyProof.SumWalkG
import PyProof.Rows.CallKwBuiltin
import PyProof.Rows.FStr
import PyProof.ListRange
import PyProof.ZipIter
import PyProof.CompFree
import KE.KIntText
import PyProof.StrWalks
import PyProof.Rows.StrMul
import PyProof.ConsumeWalk
import Wide.Txt
import PySem.Challenge.RW_beltshares_k26_alike_goes_on
open PySem.W (methodObj plainGet_of plainOver any_some emptyDict looks_findIn mroIn callWith_K methodCall_KW excIn mg_of readsIn findCls mg_none_of)
set_option Elab.async false
set_option linter.all false
set_option maxRecDepth 100000
set_option compiler.extract_closed false
set_option bootstrap.genMatcherCode false
set_option hygiene false
local macro_rules | `(tactic| walk_at "p")=>`(tactic| first|exact Or.inl rfl|exact Or.inr rfl|assumption)
local macro_rules | `(tactic| walk_at "q")=>`(tactic| first|exact L2.nobehind _ (by decide) (by decide)|rfl)
set_option hygiene true
open List (nodup_append getElem_mem of_mem_zip forIn_cons)
def aa:=@List.getElem?_eq_some_iff
def ad:=@List.getElem?_eq_getElem
def ae:=@List.length_map
def af:=@PySem.wpAny_bind
def ah:=@List.mem_of_getElem?
def ai:=@PySem.Heap.get?_push_of_some
def aj:=@PySem.F.plainAttrs_list
def ak:=@List.getElem?_map
def am:=@PySem.F.type_list_append
def ao:=@PySem.F.slot_list_append
def ap:=@List.getD_eq_getElem?_getD
def aq:=@Option.map_eq_some_iff
def ar:=@List.mem_singleton
def au:=@List.size_toArray
def av:=@Nat.le_refl
def aw:=@if_neg
def ax:=@PySem.Heap.lt_size
def ay:=@List.mem_cons
def az:=@List.mem_append
def aA:=@if_pos
def aB:=@Int.emod_lt_of_pos
def aC:=@Bool.false_ne_true
def aD:=@PySem.Heap.get?_push_size
def aE:=@List.getElem?_append_right
def aF:=@List.take_add_one
def aG:=@Int.emod_nonneg
def aH:=@List.mem_cons_of_mem
def aI:=@List.length_take
def aJ:=@List.getElem?_append_left
def aK:=@List.take_length
def aM:=@PySem.wpAny_pure
def aN:=@Nat.lt_of_lt_of_le
def aO:=@Int.toNat_natCast
def aP:=@Nat.ne_of_lt
def aQ:=@List.length_append
def aR:=@List.Perm.refl
def aS:=@Option.some.inj
def aT:=@List.mem_append_right
def aU:=@PyProof.Rows.callWith_type1
def aV:=@List.map_append
def aW:=@List.mem_map
def aX:=@Ne.symm
def aY:=@decide_eq_false
def aZ:=@List.mem_append_left
def a7:=@beq_eq_false_iff_ne
def a8:=@PySem.Heap.get?_update_other
def a9:=@PySem.wpAny_mono
def ba:=@List.getElem?_set_self
def bc:=@PySem.wpAny_field
def be:=@List.not_mem_nil
def bg:=@List.getElem?_set_ne
def bh:=@Nat.le_trans
def bj:=@List.length_replicate
def bn:=@List.getElem?_zipWith
def br:=@List.getElem?_eq_none
def bu:=@PySem.wpAny_Call_Name_kw
def bw:=@of_decide_eq_true
def bx:=@beq_iff_eq
def bz:=@List.getLastD_eq_getLast?
def bA:=@PySem.mem_of_lookup
def bB:=@PySem.Heap.size_push
def bD:=@List.getElem?_of_mem
def bE:=@Int.natAbs_natCast
def bF:=@List.Perm.append_left
def bH:=@List.length_cons
def bI:=@Int.ediv_nonneg
def bJ:=@PySem.wpAny_seqItems
def bK:=@PySem.Obj.data_mapFields
def bL:=@Nat.le_of_lt
def bM:=@PySem.Heap.get?_update_self
def bN:=@List.append_assoc
def bO:=@decide_eq_true
def bP:=@Option.bind_eq_some_iff
def bQ:=@List.length_eq_zero_iff
def bR:=@or_false
def bS:=@congrArg
def bT:=@List.length_set
def bU:=@PySem.wpAny_setField_rec
def bV:=@PySem.wpAny_passesOwn
def bW:=@PySem.W.mg_none_of
def bX:=@Nat.le_succ
def bY:=@Array.getElem?_eq_some_iff
def bZ:=@List.exists_cons_of_ne_nil
def b5:=@Option.getD_some
def b7:=@List.map_congr_left
def b8:=@PySem.F.type_list_extend
def b9:=@PySem.F.slot_list_extend
def cc:=@Nat.lt_irrefl
def cf:=@PySem.F.slot_tuple_iterator_next
def cg:=@List.mem_filter
def ci:=@Int.natCast_nonneg
def cj:=@Nat.zero_le
def ck:=@Nat.ne_of_gt
def cm:=@List.mem_range
def cq:=@List.Perm.append_right
def cr:=@Int.le_of_lt
def cu:=@Bool.and_false
def cv:=@List.lookup_cons
def cw:=@PySem.wpAny_callSpecial?_slot
def cx:=@Int.natAbs_dvd_natAbs
def cy:=@Bool.and_eq_true
def cz:=@List.take_of_length_le
def cA:=@PySem.W.mg_of
def cB:=@PySem.wpAny_truthy_bool
def cC:=@List.take_zero
def cD:=@List.perm_append_comm
def cE:=@List.length_singleton
def cF:=@List.append_nil
def cG:=@PySem.Obj.isFreed_of_fields
def cH:=@Int.toNat_of_nonneg
def cI:=@List.mem_cons_self
def cJ:=@List.pairwise_cons
def cK:=@List.getElem?_eq_none_iff
def cM:=@decide_eq_true_eq
def cN:=@PySem.codeAny_mono
def cO:=@List.length_zipWith
def cP:=@List.length_nil
def cQ:=@PySem.wpAny_setField
def cR:=@Nat.le_add_right
def cS:=@List.all_eq_true
def cT:=@Int.emod_eq_zero_of_dvd
def cU:=@List.length_drop
def cV:=@PySem.wpAny_newObj_type
def cW:=@List.nodup_cons
def cX:=@Bool.eq_iff_iff
def cY:=@PySem.wpAny_holding
def cZ:=@PySem.SeqAt.RcAt.lists_lengths
def c7:=@PySem.F.type_list_pop
def c8:=@PySem.F.slot_list_pop
def c9:=@PySem.wpAny_call_entry
def da:=@Int.emod_eq_emod_iff_emod_sub_eq_zero
def db:=@List.length_pos_iff
def dc:=@PySem.wpAny_ite_split
def de:=@PySem.wpAny_execs_nil
def dg:=@PySem.F.slot_zip_next
def dh:=@PySem.W.callWith_K
def di:=@Nat.eq_zero_or_pos
def dj:=@Bool.false_eq_true
def dl:=@List.ne_nil_of_length_pos
def dm:=@List.map_cons
def dq:=@List.length_reverse
def dr:=@PySem.wpAny_updateSeq_pair
def du:=@List.map_set
def dA:=@if_true
def dB:=@List.set_eq_of_length_le
def dC:=@Option.getD_none
def dD:=@Nat.lt_succ_self
def dE:=@PySem.wpAny_onRaise
def dF:=@PySem.SeqAt.EqAt.of_refs
def dG:=@PySem.W.methodCall_KW
def dH:=@List.ext_getElem?
def dI:=@PySem.wpAny_pyIter_list
def dJ:=@if_false
def dL:=@PySem.SeqAt.RcAt.tuples
def dM:=@Option.map_map
def dN:=@Nat.mod_lt
def dO:=@Int.mul_nonneg
def dP:=@Int.fdiv_eq_ediv_of_nonneg
def dQ:=@List.getElem?_reverse
def dR:=@List.mem_or_eq_of_mem_set
def dS:=@PySem.wpAny_execs_cons
def dU:=@PySem.SeqAt.RcAt.lists
def dW:=@Int.dvd_trans
def dX:=@Bool.and_true
def dY:=@PySem.wpAny_letGo
def dZ:=@PySem.sizeLine_eq
def d5:=@PySem.seqIndex_of
def d7:=@List.getElem?_replicate
def d8:=@Int.dvd_mul_of_dvd_left
def d9:=@List.map_map
def ed:=@PySem.W.cellsFrom_some
def ee:=@PyProof.noPylong_small
def ef:=@Nat.sub_self
def et:=@Nat.min_self
def eu:=@PySem.F.args_tuple_iterator_next_1
def ey:=@List.zipWith_append
def ez:=@List.flatMap_append
def eB:=@List.filterMap_cons
def eC:=@List.take_append_drop
def eD:=@PySem.F.entry_tuple_iterator_next
def eE:=@Array.getElem?_toList
def eF:=@PySem.wpAny_call
def eG:=@Int.one_dvd
def eH:=@Decidable.of_not_not
def eI:=@PySem.Calls.Name_function_global
def eJ:=@PySem.intBits_le_64
def eK:=@PySem.W.callWith_K0
def eM:=@List.replicate_succ
def eO:=@Array.length_toList
def eP:=@PySem.wpAny_standAt
def eQ:=@PySem.wpAny_comprehension_free
def eR:=@PySem.wpAny_attempt
def eT:=@List.take_succ
def eU:=@List.mem_filterMap
def eV:=@Array.append_assoc
namespace L2
open PySem PySem.Spec PyProof.Rows
abbrev Key:=Sum Int Str
def zeM:Key->Value->Bool
 | .inl k,v=>Value.isInt k v
 | .inr x,v=>Value.isStrOf x v
def zgC (w:World):Key->Int
 | .inl k=>hashInt k
 | .inr x=>hashStr w x
theorem qC:∀ {k:Key} {v:Value},zeM k v=true->(∃ i t,k=Sum.inl i/\v=Value.int i t)\/(∃ x t,k=Sum.inr x/\v=Value.str x t)
 | .inl i,v,h=>by
  obtain ⟨t,e⟩:=Value.isInt_shape (k:=i) (v:=v) h;exact .inl ⟨i,t,rfl,e⟩
 | .inr x,v,h=>by
  obtain ⟨t,e⟩:=Value.isStrOf_shape (x:=x) (v:=v) h;exact .inr ⟨x,t,rfl,e⟩
theorem zfx (a b:Int):decide ((Sum.inl a:Key)=Sum.inl b)=(a == b):=by
 by_cases e:a=b
 ·subst e;simp
 ·have h:¬ (Sum.inl a:Key)=Sum.inl b:=λ q=>e (Sum.inl.inj q);rw [aY h];exact (a7.mpr e).symm
theorem zfu (a b:Str):decide ((Sum.inr a:Key)=Sum.inr b)=decide (a=b):=by
 by_cases e:a=b
 ·subst e;simp
 ·have h:¬ (Sum.inr a:Key)=Sum.inr b:=λ q=>e (Sum.inr.inj q);rw [aY h,aY e]
theorem zfw (a:Int) (b:Str):decide ((Sum.inl a:Key)=Sum.inr b)=false:=aY (λ q=>nomatch q)
theorem zfv (a:Str) (b:Int):decide ((Sum.inr a:Key)=Sum.inl b)=false:=aY (λ q=>nomatch q)
def XR (prog:Program) (w:World):PySem.KeyKind prog w Key where
 is:=zeM
 hash:=zgC w
 inj:=λ v a b ha hb=>by
  rcases qC ha with ⟨i,t,rfl,rfl⟩|⟨x,t,rfl,rfl⟩
  ·rcases qC hb with ⟨j,u,rfl,e⟩|⟨y,u,rfl,e⟩
   ·injection e with e1 _;rw [e1]
   ·exact nomatch e
  ·rcases qC hb with ⟨j,u,rfl,e⟩|⟨y,u,rfl,e⟩
   ·exact nomatch e
   ·injection e with e1 _;rw [e1]
 byValue:=λ k v h=>by
  rcases qC h with ⟨i,t,rfl,rfl⟩|⟨x,t,rfl,rfl⟩ <;> rfl
 pyHash:=λ hv h=>by
  rcases qC hv with ⟨i,t,rfl,rfl⟩|⟨x,t,rfl,rfl⟩
  ·exact wpAny_pyHash_int h
  ·exact wpAny_pyHash_str h
 eqBool:=λ hu hv h=>by
  rcases qC hu with ⟨i,t,rfl,rfl⟩|⟨x,t,rfl,rfl⟩
  ·rcases qC hv with ⟨j,u,rfl,rfl⟩|⟨y,u,rfl,rfl⟩
   ·rw [zfx] at h;exact wpAny_eqBool_int h
   ·rw [zfw] at h;exact SeqAt.EqAt.int_str i t y u _ _ _ _ h
  ·rcases qC hv with ⟨j,u,rfl,rfl⟩|⟨y,u,rfl,rfl⟩
   ·rw [zfv] at h;exact SeqAt.EqAt.str_int x t j u _ _ _ _ h
   ·rw [zfu] at h;exact wpAny_eqBool_str h
 «strs»:=λ k x t v h=>by
  rcases qC h with ⟨i,u,rfl,e⟩|⟨y,u,rfl,e⟩
  ·exact nomatch e
  ·injection e with e1 _
   subst e1;cases v <;> rfl
end L2
namespace L2
open PySem PySem.Spec PyProof.Rows
inductive V where
 | non|bl (b:Bool)|int (i:Int)|str (x:Str)|byt (b:Array UInt8)|flt (b:UInt64)|ref (a:Addr)|ty (n:String)
 deriving DecidableEq
def RelV:V->Value->Prop
 | .non,u=>u=Value.none
 | .bl b,u=>u=Value.bool b
 | .int i,u=>∃ t,u=Value.int i t
 | .str x,u=>∃ t,u=Value.str x t
 | .byt b,u=>∃ t,u=Value.bytes b t
 | .flt b,u=>∃ t,u=Value.float b t
 | .ref a,u=>u=Value.ref a
 | .ty n,u=>u=Value.type n
abbrev Vals:List V->List Value->Prop:=Paired RelV
theorem Vals.length {xs:List V} {us:List Value} (r:Vals xs us):xs.length=us.length:=Paired.length r
theorem Vals.get:∀ {xs:List V} {us:List Value} {i:Nat} {x:V},Vals xs us->xs[i]?=some x->∃ u,us[i]?=some u/\RelV x u
 | _,_,_,_,.nil,e=>by simp at e
 | _,_,0,_,.cons r _,e=>by simp at e;subst e;exact ⟨_,rfl,r⟩
 | _,_,i + 1,x,.cons _ t,e=>by
  obtain ⟨u,h1,h2⟩:=Vals.get (i:=i) (x:=x) t (by simpa using e);exact ⟨u,by simpa using h1,h2⟩
theorem Vals.set {x:V} {u:Value} (r:RelV x u):∀ {xs:List V} {us:List Value} (i:Nat),Vals xs us->Vals (xs.set i x) (us.set i u)
 | _,_,_,.nil=>.nil
 | _,_,0,.cons _ t=>.cons r t
 | _,_,i + 1,.cons q t=>.cons q (Vals.set r i t)
theorem Vals.append:∀ {xs ys:List V} {us ws:List Value},Vals xs us->Vals ys ws->Vals (xs ++ ys) (us ++ ws)
 | _,_,_,_,.nil,s=>s
 | _,_,_,_,.cons r t,s=>.cons r (Vals.append t s)
theorem Vals.take:∀ {xs:List V} {us:List Value} (n:Nat),Vals xs us->Vals (xs.take n) (us.take n)
 | _,_,0,_=>.nil
 | _,_,_ + 1,.nil=>.nil
 | _,_,n + 1,.cons r t=>.cons r (Vals.take n t)
theorem Vals.drop:∀ {xs:List V} {us:List Value} (n:Nat),Vals xs us->Vals (xs.drop n) (us.drop n)
 | _,_,0,r=>r
 | _,_,_ + 1,.nil=>.nil
 | _,_,n + 1,.cons _ t=>Vals.drop n t
theorem Vals.none_of:∀ {xs:List V} {us:List Value} {i:Nat},Vals xs us->xs[i]?=none->us[i]?=none:=λ {xs us i} r e=>by
 have h1:=r.length;have h2:xs.length<=i:=cK.mp e;exact cK.mpr (by omega)
def RelO:Option V->Option Value->Prop
 | some v,some u=>RelV v u
 | none,none=>True
 | _,_=>False
def KV {κ:Type}:List (κ × V)->List (κ × Value)->Prop:=Paired λ (p:κ × V) (q:κ × Value)=>p.1=q.1/\RelV p.2 q.2
def kV:Key->V
 | .inl i=>.int i
 | .inr x=>.str x
inductive HO where
 | lst (xs:List V)
 | tup (xs:List V)
 | dK (kvs:List (Key × V))|dT (kvs:List (List Key × V))
 | set (S:Int->Bool) (n:Nat)
 | ins (C dx:Addr) (fs:List (Str × V))
 | own (x:Addr)
 | xd (fs:List (Str × V))
 | met (f x:Addr)
 | rng (lo hi:Int)
 | frz (o:Obj) (u:HO)
 | tbl (ps:Array Value)
 | ext (φ:Heap->Prop)
abbrev Hp:=Addr->Option HO
def upd (H:Hp) (a:Addr) (o:HO):Hp:=λ b=>if b=a then some o else H b
theorem upd_same {H:Hp} {a:Addr} {o:HO}:upd H a o a=some o:=by unfold upd;rw [aA rfl]
theorem upd_ne {H:Hp} {a b:Addr} {o:HO} (h:b≠a):upd H a o b=H b:=by unfold upd;rw [aw h]
theorem vL {H:Hp} {a:Addr} {o u:HO}:upd (upd H a o) a u=upd H a u:=by
 funext b;unfold upd;split <;> rfl
theorem ZT {H:Hp} {a b:Addr} {o u:HO} (h:H a=some o) (h':H b=some u) (d:o≠u):a≠b:=by
 intro e;subst e;rw [h] at h';exact d (aS h')
theorem ne_of_none {H:Hp} {a b:Addr} {o:HO} (h:H a=some o) (h':H b=none):a≠b:=by
 intro e;subst e;rw [h] at h';cases h'
section
variable (P:Program) (w:World)
def ObjOk (H:Hp) (h:Heap) (a:Addr):HO->Prop
 | .lst xs=>xs.length<=sizeLine/\∃ (its:List Value) (n:Nat),Vals xs its/\h.get? a=some { cls:=.type "list",data:=.seq its.toArray n }
 | .tup xs=>xs.length<=sizeLine/\∃ its:List Value,Vals xs its/\IsTup h a its.toArray
 | .dK kvs=>kvs.length<=sizeLine/\(a == sysModules)=false/\∃ vs,KV kvs vs/\h.DictOf (XR P w) a vs
 | .dT kvs=>kvs.length<=sizeLine/\(a == sysModules)=false/\∃ xs:List (List Key × Addr × Value),
   Paired (λ (p:List Key × V) (q:List Key × Addr × Value)=>p.1=q.1/\H q.2.1=some (.tup (p.1.map kV))/\RelV p.2 q.2.2) kvs xs /\
   ∃ o es ep,h.get? a=some o/\o.ExactDict/\o.data=.dict es ep/\es.toList=xs.map (entryOfKey (tupleKind (XR P w)))/\(xs.map (·.1)).Nodup
 | .set S n=>h.SetOf (intKind P w) a S n
 | .ins C dx fs=>H dx=some (.own a)/\fs.length<=1000/\dx≠a/\h.get? a=some (PySem.W.instObj C dx) /\
   ∃ mA,h.Ns1 dx mA/\(∀ f,RelO (fs.lookup f) (mA f))/\PySem.Within mA (fs.map (·.1))
 | .own _=>∃ o,h.get? a=some o
 | .xd fs=>∃ mA,h.Ns1 a mA/\∀ f,RelO (fs.lookup f) (mA f)
 | .rng lo hi=>∃ t u v,h.get? a=some { cls:=.type "range",data:=.fields #[.int lo t,.int hi u,.int 1 v] }
 | .frz o u=>h.get? a=some o/\ObjOk H h a u
 | .tbl ps=>h.get? a=some { cls:=.none,data:=.fields ps }
 | .met f x=>h.get? a=some (methodObj (.ref f) (.ref x))
 | .ext φ=>φ h/\(∃ o,h.get? a=some o)/\∀ h1 h2:Heap,φ h1->(∀ o,h1.get? a=some o->h2.get? a=some o)->φ h2
def HOk (H:Hp) (h:Heap):Prop:=∀ a o,H a=some o->ObjOk P w H h a o
end
section
variable {P:Program} {w:World} {H H':Hp} {h h':Heap} {a:Addr} {o:HO}
theorem ObjOk.lt (x:ObjOk P w H h a o):a < h.objs.size:=by
 cases o with
 | lst xs=>obtain ⟨_,_,_,_,e⟩:=x;exact ax e
 | tup xs=>obtain ⟨_,_,_,p⟩:=x;exact p.lt
 | dK kvs=>obtain ⟨_,_,_,_,o,_,_,e,_⟩:=x;exact ax e
 | dT kvs=>obtain ⟨_,_,_,_,o,_,_,e,_⟩:=x;exact ax e
 | set S n=>obtain ⟨o,_,_,_,e,_⟩:=x;exact ax e
 | ins C dx fs=>obtain ⟨_,_,_,e,_⟩:=x;exact ax e
 | own y=>obtain ⟨_,e⟩:=x;exact ax e
 | xd fs=>obtain ⟨_,⟨_,_,_,e,_⟩,_⟩:=x;exact ax e
 | rng lo hi=>obtain ⟨_,_,_,e⟩:=x;exact ax e
 | frz ob u=>obtain ⟨e,_⟩:=x;exact ax e
 | tbl ps=>exact ax (show h.get? a=some _ from x)
 | met f y=>exact ax (show h.get? a=some _ from x)
 | ext φ=>obtain ⟨_,⟨_,e⟩,_⟩:=x;exact ax e
theorem Paired.mapP {α β:Type} {F G:α->β->Prop}:∀ {l₁:List α} {l₂:List β},Paired F l₁ l₂->(∀ a b,F a b->G a b)->Paired G l₁ l₂
 | _,_,.nil,_=>.nil
 | _,_,.cons r t,f=>.cons (f _ _ r) (Paired.mapP t f)
theorem ObjOk.stay (x:ObjOk P w H h a o) (k:∀ b u,(b=a\/H b=some (.own a))->h.get? b=some u->h'.get? b=some u)
  (ho:∀ b,H b=some (.own a)->H' b=some (.own a)) (ht:∀ b xs,H b=some (.tup xs)->H' b=some (.tup xs)):ObjOk P w H' h' a o:=by
 induction o with
 | lst xs=>obtain ⟨z,its,n,r,e⟩:=x;exact ⟨z,its,n,r,k _ _ (.inl rfl) e⟩
 | tup xs=>obtain ⟨z,its,r,ob,e,c⟩:=x;exact ⟨z,its,r,ob,k _ _ (.inl rfl) e,c⟩
 | dK kvs=>obtain ⟨z,y,vs,r,ob,es,ep,e,c⟩:=x;exact ⟨z,y,vs,r,ob,es,ep,k _ _ (.inl rfl) e,c⟩
 | dT kvs =>
  obtain ⟨z,y,xs,r,ob,es,ep,e,c⟩:=x;exact ⟨z,y,xs,Paired.mapP r λ p q z=>⟨z.1,ht _ _ z.2.1,z.2.2⟩,ob,es,ep,k _ _ (.inl rfl) e,c⟩
 | set S n=>obtain ⟨ob,es,ep,t,e,c⟩:=x;exact ⟨ob,es,ep,t,k _ _ (.inl rfl) e,c⟩
 | ins C dx fs =>
  obtain ⟨d,z,ne,e,mA,⟨od,es,ep,e2,c⟩,r⟩:=x;exact ⟨ho _ d,z,ne,k _ _ (.inl rfl) e,mA,⟨od,es,ep,k _ _ (.inr d) e2,c⟩,r⟩
 | own y=>obtain ⟨ob,e⟩:=x;exact ⟨ob,k _ _ (.inl rfl) e⟩
 | xd fs=>obtain ⟨mA,⟨od,es,ep,e,c⟩,r⟩:=x;exact ⟨mA,⟨od,es,ep,k _ _ (.inl rfl) e,c⟩,r⟩
 | rng lo hi=>obtain ⟨t,u,v,e⟩:=x;exact ⟨t,u,v,k _ _ (.inl rfl) e⟩
 | frz ob u ih=>obtain ⟨e,q⟩:=x;exact ⟨k _ _ (.inl rfl) e,ih q⟩
 | tbl ps =>
  have e:h.get? a=some { cls:=.none,data:=.fields ps }:=x;show h'.get? a=some { cls:=.none,data:=.fields ps }
  exact k a _ (.inl rfl) e
 | met f y =>
  have e:h.get? a=some (methodObj (.ref f) (.ref y)):=x;show h'.get? a=some (methodObj (.ref f) (.ref y))
  exact k a _ (.inl rfl) e
 | ext φ=>obtain ⟨p,⟨o,e⟩,st⟩:=x;exact ⟨st _ _ p λ o q=>k _ _ (.inl rfl) q,⟨o,k _ _ (.inl rfl) e⟩,st⟩
theorem HOk.lt (x:HOk P w H h) (e:H a=some o):a < h.objs.size:=(x a o e).lt
theorem HOk.fresh (x:HOk P w H h) (e:h.objs.size<=a):H a=none:=by
 cases q:H a with
 | none=>rfl
 | some u=>exact absurd (aN (x.lt q) e) (cc _)
theorem HOk.kept (x:HOk P w H h) (k:∀ b u,h.get? b=some u->h'.get? b=some u):HOk P w H h':=λ a o e =>
 (x a o e).stay (λ b u _ q=>k b u q) (λ _ q=>q) λ _ _ q=>q
theorem HOk.laid (x:HOk P w H h) (k:∀ b u,h.get? b=some u->h'.get? b=some u) (hp:h.objs.size<=a) (new:ObjOk P w (upd H a o) h' a o):HOk P w (upd H a o) h':=λ b u e=>by
 have hn:=x.fresh hp;by_cases hb:b=a
 ·subst hb;rw [upd_same] at e;cases e;exact new
 ·rw [upd_ne hb] at e;exact (x b u e).stay (λ c v _ q=>k c v q) (λ c q=>by rw [upd_ne (ne_of_none q hn)];exact q) λ c xs q=>by rw [upd_ne (ne_of_none q hn)];exact q
end
def Rd (H:Hp) (a:Addr) (u:HO):Prop:=H a=some u\/∃ o,H a=some (.frz o u)
theorem Rd.of {H:Hp} {a:Addr} {u:HO} (h:H a=some u):Rd H a u:=.inl h
theorem Rd.ok {P:Program} {w:World} {H:Hp} {h:Heap} {a:Addr} {u:HO} (r:Rd H a u) (x:HOk P w H h):ObjOk P w H h a u:=by
 rcases r with r|⟨o,r⟩
 ·exact x a u r
 ·obtain ⟨_,q⟩:=x a _ r;exact q
def Mut:Option HO->Prop
 | some (.lst _)=>True
 | some (.dK _)=>True
 | some (.dT _)=>True
 | some (.set _ _)=>True
 | some (.ins _ _ _)=>True
 | some (.ext _)=>True
 | _=>False
section
variable {P:Program} {w:World} {H:Hp} {h h':Heap} {x e:Addr} {o':HO}
theorem HOk.write (ok:HOk P w H h) (mu:Mut (H x)) (he:e=x\/H e=some (.own x)) (k:∀ b u,b≠e->h.get? b=some u->h'.get? b=some u) (heo:∃ u,h'.get? e=some u)
  (new:ObjOk P w (upd H x o') h' x o'):HOk P w (upd H x o') h':=λ b u q=>by
 have nown:∀ c y,H c=some (.own y)->c≠x:=λ c y r z=>by subst z;rw [r] at mu;exact mu
 have ntup:∀ c xs,H c=some (.tup xs)->c≠x:=λ c xs r z=>by subst z;rw [r] at mu;exact mu
 by_cases hb:b=x
 ·subst hb;rw [upd_same] at q;cases q;exact new
 ·rw [upd_ne hb] at q;by_cases hbe:b=e
  ·have q':H b=some (.own x):=by
    rcases he with z|z
    ·exact absurd (hbe.trans z) hb
    ·rw [hbe];exact z
   rw [q] at q';cases q';obtain ⟨v,hv⟩:=heo;exact ⟨v,by rw [hbe];exact hv⟩
  ·refine (ok b u q).stay (λ c v hc r=>k c v ?_ r) (λ c r=>by rw [upd_ne (nown c b r)];exact r) λ c xs r=>by rw [upd_ne (ntup c xs r)];exact r
   rcases hc with rfl|hc
   ·exact hbe
   ·rintro rfl;rcases he with z|z
    ·exact nown c b hc z
    ·rw [hc] at z;cases z;exact hb rfl
end
structure Un (fs ex:List Addr) (H H':Hp) (h h':Heap):Prop where
 keep:∀ b o,h.get? b=some o->H b=none->b ∉ fs->b ∉ ex->h'.get? b=some o
 slot:∀ b o,h.get? b=some o->H b=none->b∈fs->b ∉ ex->∃ sl,h'.get? b=some { o with slots:=sl }
 free:∀ b o,h.get? b=some o->H b=none->b ∉ ex->H' b=none
 there:∀ b o,h.get? b=some o->b ∉ ex->∃ o',h'.get? b=some o'
 tups:∀ b xs,H b=some (.tup xs)->H' b=some (.tup xs)
 frzs:∀ b o u,H b=some (.frz o u)->H' b=some (.frz o u)
 tbls:∀ b ps,H b=some (.tbl ps)->∃ more,H' b=some (.tbl (ps ++ more))
section
variable {fs fs' ex ex':List Addr} {H H1 H2:Hp} {h h1 h2 h':Heap} {a x e:Addr} {o:HO}
theorem Un.any (u:Un fs ex H H1 h h1) {b:Addr} {ob:Obj} (q:h.get? b=some ob) (n:H b=none) (hx:b ∉ ex):∃ sl,h1.get? b=some { ob with slots:=sl }:=by
 by_cases hb:b∈fs
 ·exact u.slot b ob q n hb hx
 ·exact ⟨ob.slots,u.keep b ob q n hb hx⟩
theorem Un.trans (a:Un fs ex H H1 h h1) (b:Un fs ex H1 H2 h1 h2):Un fs ex H H2 h h2 where
 keep:=λ c ob q n hc hx=>b.keep c ob (a.keep c ob q n hc hx) (a.free c ob q n hx) hc hx
 slot:=λ c ob q n hc hx=>by
  obtain ⟨sl,e1⟩:=a.slot c ob q n hc hx;obtain ⟨sl',e2⟩:=b.slot c _ e1 (a.free c ob q n hx) hc hx;exact ⟨sl',e2⟩
 free:=λ c ob q n hx=>by
  obtain ⟨o',e1⟩:=a.there c ob q hx;exact b.free c o' e1 (a.free c ob q n hx) hx
 there:=λ c ob q hx=>by
  obtain ⟨o',e1⟩:=a.there c ob q hx;exact b.there c o' e1 hx
 tups:=λ c xs q=>b.tups c xs (a.tups c xs q)
 frzs:=λ c ob xs q=>b.frzs c ob xs (a.frzs c ob xs q)
 tbls:=λ c ps q=>by
  obtain ⟨m1,e1⟩:=a.tbls c ps q;obtain ⟨m2,e2⟩:=b.tbls c _ e1;exact ⟨m1 ++ m2,by rw [e2,eV]⟩
theorem Un.kept (k:∀ b u,h.get? b=some u->h'.get? b=some u):Un fs ex H H h h' :=
 ⟨λ b ob q _ _ _=>k b ob q,λ b ob q _ _ _=>⟨ob.slots,k b ob q⟩,λ _ _ _ n _=>n,λ b ob q _=>⟨ob,k b ob q⟩,λ _ _ q=>q,λ _ _ _ q=>q,λ _ ps q=>⟨#[],by rw [q];simp⟩⟩
theorem Un.refl:Un fs ex H H h h:=Un.kept λ _ _ q=>q
theorem Un.laid (k:∀ b u,h.get? b=some u->h'.get? b=some u) (hp:h.objs.size<=a) (hn:H a=none):Un fs ex H (upd H a o) h h' where
 keep:=λ b u q _ _ _=>k b u q
 slot:=λ b u q _ _ _=>⟨u.slots,k b u q⟩
 free:=λ b u q n _=>by rw [upd_ne (aP (aN (ax q) hp))];exact n
 there:=λ b u q _=>⟨u,k b u q⟩
 tups:=λ b xs q=>by rw [upd_ne (ne_of_none q hn)];exact q
 frzs:=λ b u xs q=>by rw [upd_ne (ne_of_none q hn)];exact q
 tbls:=λ b ps q=>⟨#[],by rw [upd_ne (ne_of_none q hn),q];simp⟩
theorem Un.write (mu:Mut (H x)) (he:e=x\/H e=some (.own x)) (k:∀ b u,b≠e->h.get? b=some u->h'.get? b=some u) (heo:∃ u,h'.get? e=some u):Un fs ex H (upd H x o) h h':=by
 have hx:∀ b,H b=none->b≠x:=λ b n z=>by subst z;rw [n] at mu;exact mu
 have hb:∀ b,H b=none->b≠e:=λ b n z=>by
  subst z;rcases he with r|r
  ·exact hx b n r
  ·rw [n] at r;cases r
 have hm:∀ b u,H b=some u->¬ Mut (some u)->b≠x:=λ b u q nm z=>by subst z;rw [q] at mu;exact nm mu
 refine ⟨λ b u q n _ _=>k b u (hb b n) q,λ b u q n _ _=>⟨u.slots,k b u (hb b n) q⟩,λ b u q n _=>by rw [upd_ne (hx b n)];exact n,λ b u q _=>?_,
  λ b xs q=>by rw [upd_ne (hm b _ q λ z=>z)];exact q,λ b u xs q=>by rw [upd_ne (hm b _ q λ z=>z)];exact q,λ b ps q=>⟨#[],by rw [upd_ne (hm b _ q λ z=>z),q];simp⟩⟩
 by_cases hbe:b=e
 ·subst hbe;exact heo
 ·exact ⟨u,k b u hbe q⟩
theorem Un.mono (u:Un fs ex H H1 h h1) (hs:∀ b∈fs,b∈fs') (hx:∀ b∈ex,b∈ex'):Un fs' ex' H H1 h h1 :=
 ⟨λ b ob q n hb he=>u.keep b ob q n (λ z=>hb (hs b z)) λ z=>he (hx b z),λ _ _ q n _ he=>u.any q n λ z=>he (hx _ z),λ b ob q n he=>u.free b ob q n λ z=>he (hx b z),λ b ob q he=>u.there b ob q λ z=>he (hx b z),u.tups,u.frzs,u.tbls⟩
end
def trk (h:Heap) (H:Hp):List Addr:=(List.range h.objs.size).filter λ a=>(H a).isSome
def XX (h:Heap) (H:Hp):Heap:=PySem.W.hideAll h (trk h H)
theorem zb0 (h:Heap) (H:Hp):(XX h H).objs.size=h.objs.size:=PySem.W.hideAll_size _ _
theorem zdp {h:Heap} {H:Hp} {b:Addr} {o:Obj} (e:h.get? b=some o) (n:H b=none):(XX h H).get? b=some o :=
 PySem.W.hideAll_get _ e λ hm=>by
  have q:(H b).isSome=true:=(cg.mp hm).2;rw [n] at q;simp at q
theorem zeg {h:Heap} {H:Hp} {b:Addr} {o:Obj} (e:(XX h H).get? b=some o):h.get? b=some o/\H b=none:=by
 have e':h.get? b=some o:=PySem.W.of_hideAll (trk h H) e;refine ⟨e',?_⟩;cases q:H b with
 | none=>rfl
 | some x =>
  have hm:b∈trk h H:=cg.mpr ⟨cm.mpr (ax e'),by simp [q]⟩;have z:(XX h H).get? b=none:=PySem.W.hideAll_none (trk h H) hm;rw [z] at e;cases e
def zeB (g h:Heap) (L:Addr):List (Addr × Obj):=(List.range h.objs.size).filterMap λ a=>if a=L\/(g.get? a).isSome=true then none else (h.get? a).map λ o=>(a,o)
def rest (g h:Heap) (L d:Addr):List (Addr × Obj):=(zeB g h L).filter λ p=>decide (p.1≠d)
end L2
namespace L2
open PySem PySem.Spec PyProof.Rows
structure Mod (K:PySem.W.Frag) (mg:Str->Option Value) (base:Heap):Prop where
 kin:K.In base
 glob:base.Ns mainGlobals mg
 blt:∃ mb,base.Ns builtinsNs mb/\∀ x:Str,x≠"__name__"->mb x=bootBuiltins x
 nolimit:base.NoLimit
structure Cx where
 prog:Program
 w:World
 K:PySem.W.Frag
 mg:Str->Option Value
 base:Heap
 A:Around
 N:List Str
 s₀:Shared
 H₀:Hp
 env:Env
 outer:List Env
 stack:List Env
 ex:List Addr
 fn:Str->Bool
 calm:Bool
 pn:List (Addr × Obj)
 xe:Value->Shared->Prop
def frs (l:List Env):List Addr:=l.filterMap (·.frame)
abbrev Cx.fs (X:Cx):List Addr:=frs X.outer
def Vis (sc:Scope) (x:Str):Prop:=sc.names.lookup x=some .local\/sc.names.lookup x=some .cell\/sc.names.lookup x=some .free
def Loc (sc:Scope) (x:Str):Prop:=sc.names.lookup x=some .local\/sc.names.lookup x=some .cell
def zgF (env:Env) (h:Heap) (m:Str->Option Value) (x:Str) (u:Value):Prop :=
 (env.kindOf x=some .local/\m x=some u)\/((env.kindOf x=some .cell\/env.kindOf x=some .free)/\∃ c,env.cells.lookup x=some c/\h.IsCell c (some u))
structure Cx.Ok (X:Cx):Prop where
 mod:Mod X.K X.mg X.base
 kind:X.env.scope.kind=.function
 glob:X.env.globals=mainGlobals
 blt:X.env.builtins=builtinsNs
 above:X.s₀.heap.objs.size<=X.env.locals
 inj:∀ x y c,X.env.cells.lookup x=some c->X.env.cells.lookup y=some c->x=y
 has:∀ x,(X.env.kindOf x=some .cell\/X.env.kindOf x=some .free)->∃ c,X.env.cells.lookup x=some c
 cab:∀ x c,X.fn x=true->X.env.cells.lookup x=some c->X.s₀.heap.objs.size<=c
 hd:X.calm=true->X.A.handled=none
 frames:X.A.frames=some X.stack
 stk:X.stack=X.outer\/(X.stack=X.env :: X.outer/\X.env.frame=some X.env.locals)
 exf:∀ b∈X.ex,b≠X.env.locals/\∀ x c,X.env.cells.lookup x=some c->c≠b
 bs:∀ b o,X.base.get? b=some o->X.s₀.heap.get? b=some o/\X.H₀ b=none
 bsz:X.base.objs.size<=X.s₀.heap.objs.size
 noex:∀ b o,X.base.get? b=some o->b ∉ X.ex
 exfs:∀ b∈X.ex,b ∉ X.fs
 funs:X.s₀.heap.FunFrames X.base X.outer
 frf:∀ b∈X.fs,X.H₀ b=none
structure Inv (X:Cx) (pins:List (Addr × Obj)) (σ:List (Option V)) (H:Hp) (s:Shared):Prop where
 ok:X.Ok
 os:s.os=X.s₀.os
 bare:AllBare s.gens
 base:Un X.fs X.ex X.H₀ H X.s₀.heap s.heap
 loc:∃ m,s.heap.Ns X.env.locals m/\∀ (i:Nat) (x:Str) (v:V),X.N[i]?=some x->σ[i]?=some (some v)->Vis X.env.scope x->∃ u,RelV v u/\zgF X.env s.heap m x u
 cell:∀ x c,X.env.cells.lookup x=some c->∃ v,s.heap.IsCell c v
 free:H X.env.locals=none
 freeC:∀ x c,X.env.cells.lookup x=some c->H c=none
 pin:∀ p∈X.pn ++ pins,s.heap.get? p.1=some p.2/\H p.1=none/\p.1≠X.env.locals/\p.1 ∉ X.fs/\∀ v,p.2.data≠.cell v
 hok:HOk X.prog X.w H s.heap
 len:σ.length=X.N.length
section
variable {X:Cx} {pins:List (Addr × Obj)} {σ:List (Option V)} {H H':Hp} {s:Shared} {h':Heap}
theorem Cx.Ok.nofr (ok:X.Ok) {b:Addr} {o:Obj} (e:X.base.get? b=some o):b ∉ X.fs:=λ hb=>by
 have:=(ok.funs.mem hb).1;rw [e] at this;cases this
theorem Inv.bs (I:Inv X pins σ H s):∀ b o,X.base.get? b=some o->s.heap.get? b=some o/\H b=none:=λ b o e =>
 ⟨I.base.keep b o (I.ok.bs b o e).1 (I.ok.bs b o e).2 (I.ok.nofr e) (I.ok.noex b o e),I.base.free b o (I.ok.bs b o e).1 (I.ok.bs b o e).2 (I.ok.noex b o e)⟩
theorem Inv.bk (I:Inv X pins σ H s):∀ b o,X.base.get? b=some o->s.heap.get? b=some o:=λ b o e=>(I.bs b o e).1
theorem Inv.mod (I:Inv X pins σ H s):Mod X.K X.mg X.base:=I.ok.mod
theorem Inv.kIn (I:Inv X pins σ H s):X.K.In s.heap:=I.ok.mod.kin.keeps I.bk
theorem Inv.nolimit (I:Inv X pins σ H s):s.heap.NoLimit:=I.ok.mod.nolimit.keeps I.bk
theorem Inv.fr (I:Inv X pins σ H s):∃ m,Fr X.base X.env.locals s.heap m :=
 let ⟨m,hn,_⟩:=I.loc
 ⟨m,hn,I.bk,bh I.ok.bsz I.ok.above⟩
theorem Inv.lt (I:Inv X pins σ H s):X.env.locals < s.heap.objs.size:=by
 obtain ⟨_,hn,_⟩:=I.loc;exact hn.lt
theorem Inv.sz (I:Inv X pins σ H s):X.s₀.heap.objs.size<=s.heap.objs.size:=bh I.ok.above (bL I.lt)
theorem Inv.nofs (I:Inv X pins σ H s) {a:Addr} (h:s.heap.objs.size<=a):a ∉ X.fs:=λ hb=>by
 obtain ⟨_,o,ho,_⟩:=I.ok.funs.mem hb;exact absurd (aN (ax ho) (bh I.sz h)) (cc _)
theorem Inv.cne (I:Inv X pins σ H s):∀ x c,X.env.cells.lookup x=some c->c≠X.env.locals:=λ x c e z=>by
 obtain ⟨v,o,ho,hd⟩:=I.cell x c e;obtain ⟨m,⟨o',es,ep,ho',hd',_⟩,_⟩:=I.loc;rw [z,ho'] at ho;cases ho;rw [hd'] at hd;cases hd
theorem Inv.funs (I:Inv X pins σ H s):s.heap.FunFrames X.base X.outer:=by
 have all:∀ (l:List Env),(∀ b∈frs l,b∈X.fs)->X.s₀.heap.FunFrames X.base l->s.heap.FunFrames X.base l:=by
  intro l
  induction l with
  | nil=>intro _ _;trivial
  | cons env r ih =>
   intro hs hl;obtain ⟨hk,⟨L,o,hf,hn,ho,hd⟩,hr⟩:=hl;have hL:L∈X.fs:=hs L (by unfold frs;rw [eB,hf];exact cI);obtain ⟨sl,e⟩:=I.base.slot L o ho (I.ok.frf L hL) hL λ z=>I.ok.exfs L z hL;exact ⟨hk,⟨L,_,hf,hn,e,hd⟩,ih (λ b hb=>hs b (by unfold frs;rw [eB,hf];exact aH _ hb)) hr⟩
 exact all X.outer (λ _ hb=>hb) I.ok.funs
theorem Inv.stack (I:Inv X pins σ H s):s.heap.FunFrames X.base X.stack:=by
 rcases I.ok.stk with e|⟨e,hf⟩
 ·rw [e];exact I.funs
 ·rw [e];obtain ⟨m,hn,_⟩:=I.loc;refine .cons (by rw [I.ok.kind];decide) hf hn ?_ I.funs;exact Heap.get?_none_of_le (bh I.ok.bsz I.ok.above)
theorem Inv.stkSub (I:Inv X pins σ H s):∀ b∈frs X.stack,b∈X.env.locals :: X.fs:=λ b hb=>by
 rcases I.ok.stk with e|⟨e,hf⟩
 ·rw [e] at hb;exact aH _ hb
 ·rw [e] at hb;unfold frs at hb;rw [eB,hf] at hb;exact hb
theorem Inv.stkFree (I:Inv X pins σ H s):∀ b∈frs X.stack,H b=none:=λ b hb=>by
 rcases ay.mp (I.stkSub b hb) with e|hb
 ·rw [e];exact I.free
 ·obtain ⟨_,o,ho,_⟩:=I.ok.funs.mem hb;exact I.base.free b o ho (I.ok.frf b hb) λ z=>I.ok.exfs b z hb
theorem Inv.step {g':Array GenState} {t':Nat} {d':Drawn} {ch:List Addr} (I:Inv X pins σ H s)
  (hch:∀ b∈ch,(b∈X.ex\/X.s₀.heap.objs.size<=b)/\b≠X.env.locals/\(∀ x c,X.env.cells.lookup x=some c->c≠b)/\∀ p∈X.pn ++ pins,p.1≠b)
  (keep:∀ b o,b≠X.env.locals->b ∉ X.fs->b ∉ ch->s.heap.get? b=some o->H b=none->h'.get? b=some o)
  (slot:∀ b o,b≠X.env.locals->b∈X.fs->b ∉ ch->s.heap.get? b=some o->H b=none->∃ sl,h'.get? b=some { o with slots:=sl }) (free:∀ b o,b ∉ ch->s.heap.get? b=some o->H b=none->H' b=none)
  (there:∀ b o,b ∉ ch->s.heap.get? b=some o->∃ o',h'.get? b=some o')
  (tups:∀ b xs,H b=some (.tup xs)->H' b=some (.tup xs)) (frzs:∀ b o u,H b=some (.frz o u)->H' b=some (.frz o u)) (tbls:∀ b ps,H b=some (.tbl ps)->∃ more,H' b=some (.tbl (ps ++ more)))
  (ns:∀ m,s.heap.Ns X.env.locals m->h'.Ns X.env.locals m) (hok:HOk X.prog X.w H' h') (hg:AllBare g') :
  Inv X pins σ H' { s with heap:=h',gens:=g',drawn:=d',toks:=t' }:=by
 have neL:∀ b o,X.s₀.heap.get? b=some o->b≠X.env.locals:=λ b o e=>aP (aN (ax e) I.ok.above);have neC:∀ b o,X.s₀.heap.get? b=some o->b ∉ X.ex->b ∉ ch:=λ b o e hx hb=>by
  rcases (hch b hb).1 with z|z
  ·exact hx z
  ·exact absurd (aN (ax e) z) (cc _)
 have cellK:∀ x c,X.env.cells.lookup x=some c->∀ v,s.heap.IsCell c v->h'.IsCell c v:=λ x c e v ⟨o,ho,hd⟩=>by
  have nch:c ∉ ch:=λ z=>(hch c z).2.2.1 x c e rfl;by_cases hc:c∈X.fs
  ·obtain ⟨sl,q⟩:=slot c o (I.cne x c e) hc nch ho (I.freeC x c e);exact ⟨_,q,hd⟩
  ·exact ⟨o,keep c o (I.cne x c e) hc nch ho (I.freeC x c e),hd⟩
 refine ⟨I.ok,I.os,hg,⟨λ b o e n hb hx=>?_,λ b o e n hb hx=>?_,λ b o e n hx=>?_,λ b o e hx=>?_,λ b xs e=>tups b xs (I.base.tups b xs e),λ b o xs e=>frzs b o xs (I.base.frzs b o xs e),λ b ps e=>?_⟩,?_,λ x c e=>?_,?_,λ x c e=>?_,λ p hp=>?_,hok,I.len⟩
 ·exact keep b o (neL b o e) hb (neC b o e hx) (I.base.keep b o e n hb hx) (I.base.free b o e n hx)
 ·obtain ⟨sl,e1⟩:=I.base.slot b o e n hb hx;obtain ⟨sl',e2⟩:=slot b _ (neL b o e) hb (neC b o e hx) e1 (I.base.free b o e n hx);exact ⟨sl',e2⟩
 ·obtain ⟨o',e1⟩:=I.base.there b o e hx;exact free b o' (neC b o e hx) e1 (I.base.free b o e n hx)
 ·obtain ⟨o',e1⟩:=I.base.there b o e hx;exact there b o' (neC b o e hx) e1
 ·obtain ⟨m1,e1⟩:=I.base.tbls b ps e;obtain ⟨m2,e2⟩:=tbls b _ e1;exact ⟨m1 ++ m2,by rw [e2,eV]⟩
 ·obtain ⟨m,hn,hl⟩:=I.loc;refine ⟨m,ns m hn,λ i x v e1 e2 e3=>?_⟩;obtain ⟨u,r,l⟩:=hl i x v e1 e2 e3;refine ⟨u,r,?_⟩;rcases l with l|⟨k,c,e,z⟩
  ·exact .inl l
  ·exact .inr ⟨k,c,e,cellK x c e _ z⟩
 ·obtain ⟨v,z⟩:=I.cell x c e;exact ⟨v,cellK x c e v z⟩
 ·obtain ⟨m,⟨o,_,_,ho,_⟩,_⟩:=I.loc;exact free _ o (λ z=>(hch _ z).2.1 rfl) ho I.free
 ·obtain ⟨v,o,ho,hd⟩:=I.cell x c e;exact free c o (λ z=>(hch c z).2.2.1 x c e rfl) ho (I.freeC x c e)
 ·obtain ⟨e,n,ne,nf,d⟩:=I.pin p hp;have nch:p.1 ∉ ch:=λ z=>(hch p.1 z).2.2.2 p hp rfl;exact ⟨keep p.1 p.2 ne nf nch e n,free p.1 p.2 nch e n,ne,nf,d⟩
theorem Inv.un {t':Nat} (I:Inv X pins σ H s) (u:Un X.fs [] H H' s.heap h') (hok:HOk X.prog X.w H' h'):Inv X pins σ H' { s with heap:=h',toks:=t' }:=by
 obtain ⟨m,⟨o,es,ep,ho,r⟩,_⟩:=id I.loc;obtain ⟨sl,hL⟩:=u.any ho I.free (by simp);exact I.step (g':=s.gens) (d':=s.drawn) (ch:=[]) (λ _ z=>nomatch z) (λ b o _ hb _ e n=>u.keep b o e n hb (by simp)) (λ b o _ hb _ e n=>u.slot b o e n hb (by simp)) (λ b o _ e n=>u.free b o e n (by simp)) (λ b o _ e=>u.there b o e (by simp)) u.tups u.frzs u.tbls (λ m' hm=>by
  obtain ⟨o',es',ep',ho',r'⟩:=hm;rw [ho] at ho';cases ho';exact ⟨_,es',ep',hL,r'⟩) hok I.bare
theorem Inv.call {g':Array GenState} {t':Nat} {d':Drawn} {ch:List Addr} (I:Inv X pins σ H s) (u:Un (frs X.stack) ch H H' s.heap h') (hok:HOk X.prog X.w H' h') (hg:AllBare g')
  (hch:∀ b∈ch,(b∈X.ex\/X.s₀.heap.objs.size<=b)/\b≠X.env.locals/\(∀ x c,X.env.cells.lookup x=some c->c≠b)/\∀ p∈X.pn ++ pins,p.1≠b) :
  Inv X pins σ H' { s with heap:=h',gens:=g',drawn:=d',toks:=t' }:=by
 obtain ⟨m,⟨o,es,ep,ho,r⟩,_⟩:=id I.loc;obtain ⟨sl,hL⟩:=u.any ho I.free λ z=>(hch _ z).2.1 rfl;exact I.step (ch:=ch) hch (λ b o hL hb hc e n=>u.keep b o e n (λ z=>(ay.mp (I.stkSub b z)).elim hL hb) hc) (λ b o _ _ hc e n=>u.any e n hc) (λ b o hc e n=>u.free b o e n hc) (λ b o hc e=>u.there b o e hc) u.tups u.frzs u.tbls (λ m' hm=>by
  obtain ⟨o',es',ep',ho',r'⟩:=hm;rw [ho] at ho';cases ho';exact ⟨_,es',ep',hL,r'⟩) hok hg
theorem Inv.turned {t':Nat} {it:Addr} (I:Inv X pins σ H s) (k:∀ b o,b≠it->s.heap.get? b=some o->h'.get? b=some o) (hn:H it=none) (hL:it≠X.env.locals)
  (h1:it∈X.ex\/X.s₀.heap.objs.size<=it) (h2:∀ x c,X.env.cells.lookup x=some c->c≠it) (h3:∀ p∈X.pn ++ pins,p.1≠it):Inv X pins σ H { s with heap:=h',toks:=t' }:=by
 have nit:∀ b u,H b=some u->b≠it:=λ b u e z=>by rw [z,hn] at e;cases e
 refine I.step (g':=s.gens) (d':=s.drawn) (ch:=[it]) (λ b hb=>?_) (λ b o _ _ hc e _=>k b o (λ z=>hc (by simp [z])) e) (λ b o _ _ hc e _=>⟨o.slots,k b o (λ z=>hc (by simp [z])) e⟩) (λ _ _ _ _ n=>n)
  (λ b o hc e=>⟨o,k b o (λ z=>hc (by simp [z])) e⟩) (λ _ _ e=>e) (λ _ _ _ e=>e) (λ b ps e=>⟨#[],by rw [e];simp⟩) (λ m hm=>?_) (λ b u e=>?_) I.bare
 ·have e:b=it:=by simpa using hb
  subst e;exact ⟨h1,hL,h2,h3⟩
 ·obtain ⟨o,es,ep,ho,r⟩:=hm;exact ⟨o,es,ep,k _ o (aX hL) ho,r⟩
 ·refine (I.hok b u e).stay (λ c v hc q=>k c v ?_ q) (λ _ q=>q) λ _ _ q=>q;rcases hc with z|z
  ·rw [z];exact nit b u e
  ·exact nit c _ z
theorem Inv.tok (I:Inv X pins σ H s) (t:Nat):Inv X pins σ H { s with toks:=t }:=I.un (h':=s.heap) (t':=t) Un.refl I.hok
theorem Inv.kept {t':Nat} (I:Inv X pins σ H s) (k:∀ b u,s.heap.get? b=some u->h'.get? b=some u):Inv X pins σ H { s with heap:=h',toks:=t' }:=I.un (Un.kept k) (I.hok.kept k)
theorem Inv.laid {a:Addr} {o:HO} {t':Nat} (I:Inv X pins σ H s) (k:∀ b u,s.heap.get? b=some u->h'.get? b=some u) (hp:s.heap.objs.size<=a) (new:ObjOk X.prog X.w (upd H a o) h' a o) :
  Inv X pins σ (upd H a o) { s with heap:=h',toks:=t' }:=I.un (Un.laid k hp (I.hok.fresh hp)) (I.hok.laid k hp new)
theorem Inv.write {x e:Addr} {o:HO} {t':Nat} (I:Inv X pins σ H s) (mu:Mut (H x)) (he:e=x\/H e=some (.own x)) (k:∀ b u,b≠e->s.heap.get? b=some u->h'.get? b=some u) (heo:∃ u,h'.get? e=some u)
  (new:ObjOk X.prog X.w (upd H x o) h' x o):Inv X pins σ (upd H x o) { s with heap:=h',toks:=t' }:=I.un (Un.write mu he k heo) (I.hok.write mu he k heo new)
theorem Inv.pins_of {pins':List (Addr × Obj)} (I:Inv X pins σ H s) (h:∀ p∈pins',s.heap.get? p.1=some p.2/\H p.1=none/\p.1≠X.env.locals/\p.1 ∉ X.fs/\∀ v,p.2.data≠.cell v):Inv X pins' σ H s :=
 ⟨I.ok,I.os,I.bare,I.base,I.loc,I.cell,I.free,I.freeC,λ p hp=>(az.mp hp).elim (λ z=>I.pin p (aZ _ z)) (h p),I.hok,I.len⟩
theorem WP {N:List Str} (hN:N.Nodup) {i j:Nat} {x:Str} (a:N[i]?=some x) (b:N[j]?=some x):i=j:=by
 obtain ⟨h1,e1⟩:=aa.mp a;obtain ⟨h2,e2⟩:=aa.mp b;exact (List.getElem_inj hN).mp (e1.trans e2.symm)
theorem JO {M:Model} {A:Around} {E:Value->Shared->Prop} {i:Nat} {x:Str} {v:V} {u:Value} {Q:Unit->Shared->Prop} (I:Inv X pins σ H s) (hN:X.N.Nodup) (hi:X.N[i]?=some x) (hx:Loc X.env.scope x) (r:RelV v u)
  (h:∀ s',Inv X pins (σ.set i (some v)) H s'->(∃ a,Heap.SameBut a s.heap s'.heap/\(a=X.env.locals\/X.env.cells.lookup x=some a))->Q () s') (hf:X.fn x=true\/X.env.scope.names.lookup x=some .local:=by walk_at "p"):wpAny M A (storeName X.env x u) Q E s:=by
 obtain ⟨m,hn,hl⟩:=id I.loc;have hcls:(X.env.scope.kind == .class || (X.env.scope.kind == .module && X.env.locals != X.env.globals))=false:=by rw [I.ok.kind];rfl
 have hiσ:i < σ.length:=by rw [I.len];exact (aa.mp hi).1
 have cne:=I.cne;have tracked:∀ {a:Addr} {h':Heap},(∃ o,s.heap.get? a=some o/\H a=none)->Heap.SameBut a s.heap h'->HOk X.prog X.w H h':=λ {a h'} ha hs b ob e=>by
  obtain ⟨_,_,hfree⟩:=ha;refine (I.hok b ob e).stay (λ c w' hc q=>(hs.2 c ?_).trans q) (λ _ q=>q) λ _ _ q=>q;rintro rfl;rcases hc with rfl|hc
  ·rw [hfree] at e;cases e
  ·rw [hfree] at hc;cases hc
 rcases hx with hk|hk
 ·refine wpAny_storeName_local hk hn (λ h' hn' hs=>?_) hcls;obtain ⟨oL,_,_,hoL,_⟩:=id hn;refine h _ ⟨I.ok,I.os,I.bare,⟨λ b o e n hb hx=>?_,λ b o e n hb hx=>?_,I.base.free,λ b o e hx=>?_,I.base.tups,I.base.frzs,I.base.tbls⟩,⟨_,hn',λ j y v' e1 e2 e3=>?_⟩,λ y c e=>?_,I.free,I.freeC,λ p hp=>?_,tracked ⟨oL,hoL,I.free⟩ hs,by simpa using I.len⟩ ⟨_,hs,.inl rfl⟩
  ·exact (hs.2 b (aP (aN (ax e) I.ok.above))).trans (I.base.keep b o e n hb hx)
  ·obtain ⟨sl,e1⟩:=I.base.slot b o e n hb hx;exact ⟨sl,(hs.2 b (aP (aN (ax e) I.ok.above))).trans e1⟩
  ·obtain ⟨o',e1⟩:=I.base.there b o e hx;exact ⟨o',(hs.2 b (aP (aN (ax e) I.ok.above))).trans e1⟩
  ·by_cases hj:j=i
   ·subst hj;rw [hi] at e1;cases e1;rw [ba hiσ] at e2;cases e2;exact ⟨u,r,.inl ⟨hk,by simp⟩⟩
   ·rw [bg (aX hj)] at e2;obtain ⟨u',r',q⟩:=hl j y v' e1 e2 e3;refine ⟨u',r',?_⟩;rcases q with ⟨k,e⟩|⟨k,c,e,z⟩
    ·refine .inl ⟨k,?_⟩;have:y≠x:=λ e=>hj (WP hN e1 (e ▸ hi));simp [this,e]
    ·exact .inr ⟨k,c,e,z.sameBut hs (cne y c e)⟩
  ·obtain ⟨w',z⟩:=I.cell y c e;exact ⟨w',z.sameBut hs (cne y c e)⟩
  ·obtain ⟨e,n,ne,nf,d⟩:=I.pin p hp;exact ⟨(hs.2 p.1 ne).trans e,n,ne,nf,d⟩
 ·have hfn:X.fn x=true:=by
   rcases hf with z|z
   ·exact z
   ·rw [z] at hk;cases hk
  obtain ⟨c,hc⟩:=I.ok.has x (.inl hk);obtain ⟨w',z⟩:=I.cell x c hc;refine wpAny_storeName_cell I.ok.kind hk hc z (λ h' hc' hs=>?_);obtain ⟨oc,hoc,hocd⟩:=id z;refine h { s with heap:=h' } ⟨I.ok,I.os,I.bare,⟨λ b o e n hb hx=>?_,λ b o e n hb hx=>?_,I.base.free,λ b o e hx=>?_,I.base.tups,I.base.frzs,I.base.tbls⟩,⟨m,hn.sameBut hs (aX (cne x c hc)),λ j y v' e1 e2 e3=>?_⟩,λ y c' e=>?_,I.free,I.freeC,λ p hp=>?_,tracked ⟨oc,hoc,I.freeC x c hc⟩ hs,by simpa using I.len⟩ ⟨c,hs,.inr hc⟩
  ·exact (hs.2 b (aP (aN (ax e) (I.ok.cab x c hfn hc)))).trans (I.base.keep b o e n hb hx)
  ·obtain ⟨sl,e1⟩:=I.base.slot b o e n hb hx;exact ⟨sl,(hs.2 b (aP (aN (ax e) (I.ok.cab x c hfn hc)))).trans e1⟩
  ·obtain ⟨o',e1⟩:=I.base.there b o e hx;exact ⟨o',(hs.2 b (aP (aN (ax e) (I.ok.cab x c hfn hc)))).trans e1⟩
  ·by_cases hj:j=i
   ·subst hj;rw [hi] at e1;cases e1;rw [ba hiσ] at e2;cases e2;exact ⟨u,r,.inr ⟨.inl hk,c,hc,hc'⟩⟩
   ·rw [bg (aX hj)] at e2;obtain ⟨u',r',q⟩:=hl j y v' e1 e2 e3;refine ⟨u',r',?_⟩;rcases q with q|⟨k,c',e,z'⟩
    ·exact .inl q
    ·refine .inr ⟨k,c',e,z'.sameBut hs ?_⟩;rintro rfl;exact hj (WP hN e1 (I.ok.inj _ _ _ e hc ▸ hi))
  ·by_cases hcc:c'=c
   ·subst hcc;exact ⟨_,hc'⟩
   ·obtain ⟨w2,z2⟩:=I.cell y c' e;exact ⟨w2,z2.sameBut hs hcc⟩
  ·obtain ⟨e,n,ne,nf,d⟩:=I.pin p hp;refine ⟨(hs.2 p.1 ?_).trans e,n,ne,nf,d⟩;intro q;rw [q,hoc] at e;have q':oc=p.2:=aS e;exact d w' (by rw [<- q'];exact hocd)
theorem Qu {M:Model} {A:Around} {E:Value->Shared->Prop} {i:Nat} {x:Str} {v:V} {u:Value} {Q:Unit->Shared->Prop} (I:Inv X pins σ H s) (hN:X.N.Nodup) (hi:X.N[i]?=some x) (hx:Loc X.env.scope x) (r:RelV v u)
  (h:∀ s',Inv X pins (σ.set i (some v)) H s'->Q () s') (hf:X.fn x=true\/X.env.scope.names.lookup x=some .local:=by walk_at "p"):wpAny M A (storeName X.env x u) Q E s :=
 JO I hN hi hx r (λ s' I' _=>h s' I') hf
theorem Inv.call' {s':Shared} {ch:List Addr} (I:Inv X pins σ H s) (ho:s'.os=s.os) (u:Un (frs X.stack) ch H H' s.heap s'.heap) (hok:HOk X.prog X.w H' s'.heap) (hg:AllBare s'.gens)
  (hch:∀ b∈ch,(b∈X.ex\/X.s₀.heap.objs.size<=b)/\b≠X.env.locals/\(∀ x c,X.env.cells.lookup x=some c->c≠b)/\∀ p∈X.pn ++ pins,p.1≠b):Inv X pins σ H' s':=by
 obtain ⟨h',g',d',t',o'⟩:=s';have e:o'=s.os:=ho;subst e;exact I.call (g':=g') (t':=t') (d':=d') u hok hg hch
end
abbrev XK:=Value->Option Addr->Hp->Prop
abbrev St:=List (Option V)
abbrev VK:=V->Hp->Prop
abbrev TE:=St->Hp->VK->Prop
abbrev TT:=St->Hp->(Bool->Hp->Prop)->Prop
abbrev TA:=St->Hp->(List V->Hp->Prop)->Prop
structure Ends where
 nx:St->Hp->Prop
 rt:VK
 bk:St->Hp->Prop:=λ _ _=>False
 ct:St->Hp->Prop:=λ _ _=>False
abbrev TS:=Ends->St->Hp->Prop
def EP (X:Cx) (pins:List (Addr × Obj)) (σ:St) (Q:VK) (u:Value) (s':Shared):Prop:=∃ v H',Inv X pins σ H' s'/\RelV v u/\Q v H'
def TP (X:Cx) (pins:List (Addr × Obj)) (σ:St) (Q:Bool->Hp->Prop) (b:Bool) (s':Shared):Prop:=∃ H',Inv X pins σ H' s'/\Q b H'
def AP (X:Cx) (pins:List (Addr × Obj)) (σ:St) (Q:List V->Hp->Prop) (us:List Value) (s':Shared):Prop:=∃ vs H',Inv X pins σ H' s'/\Vals vs us/\Q vs H'
def SP (X:Cx) (pins:List (Addr × Obj)) (D:Ends) (f:Flow) (s':Shared):Prop :=
 match f with
 | .next=>∃ σ' H',Inv X pins σ' H' s'/\D.nx σ' H'
 | .brk=>∃ σ' H',Inv X pins σ' H' s'/\D.bk σ' H'
 | .cont=>∃ σ' H',Inv X pins σ' H' s'/\D.ct σ' H'
 | .ret u=>∃ v σ' H',Inv X pins σ' H' s'/\RelV v u/\D.rt v H'
def PE (X:Cx) (e:Expr) (t:TE):Prop :=
 ∀ (pins:List (Addr × Obj)) (s:Shared) (σ:St) (H:Hp) (Q:VK),Inv X pins σ H s->t σ H Q->wpAny (model X.prog X.w) X.A (eval e X.env) (EP X pins σ Q) X.xe s
def PT (X:Cx) (e:Expr) (t:TT):Prop :=
 ∀ (pins:List (Addr × Obj)) (s:Shared) (σ:St) (H:Hp) (Q:Bool->Hp->Prop),Inv X pins σ H s->t σ H Q->wpAny (model X.prog X.w) X.A (isTrue e X.env (eval e X.env)) (TP X pins σ Q) X.xe s
def PW (X:Cx) (e:Expr) (t:TT):Prop :=
 ∀ (whole:Sem Value) (pins:List (Addr × Obj)) (s:Shared) (σ:St) (H:Hp) (Q:Bool->Hp->Prop),Inv X pins σ H s->t σ H Q->wpAny (model X.prog X.w) X.A (isTrue e X.env whole) (TP X pins σ Q) X.xe s
theorem PW.pt {X:Cx} {e:Expr} {t:TT} (h:PW X e t):PT X e t:=h _
def PA (X:Cx) (es:List Expr) (t:TA):Prop :=
 ∀ (pos:Pos) (pins:List (Addr × Obj)) (s:Shared) (σ:St) (H:Hp) (Q:List V->Hp->Prop),Inv X pins σ H s->t σ H Q->wpAny (model X.prog X.w) X.A (spliced (backTo pos (starEach es X.env))) (AP X pins σ Q) X.xe s
def PS (X:Cx) (st:Stmt) (t:TS):Prop :=
 ∀ (pins:List (Addr × Obj)) (s:Shared) (σ:St) (H:Hp) (D:Ends),Inv X pins σ H s->t D σ H->wpAny (model X.prog X.w) X.A (exec st X.env) (SP X pins D) X.xe s
def PSs (X:Cx) (st:List Stmt) (t:TS):Prop :=
 ∀ (pins:List (Addr × Obj)) (s:Shared) (σ:St) (H:Hp) (D:Ends),Inv X pins σ H s->t D σ H->wpAny (model X.prog X.w) X.A (execs st X.env) (SP X pins D) X.xe s
theorem thn {α:Type} {t:Sem α} {Q Q':α->Shared->Prop} {M:Model} {A:Around} {E:Value->Shared->Prop} {s:Shared} (h:wpAny M A t Q E s) (hQ:∀ a s,Q a s->Q' a s):wpAny M A t Q' E s:=a9 h hQ λ _ _ x=>x
theorem qY {X:Cx} {pins:List (Addr × Obj)} {σ:St} {Q:VK} {t:Sem Value} {Q':Value->Shared->Prop} {M:Model} {A:Around} {E:Value->Shared->Prop} {s:Shared} (h:wpAny M A t (EP X pins σ Q) E s) (k:∀ u s1 x H1,Inv X pins σ H1 s1->RelV x u->Q x H1->Q' u s1):wpAny M A t Q' E s:=thn h λ u s1 e=>by
 obtain ⟨x,H1,I1,r,q⟩:=e;exact k u s1 x H1 I1 r q
theorem wu {X:Cx} {pins:List (Addr × Obj)} {σ:St} {Q:List V->Hp->Prop} {t:Sem (List Value)} {Q':List Value->Shared->Prop} {M:Model} {A:Around} {E:Value->Shared->Prop} {s:Shared} (h:wpAny M A t (AP X pins σ Q) E s) (k:∀ us s1 vs H1,Inv X pins σ H1 s1->Vals vs us->Q vs H1->Q' us s1):wpAny M A t Q' E s:=thn h λ u s1 e=>by
 obtain ⟨x,H1,I1,r,q⟩:=e;exact k u s1 x H1 I1 r q
end L2
namespace L2
open PySem PySem.Spec PyProof.Rows
section
variable {X:Cx}
def bq:V->(Bool->Prop)->Prop
 | .bl k,P=>P k
 | _,_=>False
theorem zbe {x:V} {P:Bool->Prop} (h:bq x P):∃ k,x=.bl k/\P k:=by
 cases x <;> first|exact ⟨_,rfl,h⟩|exact False.elim h
def iq:V->(Int->Prop)->Prop
 | .int i,P=>P i
 | _,_=>False
theorem Zb {x:V} {P:Int->Prop} (h:iq x P):∃ i,x=.int i/\P i:=by
 cases x <;> first|exact ⟨_,rfl,h⟩|exact False.elim h
theorem Ja {x y:V} {P:Int->Int->Prop} (h:iq x λ i=>iq y λ j=>P i j):∃ i j,x=.int i/\y=.int j/\P i j:=by
 obtain ⟨i,e,h⟩:=Zb h;obtain ⟨j,e2,h⟩:=Zb h;exact ⟨i,j,e,e2,h⟩
def nq:V->Prop->Prop
 | .non,P=>P
 | _,_=>False
theorem zaO {x:V} {P:Prop} (h:nq x P):x=.non/\P:=by
 cases x <;> first|exact ⟨rfl,h⟩|exact False.elim h
def lq:List V->(V->Prop)->Prop
 | [v],P=>P v
 | _,_=>False
theorem zdd:∀ {xs:List V} {P:V->Prop},lq xs P->∃ v,xs=[v]/\P v
 | [_],_,h=>⟨_,rfl,h⟩
 | [],_,h=>h.elim
 | _ :: _ :: _,_,h=>h.elim
def vq:Option (Option V)->(V->Prop)->Prop
 | some (some v),P=>P v
 | _,_=>False
theorem zeE:∀ {o:Option (Option V)} {P:V->Prop},vq o P->∃ v,o=some (some v)/\P v
 | some (some v),_,h=>⟨v,rfl,h⟩
 | some none,_,h=>h.elim
 | none,_,h=>h.elim
def szl (xs:List V) (P:Prop):Prop:=cond (Nat.ble xs.length 12) P False
theorem VE {xs:List V} {P:Prop} (h:szl xs P):xs.length<=sizeLine/\P:=by
 unfold szl at h;cases e:Nat.ble xs.length 12 with
 | true=>rw [e] at h;exact ⟨bh (Nat.le_of_ble_eq_true e) (by decide),h⟩
 | false=>rw [e] at h;exact h.elim
def tVar (i:Nat):TE:=λ σ H Q=>vq σ[i]? λ v=>Q v H
def tC (v:V):TE:=λ _ H Q=>Q v H
theorem zfd {i:Nat} {x:Str} {pos:Pos} (hN:X.N[i]?=some x) (hv:Vis X.env.scope x) (hd:(x == ("__debug__":Str))=false:=by decide) (hcd:(x == ("__classdict__":Str))=false:=by decide):PE X (.Name x pos) (tVar i):=by
 intro pins s σ H Q I h;obtain ⟨v,e,h⟩:=zeE h;obtain ⟨m,hn,hl⟩:=I.loc;obtain ⟨u,r,l⟩:=hl i x v hN e hv;have fin:EP X pins σ Q u s:=⟨v,H,I,r,h⟩;rcases l with ⟨hk,hm⟩|⟨hk,c,hc,hcell⟩
 ·exact wpAny_Name (wpAny_loadName_local I.ok.kind hk hn hm fin) hd
 ·rcases hk with hk|hk
  ·exact wpAny_Name (wpAny_loadName_cell I.ok.kind hk hc hcell fin) hd
  ·exact wpAny_Name (wpAny_loadName_free I.ok.kind hk hc hcell fin hcd) hd
theorem zf {i j pos}:PE X (.Constant (.int i) j pos) (tC (.int i)):=λ _ _ _ H _ I h=>wpAny_Constant_int ⟨.int i,H,I.tok _,⟨_,rfl⟩,h⟩
theorem w9 {b j pos}:PE X (.Constant (.bool b) j pos) (tC (.bl b)):=λ _ _ _ H _ I h=>Constant_bool ⟨.bl b,H,I,rfl,h⟩
theorem zD {j pos}:PE X (.Constant .none j pos) (tC .non):=λ _ _ _ H _ I h=>Constant_none ⟨.non,H,I,rfl,h⟩
theorem xy {x j pos}:PE X (.Constant (.str x) j pos) (tC (.str x)):=λ _ _ _ H _ I h=>Calls.Constant_str ⟨.str x,H,I.tok _,⟨_,rfl⟩,h⟩
def Gl (X:Cx) (x:Str):Prop:=X.env.kindOf x=some .globalImplicit
theorem wb {E:Value->Shared->Prop} {pins:List (Addr × Obj)} {s:Shared} {σ:St} {H:Hp} {x:Str} {u:Value} {pos:Pos} {Q:Value->Shared->Prop} (I:Inv X pins σ H s) (hg:Gl X x) (hm:X.mg x=some u) (h:Q u s)
  (hd:(x == ("__debug__":Str))=false:=by decide):wpAny (model X.prog X.w) X.A (eval (.Name x pos) X.env) Q E s :=
 eI I.ok.kind hg (Calls.loadGlobal_global (by rw [I.ok.glob];exact I.mod.glob.keeps I.bk) hm h) hd
theorem wc {E:Value->Shared->Prop} {pins:List (Addr × Obj)} {s:Shared} {σ:St} {H:Hp} {x:Str} {u:Value} {pos:Pos} {Q:Value->Shared->Prop} (I:Inv X pins σ H s) (hg:Gl X x) (hm:X.mg x=none) (hv:bootBuiltins x=some u) (h:Q u s)
  (hn:x≠"__name__":=by decide) (hd:(x == ("__debug__":Str))=false:=by decide):wpAny (model X.prog X.w) X.A (eval (.Name x pos) X.env) Q E s:=by
 obtain ⟨mb,h1,h2⟩:=I.mod.blt;exact eI I.ok.kind hg (Calls.loadGlobal_builtin (by rw [I.ok.glob];exact I.mod.glob.keeps I.bk) hm (by rw [I.ok.blt];exact h1.keeps I.bk) ((h2 x hn).trans hv) h) hd
variable {a b:Expr} {ta tb:TE} {pos:Pos}
def PC (X:Cx) (op:CmpOp) (a b:Expr) (t:TE):Prop :=
 ∀ (pins:List (Addr × Obj)) (s:Shared) (σ:St) (H:Hp) (Q:VK),Inv X pins σ H s->t σ H Q ->
  wpAny (model X.prog X.w) X.A (eval a X.env) (λ v s₁=>wpAny (model X.prog X.w) X.A (eval b X.env) (λ u s₂=>wpAny (model X.prog X.w) X.A (compareOp op v u) (EP X pins σ Q) X.xe s₂) X.xe s₁) X.xe s
theorem nobehind (b:Expr) {op:CmpOp} (h:op≠.In) (h2:op≠.NotIn):behindInMarks op b=false:=by
 have e1:(op == CmpOp.In)=false:=by cases op <;> first|rfl|exact absurd rfl h
 have e2:(op == CmpOp.NotIn)=false:=by cases op <;> first|rfl|exact absurd rfl h2
 cases b <;> simp [behindInMarks,e1,e2]
variable {tA tB':TT} {rest:List Expr}
def tAnd (t u:TT):TT:=λ σ H Q=>t σ H λ c H1=>if c=true then u σ H1 Q else Q false H1
def tOr (t u:TT):TT:=λ σ H Q=>t σ H λ c H1=>if c=true then Q true H1 else u σ H1 Q
def tNot (t:TT):TT:=λ σ H Q=>t σ H λ c H1=>Q (!c) H1
theorem pw_and1 (ha:PT X a tA):PW X (.BoolOp .And [a] pos) tA:=by
 intro wh pins s σ H Q I h;refine isTrue_and (thn (ha pins s σ H Q I h) λ c s1 e=>?_);cases c with
 | true=>exact isTrue_and_nil e
 | false=>exact e
theorem pw_or1 (ha:PT X a tA):PW X (.BoolOp .Or [a] pos) tA:=by
 intro wh pins s σ H Q I h;refine isTrue_or (thn (ha pins s σ H Q I h) λ c s1 e=>?_);cases c with
 | false=>exact isTrue_or_nil e
 | true=>exact e
theorem pw_and (ha:PT X a tA) (hb:PW X (.BoolOp .And (b :: rest) pos) tB'):PW X (.BoolOp .And (a :: b :: rest) pos) (tAnd tA tB'):=by
 intro wh pins s σ H Q I h;refine isTrue_and (thn (ha pins s σ H _ I h) λ c s1 ⟨H1,I1,q1⟩=>?_);cases c with
 | true=>exact hb wh pins s1 σ H1 Q I1 q1
 | false=>exact ⟨H1,I1,q1⟩
theorem pw_or (ha:PT X a tA) (hb:PW X (.BoolOp .Or (b :: rest) pos) tB'):PW X (.BoolOp .Or (a :: b :: rest) pos) (tOr tA tB'):=by
 intro wh pins s σ H Q I h;refine isTrue_or (thn (ha pins s σ H _ I h) λ c s1 ⟨H1,I1,q1⟩=>?_);cases c with
 | true=>exact ⟨H1,I1,q1⟩
 | false=>exact hb wh pins s1 σ H1 Q I1 q1
theorem jP (ha:PT X a tA):PT X (.UnaryOp .Not a pos) (tNot tA):=by
 intro pins s σ H Q I h;exact isTrue_not (ha pins s σ H (λ c H1=>Q (!c) H1) I h)
def tIf (t:TT) (ta tb:TE):TE:=λ σ H Q=>t σ H λ c H1=>if c=true then ta σ H1 Q else tb σ H1 Q
theorem xg {c:Expr} (hc:PT X c tA) (ha:PE X a ta) (hb:PE X b tb):PE X (.IfExp c a b pos) (tIf tA ta tb):=by
 intro pins s σ H Q I h;refine wpAny_IfExp (thn (hc pins s σ H _ I h) λ d s1 ⟨H1,I1,q1⟩=>?_);cases d with
 | true=>exact ha pins s1 σ H1 Q I1 q1
 | false=>exact hb pins s1 σ H1 Q I1 q1
end
end L2
namespace L2
open PySem PySem.Spec PyProof.Rows
def SqL (K:PySem.W.Frag) (H:Hp) (a:Addr) (xs:List V):Prop :=
 Rd H a (.lst xs) \/
  ∃ (o:Obj) (its:Array Value) (n:Nat),K.lookup a=some o/\o.cls=.type "list"/\o.dict=none/\o.data=.seq its n/\its.size<=sizeLine/\Vals xs its.toList
def SqT (K:PySem.W.Frag) (H:Hp) (a:Addr) (xs:List V):Prop :=
 Rd H a (.tup xs) \/
  ∃ (o:Obj) (its:Array Value) (n:Nat),K.lookup a=some o/\o.cls=.type "tuple"/\o.data=.seq its n/\its.size<=sizeLine/\Vals xs its.toList
def zgD:Value->Option V
 | .none=>some .non
 | .bool b=>some (.bl b)
 | .int i _=>some (.int i)
 | .str x _=>some (.str x)
 | .bytes b _=>some (.byt b)
 | .float b _=>some (.flt b)
 | .ref a=>some (.ref a)
 | .type n=>some (.ty n)
 | _=>none
theorem RelV.abs {x:V} {u:Value} (r:RelV x u):zgD u=some x:=by
 cases x with
 | non=>cases r;rfl
 | bl _=>cases r;rfl
 | int _=>obtain ⟨t,rfl⟩:=r;rfl
 | str _=>obtain ⟨t,rfl⟩:=r;rfl
 | byt _=>obtain ⟨t,rfl⟩:=r;rfl
 | flt _=>obtain ⟨t,rfl⟩:=r;rfl
 | ref _=>cases r;rfl
 | ty _=>cases r;rfl
theorem RelV.inj {x y:V} {u:Value} (r:RelV x u) (q:RelV y u):x=y:=aS (r.abs.symm.trans q.abs)
theorem Vals.inj:∀ {xs ys:List V} {us:List Value},Vals xs us->Vals ys us->xs=ys
 | _,_,_,.nil,.nil=>rfl
 | _,_,_,.cons r t,.cons r' t'=>by rw [r.inj r',Vals.inj t t']
section
variable {X:Cx} {pins:List (Addr × Obj)} {σ:St} {H:Hp} {s:Shared} {a:Addr} {xs ys:List V}
theorem SqL.of {K:PySem.W.Frag} (h:H a=some (.lst xs)):SqL K H a xs:=.inl (.inl h)
theorem SqT.of {K:PySem.W.Frag} (h:H a=some (.tup xs)):SqT K H a xs:=.inl (.inl h)
theorem Inv.list (I:Inv X pins σ H s) (h:SqL X.K H a xs):∃ its:List Value,Vals xs its/\PlainL s.heap a its.toArray/\xs.length<=sizeLine:=by
 rcases h with h|⟨o,its,n,hk,hc,hd,hs,hz,r⟩
 ·obtain ⟨z,its,n,r,e⟩:=h.ok I.hok;exact ⟨its,r,⟨_,n,e,rfl,rfl,rfl⟩,z⟩
 ·refine ⟨its.toList,r,⟨o,n,I.kIn a o hk,hc,hd,by simpa using hs⟩,?_⟩;have e:=r.length;simp only [eO] at e;omega
theorem Inv.tuple (I:Inv X pins σ H s) (h:SqT X.K H a xs):∃ its:List Value,Vals xs its/\IsTup s.heap a its.toArray/\xs.length<=sizeLine:=by
 rcases h with h|⟨o,its,n,hk,hc,hs,hz,r⟩
 ·obtain ⟨z,its,r,p⟩:=h.ok I.hok;exact ⟨its,r,p,z⟩
 ·refine ⟨its.toList,r,⟨o,I.kIn a o hk,hc,n,by simpa using hs⟩,?_⟩;have e:=r.length;simp only [eO] at e;omega
theorem Inv.list_inj (I:Inv X pins σ H s) (h:SqL X.K H a xs) (h':SqL X.K H a ys):xs=ys:=by
 obtain ⟨its,r,⟨o,n,e,_,_,d⟩,_⟩:=I.list h;obtain ⟨its',r',⟨o',n',e',_,_,d'⟩,_⟩:=I.list h';rw [e] at e';cases e';rw [d] at d';injection d' with d1 _
 have:its=its':=by simpa using bS Array.toList d1
 subst this;exact r.inj r'
theorem Inv.tuple_inj (I:Inv X pins σ H s) (h:SqT X.K H a xs) (h':SqT X.K H a ys):xs=ys:=by
 obtain ⟨its,r,⟨o,e,_,n,d⟩,_⟩:=I.tuple h;obtain ⟨its',r',⟨o',e',_,n',d'⟩,_⟩:=I.tuple h';rw [e] at e';cases e';rw [d] at d';injection d' with d1 _
 have:its=its':=by simpa using bS Array.toList d1
 subst this;exact r.inj r'
end
abbrev Cx.wish (X:Cx) (E:Value->Shared->Prop):Cx:={ X with xe:=E }
abbrev Cx.nox (X:Cx):Cx:=X.wish λ _ _=>False
theorem Cx.Ok.wish {X:Cx} (ok:X.Ok) (E:Value->Shared->Prop):(X.wish E).Ok :=
 ⟨ok.mod,ok.kind,ok.glob,ok.blt,ok.above,ok.inj,ok.has,ok.cab,ok.hd,ok.frames,ok.stk,ok.exf,ok.bs,ok.bsz,ok.noex,ok.exfs,ok.funs,ok.frf⟩
theorem Cx.Ok.unwish {X:Cx} {E:Value->Shared->Prop} (ok:(X.wish E).Ok):X.Ok :=
 ⟨ok.mod,ok.kind,ok.glob,ok.blt,ok.above,ok.inj,ok.has,ok.cab,ok.hd,ok.frames,ok.stk,ok.exf,ok.bs,ok.bsz,ok.noex,ok.exfs,ok.funs,ok.frf⟩
section
variable {X:Cx} {pins:List (Addr × Obj)} {σ:St} {H:Hp} {s:Shared} {E:Value->Shared->Prop}
theorem Inv.wish (I:Inv X pins σ H s) (E:Value->Shared->Prop):Inv (X.wish E) pins σ H s:=⟨I.ok.wish E,I.os,I.bare,I.base,I.loc,I.cell,I.free,I.freeC,I.pin,I.hok,I.len⟩
theorem Inv.unwish (I:Inv (X.wish E) pins σ H s):Inv X pins σ H s:=⟨I.ok.unwish,I.os,I.bare,I.base,I.loc,I.cell,I.free,I.freeC,I.pin,I.hok,I.len⟩
theorem SP.unwish {D:Ends} {f:Flow} {s':Shared} (h:SP (X.wish E) pins D f s'):SP X pins D f s':=by
 cases f with
 | next=>obtain ⟨σ',H',I,q⟩:=h;exact ⟨σ',H',I.unwish,q⟩
 | brk=>obtain ⟨σ',H',I,q⟩:=h;exact ⟨σ',H',I.unwish,q⟩
 | cont=>obtain ⟨σ',H',I,q⟩:=h;exact ⟨σ',H',I.unwish,q⟩
 | ret u=>obtain ⟨v,σ',H',I,r,q⟩:=h;exact ⟨v,σ',H',I.unwish,r,q⟩
theorem PE.nox {e:Expr} {t:TE} (h:PE X.nox e t):PE X e t:=λ pins s σ H Q I hw =>
 a9 (h pins s σ H Q (I.wish _) hw) (λ _ _ ⟨v,H',I',r,q⟩=>⟨v,H',I'.unwish,r,q⟩) λ _ _ z=>False.elim z
theorem PT.nox {e:Expr} {t:TT} (h:PT X.nox e t):PT X e t:=λ pins s σ H Q I hw =>
 a9 (h pins s σ H Q (I.wish _) hw) (λ _ _ ⟨H',I',q⟩=>⟨H',I'.unwish,q⟩) λ _ _ z=>False.elim z
theorem PSs.nox {st:List Stmt} {t:TS} (h:PSs X.nox st t):PSs X st t:=λ pins s σ H D I hw =>
 a9 (h pins s σ H D (I.wish _) hw) (λ _ _ q=>q.unwish) λ _ _ z=>False.elim z
end
section
variable {X:Cx} {st:Stmt} {rest:List Stmt} {t u:TS} {e:Expr} {te:TE} {pos:Pos}
def tNext:TS:=λ D σ H=>D.nx σ H
def tSeq (t u:TS):TS:=λ D σ H=>t { D with nx:=u D } σ H
theorem zl:PSs X [] tNext:=λ _ _ σ H _ I h=>de ⟨σ,H,I,h⟩
theorem zi (h1:PS X st t) (h2:PSs X rest u):PSs X (st :: rest) (tSeq t u):=by
 intro pins s σ H D I h;refine dS (thn (h1 pins s σ H { D with nx:=u D } I h) λ f s1 q=>?_);cases f with
 | next =>
  obtain ⟨σ',H',I',q⟩:=q;exact h2 pins s1 σ' H' D I' q
 | ret v=>exact q
 | brk=>exact q
 | cont=>exact q
theorem zc (h1:PS X st t):PSs X [st] t:=by
 intro pins s σ H D I h;refine dS (thn (h1 pins s σ H D I h) λ f s1 q=>?_);cases f with
 | next=>exact de q
 | ret v=>exact q
 | brk=>exact q
 | cont=>exact q
theorem Inv.quiet {pins:List (Addr × Obj)} {σ:St} {H:Hp} {s:Shared} (I:Inv X pins σ H s):interactive X.env=false:=by simp [interactive,I.ok.kind]
def tDrop (te:TE):TS:=λ D σ H=>te σ H λ _ H1=>D.nx σ H1
theorem zo (he:PE X e te) (hs:swapsWith e none pos.line X.env=pure false:=by rfl):PS X (.Expr e pos) (tDrop te):=by
 intro pins s σ H D I h;exact wpAny_Expr_any (qY (he pins s σ H _ I h) λ v s1 x H1 I1 r1 q1=>⟨σ,H1,I1,q1⟩) I.quiet hs
def tRet (te:TE):TS:=λ D σ H=>te σ H D.rt
theorem zk (he:PE X e te):PS X (.Return (some e) pos) (tRet te):=by
 intro pins s σ H D I h;exact wpAny_Return_some (qY (he pins s σ H _ I h) λ v s1 x H1 I1 r1 q1=>⟨x,σ,H1,I1,r1,q1⟩)
def tIfS (c:TT) (t u:TS):TS:=λ D σ H=>c σ H λ b H1=>if b=true then t D σ H1 else u D σ H1
theorem zA {c:Expr} {a b:List Stmt} {tc:TT} (hc:PT X c tc) (ha:PSs X a t) (hb:PSs X b u):PS X (.If c a b pos) (tIfS tc t u):=by
 intro pins s σ H D I h;refine wpAny_If (thn (hc pins s σ H _ I h) λ d s1 ⟨H1,I1,q1⟩=>?_);cases d with
 | true=>exact ha pins s1 σ H1 D I1 q1
 | false=>exact hb pins s1 σ H1 D I1 q1
end
abbrev TG:=V->St->Hp->(St->Hp->Prop)->Prop
abbrev TGs:=List V->St->Hp->(St->Hp->Prop)->Prop
def PG (X:Cx) (target:Expr) (t:TG):Prop :=
 ∀ (pins:List (Addr × Obj)) (s:Shared) (σ:St) (H:Hp) (v:V) (u:Value) (Q:St->Hp->Prop),Inv X pins σ H s->RelV v u->t v σ H Q ->
  wpAny (model X.prog X.w) X.A (assign target X.env u) (λ _ s'=>∃ σ' H',Inv X pins σ' H' s'/\Q σ' H') X.xe s
def PGs (X:Cx) (ts:List Expr) (t:TGs):Prop :=
 ∀ (pins:List (Addr × Obj)) (s:Shared) (σ:St) (H:Hp) (vs:List V) (us:List Value) (Q:St->Hp->Prop),Inv X pins σ H s->Vals vs us->t vs σ H Q ->
  wpAny (model X.prog X.w) X.A (assignInOrder ((assignEach ts X.env).map (·.2)) us) (λ _ s'=>∃ σ' H',Inv X pins σ' H' s'/\Q σ' H') X.xe s
abbrev zdO:=V->V->V->Hp->(Hp->Prop)->Prop
def zfR (X:Cx) (t:zdO):Prop :=
 ∀ (pins:List (Addr × Obj)) (s:Shared) (σ:St) (H:Hp) (o i v:V) (ov iv u:Value) (Q:Hp->Prop),Inv X pins σ H s->RelV o ov->RelV i iv->RelV v u->t o i v H Q ->
  wpAny (model X.prog X.w) X.A (setItem ov iv u) (λ _ s'=>∃ H',Inv X pins σ H' s'/\Q H') X.xe s
abbrev TIp:=V->V->Hp->VK->Prop
def PIp (X:Cx) (op:Operator) (t:TIp):Prop :=
 ∀ (pins:List (Addr × Obj)) (s:Shared) (σ:St) (H:Hp) (x y:V) (v u:Value) (Q:VK),Inv X pins σ H s->RelV x v->RelV y u->t x y H Q ->
  wpAny (model X.prog X.w) X.A (inplaceOp op v u) (EP X pins σ Q) X.xe s
section
variable {X:Cx} {pos:Pos}
def gName (i:Nat):TG:=λ v σ H Q=>Q (σ.set i (some v)) H
theorem zaK {i:Nat} {x:Str} (hN:X.N.Nodup) (hi:X.N[i]?=some x) (hx:Loc X.env.scope x) (hf:X.fn x=true\/X.env.scope.names.lookup x=some .local:=by walk_at "p"):PG X (.Name x pos) (gName i):=by
 intro pins s σ H v u Q I r h;exact wpAny_assign_Name (Qu I hN hi hx r (λ s' I'=>⟨_,H,I',h⟩) hf)
def gNil:TGs:=λ vs σ H Q=>vs=[]/\Q σ H
def gCons (t:TG) (u:TGs):TGs:=λ vs σ H Q=>∃ v r,vs=v :: r/\t v σ H λ σ' H'=>u r σ' H' Q
theorem qN:PGs X [] gNil:=by
 intro pins s σ H vs us Q I r h;obtain ⟨e,h⟩:=h;subst e;cases r;exact assignInOrder_nil ⟨σ,H,I,h⟩
theorem zF {e:Expr} {es:List Expr} {t:TG} {u:TGs} (h1:PG X e t) (h2:PGs X es u)
  (hs:(assignEach (e :: es) X.env).map (·.2)=assign e X.env :: (assignEach es X.env).map (·.2):=by rfl):PGs X (e :: es) (gCons t u):=by
 intro pins s σ H vs us Q I r h;obtain ⟨v,vr,e1,h⟩:=h;subst e1;cases r with
 | cons r rr =>
  rw [hs];refine assignInOrder_cons (thn (h1 pins s σ H _ _ _ I r h) λ _ s1 ⟨σ1,H1,I1,q1⟩=>?_);exact h2 pins s1 σ1 H1 _ _ Q I1 rr q1
def gTup (K:PySem.W.Frag) (n:Nat) (t:TGs):TG:=λ v σ H Q=>∃ a xs,v=.ref a/\SqT K H a xs/\xs.length=n/\t xs σ H Q
theorem jr {es:List Expr} {k:Nat} {t:TGs} {n:Nat} (hc:X.calm=true) (h:PGs X es t)
  (hn:(assignEach es X.env).length=n:=by rfl) (hst:(assignEach es X.env).findIdx? (·.1)=none:=by rfl):PG X (.Tuple es k pos) (gTup X.K n t):=by
 intro pins s σ H v u Q I r hw;obtain ⟨a,xs,e1,hq,hl,hw⟩:=hw;subst e1;cases r;obtain ⟨its,rv,ht,hz⟩:=I.tuple hq;refine assign_Tuple_tuple (I.ok.hd hc) ht (by simp [hn,<- hl,rv.length]) hst λ h' hx=>?_;have I1:Inv X pins σ H { s with heap:=h' }:=I.kept (t':=s.toks) λ b o e=>hx b o (aP (ax e)) e;exact h pins _ σ H xs _ Q I1 (by simpa using rv) hw
def gSub (to ti:TE) (t:zdO):TG:=λ v σ H Q=>to σ H λ o H1=>ti σ H1 λ i H2=>t o i v H2 λ H3=>Q σ H3
theorem ZF {o i:Expr} {to ti:TE} {t:zdO} (ho:PE X o to) (hi:PE X i ti) (hs:zfR X t)
  (ha:∀ v,assign (.Subscript o i pos) X.env v=(do
   let ov <- holding [v] (eval o X.env)
   let iv <- holding [v,ov] (eval i X.env)
   standAt pos
   holding [v,ov,iv] (setItem ov iv v)
   release [v,ov,iv] []):=by intro _;rfl):PG X (.Subscript o i pos) (gSub to ti t):=by
 intro pins s σ H v u Q I r h;rw [ha];refine af (cY (qY (ho pins s σ H _ I h) λ ov s1 x H1 I1 r1 q1=>?_));refine af (cY (qY (hi pins s1 σ H1 _ I1 q1) λ iv s2 y H2 I2 r2 q2=>?_));refine af (eP (af (cY (thn (hs pins s2 σ H2 x y v ov iv u _ I2 r1 r2 r q2) λ _ s3 ⟨H3,I3,q3⟩=>?_))));exact wpAny_release ⟨σ,H3,I3,q3⟩
def tAsg (te:TE) (g:TG):TS:=λ D σ H=>te σ H λ x H1=>g x σ H1 D.nx
theorem ZD {tg e:Expr} {te:TE} {g:TG} (he:PE X e te) (hg:PG X tg g) (hs:swapsWithSole [tg] e pos.line X.env=pure false:=by rfl) (hw:swappedStores [tg] e X.env=pure none:=by rfl)
  (h1:(assignEach [tg] X.env).map (·.2)=[assign tg X.env]:=by rfl):PS X (.Assign [tg] e pos) (tAsg te g):=by
 intro pins s σ H D I h;refine wpAny_Assign_stores (qY (he pins s σ H _ I h) λ v s1 x H1 I1 r1 q1=>?_) hs hw;rw [h1];exact thn (hg pins s1 σ H1 x v _ I1 r1 q1) λ _ s2 q=>q
theorem vB {i:Nat} {x:Str} {e:Expr} {te:TE} {pos':Pos} (hN:X.N.Nodup) (hi:X.N[i]?=some x) (hx:Loc X.env.scope x) (he:PE X e te) (hs:swapsWith e (some (.Name x pos')) pos.line X.env=pure false:=by rfl) (hf:X.fn x=true\/X.env.scope.names.lookup x=some .local:=by walk_at "p") :
  PS X (.Assign [.Name x pos'] e pos) (tAsg te (gName i)):=by
 intro pins s σ H D I h;refine wpAny_Assign_Name (qY (he pins s σ H _ I h) λ v s1 y H1 I1 r1 q1=>?_) hs;exact Qu I1 hN hi hx r1 (λ s2 I2=>⟨_,H1,I2,q1⟩) hf
def tAug (i:Nat) (te:TE) (ti:TIp):TS:=λ D σ H=>vq σ[i]? λ x=>te σ H λ y H1=>ti x y H1 λ z H2=>D.nx (σ.set i (some z)) H2
theorem zfb {i:Nat} {x:Str} {e:Expr} {te:TE} {op:Operator} {ti:TIp} {pos':Pos} (hN:X.N.Nodup) (hi:X.N[i]?=some x) (hx:Loc X.env.scope x) (he:PE X e te) (ho:PIp X op ti) (hf:X.fn x=true\/X.env.scope.names.lookup x=some .local:=by walk_at "p") :
  PS X (.AugAssign (.Name x pos') op e pos) (tAug i te ti):=by
 intro pins s σ H D I h;obtain ⟨v,e1,h⟩:=zeE h;obtain ⟨m,hn,hl⟩:=I.loc;have vis:Vis X.env.scope x:=by rcases hx with k|k;exact .inl k;exact .inr (.inl k)
 obtain ⟨u,r,l⟩:=hl i x v hi e1 vis;refine wpAny_AugAssign_Name ?_;have go:wpAny (model X.prog X.w) X.A (eval e X.env) (λ w s₂=>wpAny (model X.prog X.w) X.A (inplaceOp op u w) (λ r s₃=>wpAny (model X.prog X.w) X.A (storeName X.env x r) (λ _=>SP X pins D .next) X.xe s₃) X.xe s₂) X.xe s:=by
  refine qY (he pins s σ H _ I h) λ w s1 y H1 I1 r1 q1=>?_;refine qY (ho pins s1 σ H1 v y u w _ I1 r r1 q1) λ z s2 zv H2 I2 r2 q2=>?_;exact Qu I2 hN hi hx r2 (λ s3 I3=>⟨_,H2,I3,q2⟩) hf
 rcases l with ⟨hk,hm⟩|⟨hk,c,hc,hcell⟩
 ·exact wpAny_loadName_local I.ok.kind hk hn hm go
 ·rcases hk with hk|hk
  ·exact wpAny_loadName_cell I.ok.kind hk hc hcell go
  ·rcases hx with k|k
   ·have:X.env.scope.names.lookup x=some .free:=hk;rw [k] at this;cases this
   ·have:X.env.scope.names.lookup x=some .free:=hk;rw [k] at this;cases this
def zct (to ti te:TE) (tget:V->V->Hp->VK->Prop) (tip:TIp) (tset:zdO):TS:=λ D σ H=>to σ H λ o H1=>ti σ H1 λ i H2=>tget o i H2 λ x H3=>te σ H3 λ y H4=>tip x y H4 λ z H5=>tset o i z H5 λ H6=>D.nx σ H6
def zgo (X:Cx) (t:V->V->Hp->VK->Prop):Prop :=
 ∀ (pins:List (Addr × Obj)) (s:Shared) (σ:St) (H:Hp) (o i:V) (ov iv:Value) (Q:VK),Inv X pins σ H s->RelV o ov->RelV i iv->t o i H Q ->
  wpAny (model X.prog X.w) X.A (getItem ov iv) (EP X pins σ Q) X.xe s
theorem zaJ {o i e:Expr} {to ti te:TE} {tget:V->V->Hp->VK->Prop} {tip:TIp} {tset:zdO} {op:Operator} {tpos:Pos} (ho:PE X o to) (hi:PE X i ti) (hg:zgo X tget) (he:PE X e te) (hp:PIp X op tip) (hs:zfR X tset)
  (ha:∀ ov iv new,augStore i ov iv new=(do holding [new,ov,iv] (setItem ov iv new);release [new,ov,iv] [];pure .next):=by intros;rfl):PS X (.AugAssign (.Subscript o i tpos) op e pos) (zct to ti te tget tip tset):=by
 intro pins s σ H D I h;refine wpAny_AugAssign_SubscriptAny (qY (ho pins s σ H _ I h) λ ov s1 x1 H1 I1 r1 q1=>?_) ha;refine qY (hi pins s1 σ H1 _ I1 q1) λ iv s2 x2 H2 I2 r2 q2=>?_;refine qY (hg pins s2 σ H2 x1 x2 ov iv _ I2 r1 r2 q2) λ old s3 x3 H3 I3 r3 q3=>?_;refine qY (he pins s3 σ H3 _ I3 q3) λ v s4 x4 H4 I4 r4 q4=>?_;refine qY (hp pins s4 σ H4 x3 x4 old v _ I4 r3 r4 q4) λ new s5 x5 H5 I5 r5 q5=>?_;exact thn (hs pins s5 σ H5 x1 x2 x5 ov iv new _ I5 r1 r2 r5 q5) λ _ s6 ⟨H6,I6,q6⟩=>⟨σ,H6,I6,q6⟩
def ipI (f:Int->Int->Int):TIp:=λ x y H Q=>iq x λ i=>iq y λ j=>Q (.int (f i j)) H
theorem zak:PIp X .Add (ipI λ i j=>i + j):=by
 intro pins s σ H x y v u Q I r1 r2 h;obtain ⟨i,j,e1,e2,q⟩:=Ja h;subst e1;subst e2;obtain ⟨t,rfl⟩:=r1;obtain ⟨t',rfl⟩:=r2;exact iadd_int ⟨.int _,H,I.tok _,⟨_,rfl⟩,q⟩
end
section
variable {X:Cx} {pos:Pos}
def zeX (c:TT) (tb:TS):TS:=λ D σ H=>∃ W:Nat->St->Hp->Prop,(∃ m,W m σ H)/\∀ m σ H,W m σ H ->
 c σ H λ b H1=>if b=true then ∃ N:St->Hp->Prop,(∀ σ' H',N σ' H'->∃ m',m' < m/\W m' σ' H')/\tb { D with nx:=N,ct:=N,bk:=D.nx } σ H1 else D.nx σ H1
theorem zcU {c:Expr} {body:List Stmt} {tc:TT} {tb:TS} (hp:PassesOwn (model X.prog X.w) X.A X.env X.xe) (hc:PT X c tc) (hb:PSs X body tb):PS X (.While c body [] pos) (zeX tc tb):=by
 intro pins s σ H D I h;obtain ⟨W,⟨m0,w0⟩,turn⟩:=h;refine wpAny_While (codeAny_whileLoop (λ n s'=>∃ σ' H',Inv X pins σ' H' s'/\W n σ' H') ?_ m0 ⟨σ,H,I,w0⟩);rintro n s1 ⟨σ1,H1,I1,w1⟩;refine bV hp (thn (hc pins s1 σ1 H1 _ I1 (turn n σ1 H1 w1)) λ b s2 ⟨H2,I2,q2⟩=>?_);cases b with
 | true =>
  obtain ⟨N,hN,q2⟩:=q2;rw [aA rfl];refine bV hp (thn (hb pins s2 σ1 H2 _ I2 q2) λ f s3 q3=>?_);cases f with
  | next =>
   obtain ⟨σ3,H3,I3,n3⟩:=q3;obtain ⟨m',hm,w3⟩:=hN σ3 H3 n3;exact ⟨m',hm,σ3,H3,I3,w3⟩
  | cont =>
   obtain ⟨σ3,H3,I3,n3⟩:=q3;obtain ⟨m',hm,w3⟩:=hN σ3 H3 n3;exact ⟨m',hm,σ3,H3,I3,w3⟩
  | brk=>exact q3
  | ret v=>exact q3
 | false =>
  rw [aw aC];exact de ⟨σ1,H2,I2,q2⟩
end
structure It where
 go:Nat->Hp->Prop
 yld:Nat->Hp->V->Hp->Prop
 stop:Nat->Hp->Prop
def ZP (X:Cx) (pins:List (Addr × Obj)) (H:Hp) (b:Addr):Prop :=
 H b=none/\b≠X.env.locals/\b ∉ X.fs/\(b∈X.ex\/X.s₀.heap.objs.size<=b)/\(∀ x c,X.env.cells.lookup x=some c->c≠b)/\∀ p∈X.pn ++ pins,p.1≠b
theorem Inv.fpOk {X:Cx} {pins:List (Addr × Obj)} {σ:St} {H H':Hp} {s:Shared} {b:Addr} (I:Inv X pins σ H s) (hb:s.heap.objs.size<=b) (hn:H' b=none):ZP X pins H' b:=by
 refine ⟨hn,ck (aN I.lt hb),I.nofs hb,.inr (bh I.sz hb),λ x c e z=>?_,λ p hp z=>?_⟩
 ·obtain ⟨v,q⟩:=I.cell x c e;exact absurd (aN q.lt (by rw [z];exact hb)) (cc _)
 ·exact absurd (aN (ax (I.pin p hp).1) (by rw [z];exact hb)) (cc _)
structure Turn (P:Program) (w:World) (K:PySem.W.Frag) (tg:Expr) (J:It) (fp:List Addr) (it:Addr) (tn:Nat->Heap->Prop):Prop where
 mem:it∈fp
 obj:∀ i h,tn i h->∀ b∈fp,∃ o,h.get? b=some o/\∀ v,o.data≠.cell v
 keep:∀ i h h',tn i h->(∀ b∈fp,∀ o,h.get? b=some o->h'.get? b=some o)->tn i h'
 item:∀ (X:Cx),X.prog=P->X.w=w->X.K=K->X.calm=true->∀ (i:Nat) (pins:List (Addr × Obj)) (s:Shared) (σ:St) (H:Hp) (E:Value->Shared->Prop),Inv X pins σ H s->(∀ b∈fp,ZP X pins H b)->tn i s.heap->J.go i H ->
  wpAny (model P w) X.A (pyNext (.ref it)) (λ r s1=>∃ u,r=some u /\
   wpAny (model P w) X.A (letOwnedTupleGo tg (.ref it) u) (λ _ s2=>∃ x H',Inv X pins σ H' s2/\RelV x u/\J.yld i H x H'/\tn (i + 1) s2.heap/\∀ b∈fp,H' b=none) E s1) E s
 done:∀ (X:Cx),X.prog=P->X.w=w->X.K=K->X.calm=true->∀ (i:Nat) (pins:List (Addr × Obj)) (s:Shared) (σ:St) (H:Hp) (E:Value->Shared->Prop),Inv X pins σ H s->(∀ b∈fp,ZP X pins H b)->tn i s.heap->J.stop i H ->
  wpAny (model P w) X.A (pyNext (.ref it)) (λ r s1=>r=none/\Inv X pins σ H s1) E s
 self:∀ (A:Around) (i:Nat) (s:Shared) (Q:Value->Shared->Prop) (E:Value->Shared->Prop),tn i s.heap->Q (.ref it) s->wpAny (model P w) A (pyIter (.ref it)) Q E s
abbrev TI:=St->Hp->(It->Hp->Prop)->Prop
def PIE (X:Cx) (pins:List (Addr × Obj)) (σ:St) (tg:Expr) (R:It->Hp->Prop) (itv:Value) (s2:Shared):Prop :=
 ∃ (it:Addr) (fp:List Addr) (tn:Nat->Heap->Prop) (J:It) (H':Hp),itv=.ref it/\Inv X pins σ H' s2/\Turn X.prog X.w X.K tg J fp it tn/\tn 0 s2.heap/\(∀ b∈fp,ZP X pins H' b)/\R J H'
def PI (X:Cx) (tg iter:Expr) (wi:TI):Prop :=
 ∀ (pins:List (Addr × Obj)) (s:Shared) (σ:St) (H:Hp) (R:It->Hp->Prop),Inv X pins σ H s->wi σ H R ->
  wpAny (model X.prog X.w) X.A (eval iter X.env) (λ v s1=>wpAny (model X.prog X.w) X.A (pyIter v) (PIE X pins σ tg R) X.xe s1) X.xe s
theorem zaU {M:Model} {A:Around} {E:Value->Shared->Prop} {s:Shared} {tg:Expr} {it:Addr} {u:Value} {o:Obj} {n:String} {vs:Array Value} {Q:Unit->Shared->Prop} (ho:s.heap.get? it=some o) (hc:o.cls=.type n) (hd:o.data=.fields vs)
  (hn:["enumerate","zip","dict_itemiterator","dict_reverseitemiterator","odict_iterator","itertools.zip_longest","itertools.pairwise"].contains n=false) (hQ:Q () s):wpAny M A (letOwnedTupleGo tg (.ref it) u) Q E s:=by
 unfold letOwnedTupleGo;cases tg <;> first
  | exact aM hQ
  | (cases u <;> first
    | exact aM hQ
    | (refine af (wpAny_load ho ?_)
       rw [hc,hd];show wpAny M A (if (["enumerate","zip","dict_itemiterator","dict_reverseitemiterator","odict_iterator","itertools.zip_longest","itertools.pairwise"].contains n && vs[0]? == some (rawInt _))=true then _ else _) Q E s
       rw [aw (by intro h;rw [hn,Bool.false_and] at h;cases h)];exact aM hQ))
def Itl (K:PySem.W.Frag) (a:Addr):It :=
 ⟨λ i H=>∃ xs x,SqL K H a xs/\xs[i]?=some x,λ i H x H'=>H'=H/\∀ xs,SqL K H a xs->xs[i]?=some x,λ i H=>∃ xs,SqL K H a xs/\xs.length<=i⟩
def Itt (K:PySem.W.Frag) (a:Addr):It :=
 ⟨λ i H=>∃ xs x,SqT K H a xs/\xs[i]?=some x,λ i H x H'=>H'=H/\∀ xs,SqT K H a xs->xs[i]?=some x,λ i H=>∃ xs,SqT K H a xs/\xs.length<=i⟩
def Itr (lo:Int) (n:Nat):It:=⟨λ i _=>i < n,λ i H x H'=>H'=H/\x=.int (lo + i),λ i _=>n<=i⟩
theorem zbj {P:Program} {w:World} {K:PySem.W.Frag} {tg:Expr} (a it:Addr):Turn P w K tg (Itl K a) [it] it (λ i h=>h.IsListIter it a i) where
 mem:=by simp
 obj:=λ i h st b hb=>by
  have e:b=it:=by simpa using hb
  subst e;obtain ⟨o,e,c,d⟩:=st;exact ⟨o,e,λ v z=>by rw [d] at z;cases z⟩
 keep:=λ i h h' st k=>st.at λ o e=>k it (by simp) o e
 item:=by
  intro X hP hw hK hc i pins s σ H E I hf st hg;subst hP hw hK;obtain ⟨xs,x,hq,hx⟩:=hg;obtain ⟨its,rv,p,hz⟩:=I.list hq;obtain ⟨u,hu,ru⟩:=rv.get hx;obtain ⟨f0,f1,f2,f3,f4,f5⟩:=hf it (by simp);refine wpAny_pyNext_list_item st p.isList (x:=u) (by simpa using hu) λ h' st' sb=>?_;have I1:Inv X pins σ H { s with heap:=h' }:=I.turned (t':=s.toks) (λ b o hb e=>(sb.2 b hb).trans e) f0 f1 f3 f4 f5;obtain ⟨o,e,c,d⟩:=id st';exact ⟨u,rfl,zaU (s:={ s with heap:=h' }) e c d (by decide) ⟨x,H,I1,ru,⟨rfl,λ ys hy=>by rw [I.list_inj hy hq];exact hx⟩,st',λ b hb=>(hf b hb).1⟩⟩
 done:=by
  intro X hP hw hK hc i pins s σ H E I hf st hg;subst hP hw hK;obtain ⟨xs,hq,hx⟩:=hg;obtain ⟨its,rv,p,hz⟩:=I.list hq;obtain ⟨f0,f1,f2,f3,f4,f5⟩:=hf it (by simp);have hl:=rv.length;exact wpAny_pyNext_list_end (I.ok.hd hc) st p.isList (by simp;omega) λ h' eb=>⟨rfl,I.turned (t':=s.toks) (λ b o hb e=>eb b o hb e) f0 f1 f3 f4 f5⟩
 self:=λ _ _ _ _ _ st h=>wpAny_pyIter_listiter st h
theorem VC {P:Program} {w:World} {K:PySem.W.Frag} {tg:Expr} (a it:Addr):Turn P w K tg (Itt K a) [it] it (λ i h=>h.IsTupleIter it a i) where
 mem:=by simp
 obj:=λ i h st b hb=>by
  have e:b=it:=by simpa using hb
  subst e;obtain ⟨o,e,c,d⟩:=st;exact ⟨o,e,λ v z=>by rw [d] at z;cases z⟩
 keep:=λ i h h' st k=>st.at λ o e=>k it (by simp) o e
 item:=by
  intro X hP hw hK hc i pins s σ H E I hf st hg;subst hP hw hK;obtain ⟨xs,x,hq,hx⟩:=hg;obtain ⟨its,rv,p,hz⟩:=I.tuple hq;obtain ⟨u,hu,ru⟩:=rv.get hx;obtain ⟨f0,f1,f2,f3,f4,f5⟩:=hf it (by simp);refine wpAny_pyNext_tuple_item st (show s.heap.IsTuple a its.toArray from p) (x:=u) (by simpa using hu) λ h' st' sb=>?_;have I1:Inv X pins σ H { s with heap:=h' }:=I.turned (t':=s.toks) (λ b o hb e=>(sb.2 b hb).trans e) f0 f1 f3 f4 f5;obtain ⟨o,e,c,d⟩:=id st';exact ⟨u,rfl,zaU (s:={ s with heap:=h' }) e c d (by decide) ⟨x,H,I1,ru,⟨rfl,λ ys hy=>by rw [I.tuple_inj hy hq];exact hx⟩,st',λ b hb=>(hf b hb).1⟩⟩
 done:=by
  intro X hP hw hK hc i pins s σ H E I hf st hg;subst hP hw hK;obtain ⟨xs,hq,hx⟩:=hg;obtain ⟨its,rv,p,hz⟩:=I.tuple hq;obtain ⟨f0,f1,f2,f3,f4,f5⟩:=hf it (by simp);have hl:=rv.length;exact wpAny_pyNext_tuple_end (I.ok.hd hc) st (show s.heap.IsTuple a its.toArray from p) (by simp;omega) λ h' eb=>⟨rfl,I.turned (t':=s.toks) (λ b o hb e=>eb b o hb e) f0 f1 f3 f4 f5⟩
 self:=λ _ _ _ _ _ st h=>wpAny_pyIter_tupleiter st h
theorem VD {P:Program} {w:World} {K:PySem.W.Frag} {tg:Expr} (it:Addr) (lo:Int) (n:Nat):Turn P w K tg (Itr lo n) [it] it (λ i h=>IsRangeIter h it (lo + (i:Nat) * 1) ((n:Int) - (i:Nat)) 1) where
 mem:=by simp
 obj:=λ i h st b hb=>by
  have e:b=it:=by simpa using hb
  subst e;exact ⟨_,st,λ v z=>by
   have z':Data.fields _=Data.cell v:=z;cases z'⟩
 keep:=λ i h h' st k=>k it (by simp) _ st
 item:=by
  intro X hP hw hK hc i pins s σ H E I hf st hg;subst hP hw hK;obtain ⟨f0,f1,f2,f3,f4,f5⟩:=hf it (by simp);have W:=Walks.range (prog:=X.prog) (w:=X.w) (I.ok.hd hc) it lo 1 n;refine W.item i s _ _ hg st λ v h' tk hv st' kk=>?_;obtain ⟨t,rfl⟩:=hv;have I1:Inv X pins σ H { s with heap:=h',toks:=tk }:=I.turned (λ b o hb e=>kk b o (by simpa using hb) e) f0 f1 f3 f4 f5;refine ⟨_,rfl,zaU (s:={ s with heap:=h',toks:=tk }) (n:="range_iterator") st' rfl rfl (by decide) ⟨.int (lo + i),H,I1,⟨t,?_⟩,⟨rfl,rfl⟩,st',λ b hb=>(hf b hb).1⟩⟩;rw [Int.mul_one]
 done:=by
  intro X hP hw hK hc i pins s σ H E I hf st hg;subst hP hw hK;obtain ⟨f0,f1,f2,f3,f4,f5⟩:=hf it (by simp);exact wpAny_pyNext_range_end (I.ok.hd hc) st (by have:n<=i:=hg;omega) λ h' eb=>⟨rfl,I.turned (t':=s.toks) (λ b o hb e=>eb b o hb e) f0 f1 f3 f4 f5⟩
 self:=λ _ _ _ _ _ st h=>wpAny_pyIter_rangeiter st h
end L2
namespace L2
open PySem PySem.Spec PyProof.Rows
section
variable {X:Cx} {tg:Expr}
theorem zcQ {pins:List (Addr × Obj)} {σ:St} {H:Hp} {s:Shared} {R:It->Hp->Prop} {E:Value->Shared->Prop} {lo hi:Int} {t u v:Tok} {tk:Nat} (I:Inv X pins σ H s) (h1:-(2 ^ 62)<=lo) (h2:lo < 2 ^ 62) (h3:-(2 ^ 62)<=hi) (h4:hi < 2 ^ 62)
  (q:R (Itr lo (hi - lo).toNat) H):wpAny (model X.prog X.w) X.A (pyIter (.ref s.heap.objs.size)) (PIE X pins σ tg R) E { s with heap:=s.heap.push { cls:=.type "range",data:=.fields #[.int lo t,.int hi u,.int 1 v] },toks:=tk }:=by
 refine wpAny_pyIter_range (IsRange.new ..) (small_one h1 h2 h3 h4) ?_;have I1:Inv X pins σ H { s with heap:=s.heap.push { cls:=.type "range",data:=.fields #[.int lo t,.int hi u,.int 1 v] },toks:=tk }:=I.kept λ b o e=>ai _ e;refine ⟨(s.heap.push { cls:=.type "range",data:=.fields #[.int lo t,.int hi u,.int 1 v] }).objs.size,[(s.heap.push { cls:=.type "range",data:=.fields #[.int lo t,.int hi u,.int 1 v] }).objs.size],_,_,H,rfl,
  I1.kept (t':=tk) λ b o e=>ai _ e,VD _ lo (hi - lo).toNat,?_,λ b hb=>?_,q⟩
 ·have e1:lo + ((0:Nat):Int) * 1=lo:=by simp
  have e2:(((hi - lo).toNat:Nat):Int) - ((0:Nat):Int)=Builtin.Range.rangeSize lo hi 1:=by rw [rangeSize_one];split <;> omega
  show IsRangeIter _ _ (lo + ((0:Nat):Int) * 1) ((((hi - lo).toNat:Nat):Int) - ((0:Nat):Int)) 1
  rw [e1,e2];exact aD _ rfl
 ·have e:b=(s.heap.push { cls:=.type "range",data:=.fields #[.int lo t,.int hi u,.int 1 v] }).objs.size:=by simpa using hb
  subst e;exact I1.fpOk (av _) (I1.hok.fresh (av _))
def iRng1 (ta:TA):TI:=λ σ H R=>ta σ H λ vs H1=>lq vs λ v=>iq v λ j=>-(2 ^ 62)<=j/\j < 2 ^ 62/\R (Itr 0 j.toNat) H1
theorem zbI {a:Expr} {ta:TA} {p pos:Pos} (hg:Gl X "range") (hm:X.mg "range"=none) (ha:PA X [a] ta) (hs:starEach [a] X.env=[(false,eval a X.env)]:=by rfl):PI X tg (.Call (.Name "range" p) [a] [] pos) (iRng1 ta):=by
 intro pins s σ H R I h;refine Call_ (wc I hg hm boot_range (aU (wu (ha pos pins s σ H _ I h) λ us s1 vs H1 I1 r1 q1=>?_) hs rfl));obtain ⟨v,e,q0⟩:=zdd q1;clear q1;obtain ⟨j,e2,q1,q2,q⟩:=Zb q0;subst e2;subst e;cases r1 with
 | cons r rr =>
  cases rr;obtain ⟨t,rfl⟩:=r;exact call_range_1 (zcQ I1 (by omega) (by omega) q1 q2 (by simpa using q))
def tFor (wi:TI) (g:TG) (tb:TS):TS:=λ D σ H=>wi σ H λ J H1=>∃ W:Nat->Nat->St->Hp->Prop,(∃ m,W 0 m σ H1)/\∀ i m σ H,W i m σ H ->
 (J.stop i H/\D.nx σ H)\/(J.go i H/\∃ N:St->Hp->Prop,(∀ σ' H',N σ' H'->∃ m',m' < m/\W (i + 1) m' σ' H')/\∀ x H',J.yld i H x H'->g x σ H' λ σ2 H2=>tb { D with nx:=N,ct:=N,bk:=D.nx } σ2 H2)
def QP (fp:List Addr) (h:Heap):List (Addr × Obj):=fp.filterMap λ b=>(h.get? b).map λ o=>(b,o)
theorem wa {fp:List Addr} {h:Heap} {b:Addr} {o:Obj} (hb:b∈fp) (e:h.get? b=some o):(b,o)∈QP fp h:=eU.mpr ⟨b,hb,by rw [e];rfl⟩
theorem zbO {fp:List Addr} {h:Heap} {p:Addr × Obj} (hp:p∈QP fp h):p.1∈fp/\h.get? p.1=some p.2:=by
 obtain ⟨b,hb,e⟩:=eU.mp hp;cases q:h.get? b with
 | none=>rw [q] at e;cases e
 | some o =>
  rw [q] at e;have e':(b,o)=p:=aS e;subst e';exact ⟨hb,q⟩
theorem Inv.pinned {pins:List (Addr × Obj)} {σ:St} {H:Hp} {s:Shared} {fp:List Addr} (I:Inv X pins σ H s) (hf:∀ b∈fp,ZP X pins H b) (ho:∀ b∈fp,∃ o,s.heap.get? b=some o/\∀ v,o.data≠.cell v):Inv X (pins ++ QP fp s.heap) σ H s :=
 I.pins_of λ p hp=>(az.mp hp).elim (λ z=>I.pin p (aT _ z)) λ z=>by
  obtain ⟨hb,e⟩:=zbO z;obtain ⟨f0,f1,f2,_⟩:=hf p.1 hb;obtain ⟨o,e',d⟩:=ho p.1 hb;rw [e] at e';cases e';exact ⟨e,f0,f1,f2,d⟩
theorem Inv.unpinned {pins pl:List (Addr × Obj)} {σ:St} {H:Hp} {s:Shared} (I:Inv X (pins ++ pl) σ H s):Inv X pins σ H s:=I.pins_of λ p hp=>I.pin p (aT _ (aZ _ hp))
theorem qh {iter:Expr} {body:List Stmt} {wi:TI} {g:TG} {tb:TS} {pos:Pos} (hp:PassesOwn (model X.prog X.w) X.A X.env X.xe) (hc:X.calm=true) (hi:PI X tg iter wi) (hg:PG X tg g) (hb:PSs X body tb)
  (hs:∀ x,foldedSetIterable iter X.env x=pure x:=by intro _;rfl):PS X (.For tg iter body [] pos) (tFor wi g tb):=by
 intro pins s σ H D I h;refine wpAny_For (thn (hi pins s σ H _ I h) λ v s1 h1=>thn h1 λ itv s2 h2=>?_) hs;obtain ⟨it,fp,tn,J,H2,e,I2,T,st2,f2,W,⟨m0,w0⟩,turn⟩:=h2;subst e;have stat:∀ {H':Hp},(∀ b∈fp,H' b=none)->∀ b∈fp,ZP X pins H' b:=λ hn b hb=>⟨hn b hb,(f2 b hb).2⟩;refine codeAny_forLoop_any (λ n s'=>∃ i σ' H',Inv X pins σ' H' s'/\tn i s'.heap/\(∀ b∈fp,H' b=none)/\W i n σ' H') ?_ m0 ⟨0,σ,H2,I2,st2,λ b hb=>(f2 b hb).1,w0⟩;rintro n s3 ⟨i,σ3,H3,I3,st3,fr3,w3⟩;rcases turn i n σ3 H3 w3 with ⟨stop,qn⟩|⟨go,N,hN,step⟩
 ·refine bV hp (thn (T.done X rfl rfl rfl hc i pins s3 σ3 H3 X.xe I3 (stat fr3) st3 stop) λ r s4 ⟨hr,I4⟩=>?_);subst hr;exact de ⟨σ3,H3,I4,qn⟩
 ·refine bV hp (thn (T.item X rfl rfl rfl hc i pins s3 σ3 H3 X.xe I3 (stat fr3) st3 go) λ r s4 ⟨u,hr,h4⟩=>?_);subst hr;refine bV hp (thn h4 λ _ s5 ⟨x,H5,I5,r5,y5,st5,fr5⟩=>?_);have I5':=I5.pinned (stat fr5) (T.obj _ _ st5);refine bV hp (thn (hg _ s5 σ3 H5 x u _ I5' r5 (step x H5 y5)) λ _ s6 ⟨σ6,H6,I6,q6⟩=>?_);refine bV hp (thn (hb _ s6 σ6 H6 _ I6 q6) λ f s7 q7=>?_);have again:∀ {σ7:St} {H7:Hp},Inv X (pins ++ QP fp s5.heap) σ7 H7 s7->N σ7 H7->∃ m,m < n/\∃ i σ' H',Inv X pins σ' H' s7/\tn i s7.heap/\(∀ b∈fp,H' b=none)/\W i m σ' H':=λ {σ7 H7} I7 n7=>by
   obtain ⟨m',hm,w7⟩:=hN σ7 H7 n7;refine ⟨m',hm,i + 1,σ7,H7,I7.unpinned,T.keep _ _ _ st5 λ b hb o e=>(I7.pin (b,o) (aT _ (aT _ (wa hb e)))).1,λ b hb=>?_,w7⟩;obtain ⟨o,e,d⟩:=T.obj _ _ st5 b hb;exact (I7.pin (b,o) (aT _ (aT _ (wa hb e)))).2.1
  cases f with
  | next=>obtain ⟨σ7,H7,I7,n7⟩:=q7;exact again I7 n7
  | cont=>obtain ⟨σ7,H7,I7,n7⟩:=q7;exact again I7 n7
  | brk=>obtain ⟨σ7,H7,I7,q7⟩:=q7;exact ⟨σ7,H7,I7.unpinned,q7⟩
  | ret v=>obtain ⟨x7,σ7,H7,I7,r7,q7⟩:=q7;exact ⟨x7,σ7,H7,I7.unpinned,r7,q7⟩
end
end L2
namespace L2
open PySem PySem.Spec PyProof.Rows
abbrev R2:=V->V->Hp->VK->Prop
def OpR (X:Cx) (f:Value->Value->Sem Value) (r:R2):Prop :=
 ∀ (pins:List (Addr × Obj)) (s:Shared) (σ:St) (H:Hp) (x y:V) (v u:Value) (Q:VK),Inv X pins σ H s->RelV x v->RelV y u->r x y H Q ->
  wpAny (model X.prog X.w) X.A (f v u) (EP X pins σ Q) X.xe s
def UnR (X:Cx) (f:Value->Sem Value) (r:V->Hp->VK->Prop):Prop :=
 ∀ (pins:List (Addr × Obj)) (s:Shared) (σ:St) (H:Hp) (x:V) (v:Value) (Q:VK),Inv X pins σ H s->RelV x v->r x H Q ->
  wpAny (model X.prog X.w) X.A (f v) (EP X pins σ Q) X.xe s
def CallR (X:Cx) (f:Value) (r:List V->Hp->VK->Prop):Prop :=
 ∀ (pins:List (Addr × Obj)) (s:Shared) (σ:St) (H:Hp) (xs:List V) (us:List Value) (Q:VK),Inv X pins σ H s->Vals xs us->r xs H Q ->
  wpAny (model X.prog X.w) X.A (call f us) (EP X pins σ Q) X.xe s
def zgE (X:Cx) (r:V->Hp->(Bool->Hp->Prop)->Prop):Prop :=
 ∀ (pins:List (Addr × Obj)) (s:Shared) (σ:St) (H:Hp) (x:V) (v:Value) (Q:Bool->Hp->Prop),Inv X pins σ H s->RelV x v->r x H Q ->
  wpAny (model X.prog X.w) X.A (truthy v) (TP X pins σ Q) X.xe s
def tOp (r:R2) (ta tb:TE):TE:=λ σ H Q=>ta σ H λ x H1=>tb σ H1 λ y H2=>r x y H2 Q
def tUn (r:V->Hp->VK->Prop) (ta:TE):TE:=λ σ H Q=>ta σ H λ x H1=>r x H1 Q
def rI (C:Int->Int->Prop) (g:Int->Int->V):R2:=λ x y H Q=>iq x λ i=>iq y λ j=>C i j/\Q (g i j) H
def rI0 (g:Int->Int->V):R2:=λ x y H Q=>iq x λ i=>iq y λ j=>Q (g i j) H
def rU (g:Int->V):V->Hp->VK->Prop:=λ x H Q=>iq x λ i=>Q (g i) H
section
variable {X:Cx} {a b c:Expr} {ta tb tc:TE} {pos:Pos}
theorem zfM (ha:PE X a ta) (hb:PE X b tb) {pins:List (Addr × Obj)} {s:Shared} {σ:St} {H:Hp} {R:V->V->Hp->Prop} (I:Inv X pins σ H s)
  (h:ta σ H λ x H1=>tb σ H1 λ y H2=>R x y H2) {Q:Value->Shared->Prop} {f:Value->Value->Sem Value}
  (hf:∀ v u s2 x y H2,Inv X pins σ H2 s2->RelV x v->RelV y u->R x y H2->wpAny (model X.prog X.w) X.A (f v u) Q X.xe s2) :
  wpAny (model X.prog X.w) X.A (eval a X.env) (λ v s₁=>wpAny (model X.prog X.w) X.A (eval b X.env) (λ u s₂=>wpAny (model X.prog X.w) X.A (f v u) Q X.xe s₂) X.xe s₁) X.xe s:=by
 refine qY (ha pins s σ H _ I h) λ v s1 x H1 I1 r1 q1=>?_;refine qY (hb pins s1 σ H1 _ I1 q1) λ u s2 y H2 I2 r2 q2=>?_;exact hf v u s2 x y H2 I2 r1 r2 q2
theorem zq {op:Operator} {r:R2} (ho:OpR X (binaryOp op) r) (ha:PE X a ta) (hb:PE X b tb):PE X (.BinOp a op b pos) (tOp r ta tb):=by
 intro pins s σ H Q I h;exact wpAny_BinOp (zfM ha hb I h λ v u s2 x y H2 I2 rx ry q=>ho pins s2 σ H2 x y v u Q I2 rx ry q)
theorem w6 {op:UnaryOp} {r:V->Hp->VK->Prop} (ho:UnR X (unaryOp op) r) (ha:PE X a ta):PE X (.UnaryOp op a pos) (tUn r ta):=by
 intro pins s σ H Q I h;exact UnaryOp_ (qY (ha pins s σ H _ I h) λ v s1 x H1 I1 r1 q1=>ho pins s1 σ H1 x v Q I1 r1 q1)
theorem opI {f:Value->Value->Sem Value} {C:Int->Int->Prop} {g:Int->Int->Int}
  (rule:∀ (i j:Int) (t u:Tok) (s:Shared) (Q:Value->Shared->Prop) (E:Value->Shared->Prop),C i j->Q (.int (g i j) s.toks) { s with toks:=s.toks + 1 }->wpAny (model X.prog X.w) X.A (f (.int i t) (.int j u)) Q E s) :
  OpR X f (rI C λ i j=>.int (g i j)):=by
 intro pins s σ H x y v u Q I rx ry h;obtain ⟨i,j,rfl,rfl,hc,q⟩:=Ja h;obtain ⟨t,rfl⟩:=rx;obtain ⟨t',rfl⟩:=ry;exact rule i j t t' s _ _ hc ⟨.int (g i j),H,I.tok _,⟨_,rfl⟩,q⟩
theorem zf7 {f:Value->Value->Sem Value} {g:Int->Int->Int}
  (rule:∀ (i j:Int) (t u:Tok) (s:Shared) (Q:Value->Shared->Prop) (E:Value->Shared->Prop),Q (.int (g i j) s.toks) { s with toks:=s.toks + 1 }->wpAny (model X.prog X.w) X.A (f (.int i t) (.int j u)) Q E s) :
  OpR X f (rI0 λ i j=>.int (g i j)):=by
 intro pins s σ H x y v u Q I rx ry h;obtain ⟨i,j,rfl,rfl,q⟩:=Ja h;obtain ⟨t,rfl⟩:=rx;obtain ⟨t',rfl⟩:=ry;exact rule i j t t' s _ _ ⟨.int (g i j),H,I.tok _,⟨_,rfl⟩,q⟩
theorem zfh {f:Value->Value->Sem Value} {g:Int->Int->Bool}
  (rule:∀ (i j:Int) (t u:Tok) (s:Shared) (Q:Value->Shared->Prop) (E:Value->Shared->Prop),Q (.bool (g i j)) s->wpAny (model X.prog X.w) X.A (f (.int i t) (.int j u)) Q E s) :
  OpR X f (rI0 λ i j=>.bl (g i j)):=by
 intro pins s σ H x y v u Q I rx ry h;obtain ⟨i,j,rfl,rfl,q⟩:=Ja h;obtain ⟨t,rfl⟩:=rx;obtain ⟨t',rfl⟩:=ry;exact rule i j t t' s _ _ ⟨.bl (g i j),H,I,rfl,q⟩
def zgG (i j:Int):Prop:=0 < j/\j < 1073741824
def zgr (i j:Int):Prop:=0<=j/\j<=1000000/\i.natAbs < 2 ^ 64
def CMul (i j:Int):Prop:=(-(2 ^ 64) < i/\i < 2 ^ 64)\/(-(2 ^ 64) < j/\j < 2 ^ 64)
theorem CMul.ok {i j:Int} (h:CMul i j):IntMulOk i j:=by
 rcases h with ⟨h1,h2⟩|⟨h1,h2⟩
 ·exact .of_left (intBits_le_64 h1 h2)
 ·exact .of_right (intBits_le_64 h1 h2)
theorem op_add:OpR X (binaryOp .Add) (rI0 λ i j=>.int (i + j)):=zf7 λ _ _ _ _ _ _ _ q=>add_int q
theorem XH:OpR X (binaryOp .Sub) (rI0 λ i j=>.int (i - j)):=zf7 λ _ _ _ _ _ _ _ q=>sub_int q
theorem zed:OpR X (binaryOp .FloorDiv) (rI zgG λ i j=>.int (i / j)):=opI λ i j _ _ _ _ _ hc q=>by
 have h1:(0:Int) < j:=hc.1;have h2:j < 1073741824:=hc.2;exact floordiv_int (by omega) (by rw [dP i (by omega)];exact q) (.inl (ee (by omega)))
theorem qt:OpR X (binaryOp .Mod) (rI (λ _ j=>0 < j) λ i j=>.int (i % j)):=opI λ i j _ _ _ _ _ hc q=>by
 have h1:(0:Int) < j:=hc;exact mod_int' (by omega) (by rw [Int.fmod_eq_emod_of_nonneg i (by omega)];exact q)
theorem zfg:OpR X (binaryOp .Pow) (rI zgr λ i j=>.int (i ^ j.toNat)):=opI λ _ _ _ _ _ _ _ hc q=>pow_int_small hc.1 hc.2.1 hc.2.2 q
theorem unI {f:Value->Sem Value} {g:Int->Int}
  (rule:∀ (i:Int) (t:Tok) (s:Shared) (Q:Value->Shared->Prop) (E:Value->Shared->Prop),Q (.int (g i) s.toks) { s with toks:=s.toks + 1 }->wpAny (model X.prog X.w) X.A (f (.int i t)) Q E s) :
  UnR X f (rU λ i=>.int (g i)):=by
 intro pins s σ H x v Q I rx h;obtain ⟨i,rfl,q⟩:=Zb h;obtain ⟨t,rfl⟩:=rx;exact rule i t s _ _ ⟨.int (g i),H,I.tok _,⟨_,rfl⟩,q⟩
theorem xu:UnR X (unaryOp .USub) (rU λ i=>.int (-i)):=unI λ _ _ _ _ _ q=>neg_int q
end
def zf1:V->V->Bool
 | .non,.non=>true | .non,.int _=>true | .int _,.non=>true | .non,.bl _=>true | .bl _,.non=>true | .non,.str _=>true | .str _,.non=>true
 | .int _,.int _=>true | .bl _,.bl _=>true | .str _,.str _=>true | .byt _,.byt _=>true
 | .int _,.str _=>true | .str _,.int _=>true | .bl _,.str _=>true | .str _,.bl _=>true
 | _,_=>false
def rEq:R2:=λ x y H Q=>zf1 x y=true/\Q (.bl (decide (x=y))) H
def rNe:R2:=λ x y H Q=>zf1 x y=true/\Q (.bl (!decide (x=y))) H
theorem za4 {i j:Int}:decide (V.int i=V.int j)=(i == j):=by
 rw [cX];simp
theorem zdz {i j:Bool}:decide (V.bl i=V.bl j)=(i == j):=by
 rw [cX];simp
theorem za3 {i j:Str}:decide (V.str i=V.str j)=(i == j):=by
 rw [cX];simp
theorem za5 {i j:Array UInt8}:decide (V.byt i=V.byt j)=(i.toList == j.toList):=by
 rw [cX];cases i;cases j;simp
section
variable {X:Cx} {a b c:Expr} {ta tb tc:TE} {pos:Pos}
theorem zU {pins:List (Addr × Obj)} {σ:St} {H:Hp} {s:Shared} {Q:VK} {k k':Bool} (I:Inv X pins σ H s) (q:Q (.bl k) H) (e:k=k'):EP X pins σ Q (.bool k') s:=by
 subst e;exact ⟨.bl k,H,I,rfl,q⟩
theorem op_eq:OpR X (compareOp .Eq) rEq:=by
 intro pins s σ H x y v u Q I rx ry h;obtain ⟨hs,q⟩:=h;cases x with
 | non =>
  cases rx;cases y with
  | non=>cases ry;exact PySem.EqNone.eq_none_none (zU I q (by simp))
  | bl j=>cases ry;exact PySem.EqNone.eq_none_bool (zU I q (by simp))
  | int j=>obtain ⟨t',rfl⟩:=ry;exact PySem.EqNone.eq_none_int (zU I q (by simp))
  | str j=>obtain ⟨t',rfl⟩:=ry;exact PySem.EqNone.eq_none_str (zU I q (by simp))
  | _=>exact absurd (show false=true from hs) aC
 | bl i =>
  cases rx;cases y with
  | non=>cases ry;exact PySem.EqNone.eq_bool_none (zU I q (by simp))
  | bl j=>cases ry;exact eq_bool (zU I q zdz)
  | str j=>obtain ⟨t',rfl⟩:=ry;exact PySem.EqMixed.eq_bool_str (zU I q (by simp))
  | _=>exact absurd (show false=true from hs) aC
 | int i =>
  obtain ⟨t,rfl⟩:=rx;cases y with
  | non=>cases ry;exact PySem.EqNone.eq_int_none (zU I q (by simp))
  | int j=>obtain ⟨t',rfl⟩:=ry;exact eq_int (zU I q za4)
  | str j=>obtain ⟨t',rfl⟩:=ry;exact PySem.EqMixed.eq_int_str (zU I q (by simp))
  | _=>exact absurd (show false=true from hs) aC
 | str i =>
  obtain ⟨t,rfl⟩:=rx;cases y with
  | non=>cases ry;exact PySem.EqNone.eq_str_none (zU I q (by simp))
  | bl j=>cases ry;exact PySem.EqMixed.eq_str_bool (zU I q (by simp))
  | int j=>obtain ⟨t',rfl⟩:=ry;exact PySem.EqMixed.eq_str_int (zU I q (by simp))
  | str j=>obtain ⟨t',rfl⟩:=ry;exact eq_str (zU I q za3)
  | _=>exact absurd (show false=true from hs) aC
 | byt i =>
  obtain ⟨t,rfl⟩:=rx;cases y with
  | byt j=>obtain ⟨t',rfl⟩:=ry;exact PySem.W.eq_bytes (zU I q za5)
  | _=>exact absurd (show false=true from hs) aC
 | _=>cases y <;> exact absurd (show false=true from hs) aC
theorem op_ne:OpR X (compareOp .NotEq) rNe:=by
 intro pins s σ H x y v u Q I rx ry h;obtain ⟨hs,q⟩:=h;cases x with
 | non =>
  cases rx;cases y with
  | non=>cases ry;exact PySem.EqNone.ne_none_none (zU I q (by simp))
  | bl j=>cases ry;exact PySem.EqNone.ne_none_bool (zU I q (by simp))
  | int j=>obtain ⟨t',rfl⟩:=ry;exact PySem.EqNone.ne_none_int (zU I q (by simp))
  | str j=>obtain ⟨t',rfl⟩:=ry;exact PySem.EqNone.ne_none_str (zU I q (by simp))
  | _=>exact absurd (show false=true from hs) aC
 | bl i =>
  cases rx;cases y with
  | non=>cases ry;exact PySem.EqNone.ne_bool_none (zU I q (by simp))
  | bl j=>cases ry;exact ne_bool (zU I q (bS not zdz))
  | str j=>obtain ⟨t',rfl⟩:=ry;exact PySem.EqMixed.ne_bool_str (zU I q (by simp))
  | _=>exact absurd (show false=true from hs) aC
 | int i =>
  obtain ⟨t,rfl⟩:=rx;cases y with
  | non=>cases ry;exact PySem.EqNone.ne_int_none (zU I q (by simp))
  | int j=>obtain ⟨t',rfl⟩:=ry;exact ne_int (zU I q (bS not za4))
  | str j=>obtain ⟨t',rfl⟩:=ry;exact PySem.EqMixed.ne_int_str (zU I q (by simp))
  | _=>exact absurd (show false=true from hs) aC
 | str i =>
  obtain ⟨t,rfl⟩:=rx;cases y with
  | non=>cases ry;exact PySem.EqNone.ne_str_none (zU I q (by simp))
  | bl j=>cases ry;exact PySem.EqMixed.ne_str_bool (zU I q (by simp))
  | int j=>obtain ⟨t',rfl⟩:=ry;exact PySem.EqMixed.ne_str_int (zU I q (by simp))
  | str j=>obtain ⟨t',rfl⟩:=ry;exact ne_str (zU I q (bS not za3))
  | _=>exact absurd (show false=true from hs) aC
 | byt i =>
  obtain ⟨t,rfl⟩:=rx;cases y with
  | byt j=>obtain ⟨t',rfl⟩:=ry;exact PySem.W.ne_bytes (zU I q (bS not za5))
  | _=>exact absurd (show false=true from hs) aC
 | _=>cases y <;> exact absurd (show false=true from hs) aC
theorem op_lt:OpR X (compareOp .Lt) (rI0 λ i j=>.bl (decide (i < j))):=zfh λ _ _ _ _ _ _ _ q=>lt_int q
theorem op_le:OpR X (compareOp .LtE) (rI0 λ i j=>.bl (decide (i<=j))):=zfh λ _ _ _ _ _ _ _ q=>le_int q
theorem op_gt:OpR X (compareOp .Gt) (rI0 λ i j=>.bl (decide (j < i))):=zfh λ _ _ _ _ _ _ _ q=>gt_int q
theorem op_isN:OpR X (compareOp .Is) (λ x y H Q=>nq y (Q (.bl (decide (x=.non))) H)):=by
 intro pins s σ H x y v u Q I rx ry h;obtain ⟨rfl,q⟩:=zaO h;cases ry;refine is_none_gen (zU I q ?_);cases x <;> first
  | (cases rx;rfl)
  | (obtain ⟨t,rfl⟩:=rx;rfl)
theorem op_notN:OpR X (compareOp .IsNot) (λ x y H Q=>nq y (Q (.bl (!decide (x=.non))) H)):=by
 intro pins s σ H x y v u Q I rx ry h;obtain ⟨rfl,q⟩:=zaO h;cases ry;refine isnot_none_gen (zU I q ?_);cases x <;> first
  | (cases rx;rfl)
  | (obtain ⟨t,rfl⟩:=rx;rfl)
theorem OpR.or {f:Value->Value->Sem Value} {r r':R2} (h:OpR X f r) (h':OpR X f r'):OpR X f (λ x y H Q=>r x y H Q\/r' x y H Q):=by
 intro pins s σ H x y v u Q I rx ry q;rcases q with q|q
 ·exact h pins s σ H x y v u Q I rx ry q
 ·exact h' pins s σ H x y v u Q I rx ry q
theorem zr (b:Expr) {op:CmpOp} (h:op≠.In:=by decide) (h2:op≠.NotIn:=by decide):behindInMarks op b=false:=by
 have e1:(op == CmpOp.In)=false:=by cases op <;> first|rfl|exact absurd rfl h
 have e2:(op == CmpOp.NotIn)=false:=by cases op <;> first|rfl|exact absurd rfl h2
 cases b <;> simp [behindInMarks,e1,e2]
theorem vX {op:CmpOp} {r:R2} (ho:OpR X (compareOp op) r) (ha:PE X a ta) (hb:PE X b tb) (hm:behindInMarks op b=false):PE X (.Compare a [op] [b] pos) (tOp r ta tb):=by
 intro pins s σ H Q I h;exact wpAny_Compare1 (zfM ha hb I h λ v u s2 x y H2 I2 rx ry q=>ho pins s2 σ H2 x y v u Q I2 rx ry q) hm
def tTest (t:TE):TT:=λ σ H Q=>t σ H λ x H'=>bq x λ k=>Q k H'
theorem zm {op:CmpOp} {r:R2} (ho:OpR X (compareOp op) r) (ha:PE X a ta) (hb:PE X b tb) (hm:behindInMarks op b=false):PT X (.Compare a [op] [b] pos) (tTest (tOp r ta tb)):=by
 intro pins s σ H Q I h;refine wpAny_isTrue_Compare1 (qY (ha pins s σ H _ I h) λ v s1 x H1 I1 r1 q1=>qY (hb pins s1 σ H1 _ I1 q1) λ u s2 y H2 I2 r2 q2 =>
  thn (ho pins s2 σ H2 x y v u _ I2 r1 r2 q2) λ c s3 ⟨z,H3,I3,r3,q3⟩=>?_) hm
 obtain ⟨k,e,q3⟩:=zbe q3;subst e;cases r3;exact cB ⟨H3,I3,q3⟩
def tChain (r r':R2) (ta tb tc:TE):TE:=λ σ H Q=>ta σ H λ x H1=>tb σ H1 λ y H2=>r x y H2 λ z H3=>bq z λ k =>
 (if k=true then tc σ H3 λ w' H4=>r' y w' H4 Q else Q (.bl false) H3)
theorem jF {op op':CmpOp} {r r':R2} (ho:OpR X (compareOp op) r) (ho':OpR X (compareOp op') r') (ha:PE X a ta) (hb:PE X b tb) (hc:PE X c tc)
  (hm:lastMarks [op,op'] [b,c]=false:=by with_unfolding_all rfl):PT X (.Compare a [op,op'] [b,c] pos) (tTest (tChain r r' ta tb tc)):=by
 intro pins s σ H Q I h;refine isTrue_chain (qY (ha pins s σ H _ I h) λ v s1 x H1 I1 r1 q1=>test_link (qY (hb pins s1 σ H1 _ I1 q1) λ u s2 y H2 I2 r2 q2 =>
  thn (ho pins s2 σ H2 x y v u _ I2 r1 r2 q2) λ d s3 ⟨z,H3,I3,r3,q3⟩=>?_)) hm
 obtain ⟨k,e,q3⟩:=zbe q3;subst e;cases r3;refine cB ?_;cases k with
 | false =>
  obtain ⟨k',e',q'⟩:=zbe q3;cases e';exact ite_ff ⟨H3,I3,q'⟩
 | true =>
  refine ite_tt (test_last (thn (hc pins s3 σ H3 _ I3 q3) λ w' s4 ⟨z',H4,I4,r4,q4⟩=>thn (ho' pins s4 σ H4 y z' u w' _ I4 r2 r4 q4) λ d' s5 ⟨z2,H5,I5,r5,q5⟩=>?_));obtain ⟨k2,e2,q5⟩:=zbe q5;subst e2;cases r5;exact cB ⟨H5,I5,q5⟩
def zcl (K:PySem.W.Frag) (x:V) (H:Hp) (k:Bool):Prop :=
 match x with
 | .non=>k=false
 | .bl b=>k=b
 | .int i=>k=(i != 0)
 | .str y=>y.length<=sizeLine/\k=((y.length:Int) != 0)
 | .byt y=>y.size<=sizeLine/\k=((y.size:Int) != 0)
 | .ref p=>(∃ xs,SqL K H p xs/\k=!xs.isEmpty)\/(∃ xs,SqT K H p xs/\k=!xs.isEmpty)\/∃ kvs,H p=some (.dK kvs)/\k=!kvs.isEmpty
 | _=>False
theorem zaj {κ:Type} {kvs:List (κ × V)} {vs:List (κ × Value)} (r:KV kvs vs):(!vs.isEmpty)=!kvs.isEmpty:=by
 cases r <;> rfl
theorem Q9 {xs:List V} {its:List Value} (r:Vals xs its):(!its.toArray.isEmpty)=!xs.isEmpty:=by
 cases r <;> simp
theorem vD:(sizeLine:Nat) < 2 ^ 63:=by rw [dZ];decide
theorem zeV:zgE X (λ x H Q=>∃ k,zcl X.K x H k/\Q k H):=by
 intro pins s σ H x v Q I rx h;obtain ⟨k,e,q⟩:=h;have hl:=vD;have hs:sizeLine=16777216:=dZ;cases x with
 | non =>
  cases rx;have e':k=false:=e;subst e';exact truthy_none ⟨H,I,q⟩
 | bl b =>
  cases rx;have e':k=b:=e;subst e';exact cB ⟨H,I,q⟩
 | int i =>
  obtain ⟨t,rfl⟩:=rx;have e':k=(i != 0):=e;subst e';exact PySem.P.truthy_int ⟨H,I,q⟩
 | str y =>
  obtain ⟨t,rfl⟩:=rx;obtain ⟨hy,e'⟩:y.length<=sizeLine/\k=((y.length:Int) != 0):=e;subst e';exact PySem.P.truthy_str (by omega) ⟨H,I.tok _,q⟩
 | byt y =>
  obtain ⟨t,rfl⟩:=rx;obtain ⟨hy,e'⟩:y.size<=sizeLine/\k=((y.size:Int) != 0):=e;subst e';exact PySem.W.truthy_bytes (by omega) ⟨H,I.tok _,q⟩
 | ref p =>
  cases rx;have e':(∃ xs,SqL X.K H p xs/\k=!xs.isEmpty)\/(∃ xs,SqT X.K H p xs/\k=!xs.isEmpty)\/∃ kvs,H p=some (.dK kvs)/\k=!kvs.isEmpty:=e;rcases e' with ⟨xs,hx,e'⟩|⟨xs,hx,e'⟩|⟨kvs,hx,e'⟩
  ·subst e';obtain ⟨its,r,pl,hz⟩:=I.list hx;have hlen:=r.length;exact wpAny_truthy_list pl.isList (by simp only [au];omega) ⟨H,I.tok _,by rw [Q9 r];exact q⟩
  ·subst e';obtain ⟨its,r,pl,hz⟩:=I.tuple hx;have hlen:=r.length;exact truthy_tuple pl (by simp only [au];omega) ⟨H,I.tok _,by rw [Q9 r];exact q⟩
  ·subst e';obtain ⟨hz,hS,vs,r,m⟩:kvs.length<=sizeLine/\(p == sysModules)=false/\∃ vs,KV kvs vs/\s.heap.DictOf (XR X.prog X.w) p vs:=I.hok p _ hx;have hlen:kvs.length=vs.length:=Paired.length r;exact wpAny_truthy_dict hS m (by omega) ⟨H,I.tok _,by rw [zaj r];exact q⟩
 | _=>exact (show False from e).elim
def trq (K:PySem.W.Frag) (x:V) (H:Hp) (Q:Bool->Hp->Prop):Prop :=
 match x with
 | .bl b=>Q b H
 | x=>∃ k,zcl K x H k/\Q k H
theorem zeW {K:PySem.W.Frag} {x:V} {H:Hp} {Q:Bool->Hp->Prop} (h:trq K x H Q):∃ k,zcl K x H k/\Q k H:=by
 cases x <;> first|exact ⟨_,rfl,h⟩|exact h
def tTru (K:PySem.W.Frag) (ta:TE):TT:=λ σ H Q=>ta σ H λ x H'=>trq K x H' Q
theorem qf (ha:PE X a ta) (he:∀ whole,isTrue a X.env whole=(do let v <- whole;standAt a.pos;holding [v] (truthy v))) :
  PT X a (tTru X.K ta):=by
 intro pins s σ H Q I h;exact isTrue_plain (qY (ha pins s σ H _ I h) λ v s1 x H1 I1 r1 q1=>zeV pins s1 σ H1 x v Q I1 r1 (zeW q1)) (he _)
theorem op_add_str:OpR X (binaryOp .Add) (λ x y H Q=>∃ i j,x=.str i/\y=.str j/\i.length + j.length<=sizeLine/\Q (.str (i ++ j)) H):=by
 intro pins s σ H x y v u Q I rx ry h;obtain ⟨i,j,rfl,rfl,hz,q⟩:=h;obtain ⟨t,rfl⟩:=rx;obtain ⟨t',rfl⟩:=ry;exact add_str (λ t' tk=>⟨.str (i ++ j),H,I.tok _,⟨_,rfl⟩,q⟩) hz
theorem ZR {x:V} {us:List Value} (r:Vals [x] us):∃ u,us=[u]/\RelV x u:=by
 cases r with
 | cons r1 r2=>cases r2;exact ⟨_,rfl,r1⟩
theorem zeG {x y:V} {us:List Value} (r:Vals [x,y] us):∃ u w',us=[u,w']/\RelV x u/\RelV y w':=by
 cases r with
 | cons r1 r2 =>
  cases r2 with
  | cons r3 r4=>cases r4;exact ⟨_,_,rfl,r1,r3⟩
theorem ZN (hc:X.calm=true):CallR X (.builtin "max") (λ xs H Q=>∃ i j,xs=[.int i,.int j]/\Q (.int (if j > i then j else i)) H):=by
 intro pins s σ H xs us Q I r h;obtain ⟨i,j,rfl,q⟩:=h;obtain ⟨u,w',rfl,⟨t,rfl⟩,⟨t',rfl⟩⟩:=zeG r;refine max_two_ints (I.ok.hd hc) λ h' tk k=>⟨_,H,I.kept k,?_,q⟩;by_cases hj:j > i
 ·rw [aA hj,aA hj];exact ⟨_,rfl⟩
 ·rw [aw hj,aw hj];exact ⟨_,rfl⟩
def zgp (K:PySem.W.Frag) (x:V) (H:Hp) (n:Nat):Prop :=
 match x with
 | .str y=>y.length<=sizeLine/\n=y.length
 | .byt y=>y.size<=sizeLine/\n=y.size
 | .ref p=>(∃ xs,SqL K H p xs/\n=xs.length)\/∃ xs,SqT K H p xs/\n=xs.length
 | _=>False
theorem zdD:CallR X (.builtin "len") (λ xs H Q=>∃ x n,xs=[x]/\zgp X.K x H n/\Q (.int n) H):=by
 intro pins s σ H xs us Q I r h;obtain ⟨x,n,rfl,e,q⟩:=h;obtain ⟨u,rfl,rx⟩:=ZR r;have hl:=vD;have hs:sizeLine=16777216:=dZ;cases x with
 | str y =>
  obtain ⟨t,rfl⟩:=rx;obtain ⟨hy,e'⟩:y.length<=sizeLine/\n=y.length:=e;subst e';exact len_str (by omega) ⟨.int _,H,I.tok _,⟨_,rfl⟩,q⟩
 | byt y =>
  obtain ⟨t,rfl⟩:=rx;obtain ⟨hy,e'⟩:y.size<=sizeLine/\n=y.size:=e;subst e';exact PySem.W.len_bytes (by omega) ⟨.int _,H,I.tok _,⟨_,rfl⟩,q⟩
 | ref p =>
  cases rx;have e':(∃ xs,SqL X.K H p xs/\n=xs.length)\/∃ xs,SqT X.K H p xs/\n=xs.length:=e;rcases e' with ⟨xs,hx,e'⟩|⟨xs,hx,e'⟩
  ·subst e';obtain ⟨its,r',pl,hz⟩:=I.list hx;have hlen:=r'.length;exact Calls.call_len_list pl.isList (by simp only [au];omega) ⟨.int xs.length,H,I.tok _,⟨_,by simp only [au];rw [hlen]⟩,q⟩
  ·subst e';obtain ⟨its,r',pl,hz⟩:=I.tuple hx;have hlen:=r'.length;exact len_tuple pl (by simp only [au];omega) ⟨.int xs.length,H,I.tok _,⟨_,by simp only [au];rw [hlen]⟩,q⟩
 | _=>exact (show False from e).elim
end
end L2
namespace L2
open PySem PySem.Spec PyProof.Rows
structure ObjM (h:Heap) (x dx C:Addr) (mA:Str->Option Value):Prop where
 obj:h.get? x=some (PySem.W.instObj C dx)
 ns:h.Ns1 dx mA
 ne:dx≠x
theorem zbT {h:Heap} {dx:Addr} {mA:Str->Option Value} (n:h.Ns1 dx mA):∃ od,h.get? dx=some od/\∀ name,PySem.W.lookIn name od=some (mA name):=by
 obtain ⟨o,es,ep,ho,hd,hk,_,hm⟩:=n;refine ⟨o,ho,λ name=>?_⟩;have e:=hm name;unfold nsFind findBy at e;rw [<- Array.find?_toList] at e;unfold PySem.W.lookIn;rw [hd];dsimp only
 split
 ·rename_i y q;rw [q] at e;exact bS some e
 ·rename_i q;rw [q] at e;have a:es.toList.any (·.refKey)=false:=by
   rw [List.any_eq_false];intro y hy;obtain ⟨z,t,hkey⟩:=hk y (Array.mem_toList_iff.mp hy);simp [DictEntry.refKey,hkey]
  have a':¬ es.toList.any (·.refKey)=true:=by rw [a];exact aC
  rw [aw a'];exact bS some e
theorem ObjM.look {h:Heap} {x dx C:Addr} {mA:Str->Option Value} (I:ObjM h x dx C mA):∃ od,PySem.W.InstAt h x (PySem.W.instObj C dx) C (some od)/\∀ name,PySem.W.lookIn name od=some (mA name) :=
 let ⟨od,ho,hl⟩:=zbT I.ns
 ⟨od,⟨I.obj,rfl,rfl,ho⟩,hl⟩
section
variable {prog:Program} {w:World} {A:Around} {E:Value->Shared->Prop} {s:Shared} {K:PySem.W.Frag} {x dx C f:Addr} {mA:Str->Option Value} {name:Str} {v:Value}
theorem zer {expr:Bool} {Q:Value->Shared->Prop} (X:K.In s.heap) (I:ObjM s.heap x dx C mA) (hg:PySem.W.plainGet K C name=true) (hh:PySem.W.hasDictIn K C=true)
  (ha:PySem.W.findIn K (.ref C) name=some none) (hv:mA name=some v) (hv':PySem.W.handedIn v=true) (h:Q v { s with toks:=s.toks + 1 }) :
  wpAny (model prog w) A (getAttr (.ref x) name expr) Q E s:=by
 obtain ⟨od,J,hl⟩:=I.look;exact PySem.W.get_value X J (plainGet_of hg).1 (PySem.W.findObj_own hh ha rfl (by rw [hl,hv])) hv' h
theorem zds {pl:Sem Bool} {Q:Value × List Value->Shared->Prop} (X:K.In s.heap) (I:ObjM s.heap x dx C mA) (hg:PySem.W.plainGet K C name=true)
  (hf:PySem.W.findIn K (.ref C) name=some (some (.ref f))) (ht:PySem.W.isFn K (.ref f)=true) (hv:mA name=none) (h:Q (.ref f,[.ref x]) s) :
  wpAny (model prog w) A (getMethod (.ref x) name pl) Q E s:=by
 obtain ⟨od,J,hl⟩:=I.look;exact PySem.W.method_fn X J (plainGet_of hg).1 (plainGet_of hg).2 hf (bx.mp ht) (by show (PySem.W.lookIn name od).map (·.isSome)=some false;rw [hl,hv];rfl) h
theorem zdZ {ns:List Str} {Q:Unit->Shared->Prop} (X:K.In s.heap) (I:ObjM s.heap x dx C mA)
  (hs:PySem.W.findIn K (.ref C) "__setattr__"=some (some (.builtin "object.__setattr__"))) (hp:plainOver K C=true) (ht:PySem.W.takerIn K C name=some none) (hh:PySem.W.hasDictIn K C=true)
  (hw:PySem.Within mA ns) (hsz:ns.length<=sizeLine)
  (h:∀ h',ObjM h' x dx C (λ y=>if y=name then some v else mA y)->Heap.SameBut dx s.heap h'->Q () { s with heap:=h',toks:=s.toks + 2 }) :
  wpAny (model prog w) A (setAttr (.ref x) name v) Q E s:=by
 obtain ⟨od,J,hl⟩:=I.look;refine PySem.W.set_plain X J hs (PySem.W.osa_open (s:={ s with toks:=s.toks + 1 }) (r:=none) X J hp ht λ b=>?_);obtain ⟨cd,hc,hd'⟩:=any_some hh;have hx:s.heap.get? x=some ⟨.ref C,some dx,.plain,#[]⟩:=I.obj;refine af (aM (af (af (wpAny_loadPart hx (af (PySem.W.Looks.here (s:={ s with toks:=s.toks + 1 }) (PySem.W.looks_clsIn X hc) ?_))))));rw [hd'];refine aM (a:=some dx) (af (aM (af ?_)));refine wpAny_nsSet1 (s:={ s with toks:=s.toks + 1 }) I.ns λ h' hn2 hs2=>?_;obtain ⟨oD,esD,epD,hoD,hdD,hcD⟩:=hn2.count (PySem.Within.cons name v hw);refine af (wpAny_lookBehind hoD (by rw [hdD];exact pastItsLine_dict (bh hcD (by rw [bH];omega))) ?_);exact aM (h _ ⟨(hs2.2 _ (aX I.ne)).trans I.obj,hn2,I.ne⟩ hs2)
theorem WV {R:Result->Shared->Prop} {vs:List Value} {kw:List (Str × Value)} (X:K.In s.heap) (hm:PySem.W.makesIn K C=true)
  (hi:PySem.W.findIn K (.ref C) "__init__"=some (some (.ref f))) (hf:PySem.W.typeIn K (.ref f)=some (.type "function"))
  (h:codeAny (model prog w) (A.under (.builtin "type.__call__" ⟨.ref C :: vs,kw⟩)) (.call (.ref f) ⟨.ref (s.heap.objs.size + 1) :: vs,kw⟩) (PySem.W.InitBack (s.heap.objs.size + 1) R)
   { s with heap:=(s.heap.push emptyDict).push (PySem.W.instObj C s.heap.objs.size) }) :
  codeAny (model prog w) A (.call (.ref C) ⟨vs,kw⟩) R s:=by
 obtain ⟨hh,g,d,t,os⟩:=s;exact PySem.W.make_core (PySem.W.makes_of X hm) (looks_findIn X hi) (λ self=>PySem.W.bind_fn X self hf) (.inl rfl) h
end
def qr (f:Str) (v:V):List (Str × V)->List (Str × V)
 | []=>[(f,v)]
 | (g,x) :: r=>if g=f then (g,v) :: r else (g,x) :: qr f v r
theorem qq (f g:Str) (v:V):∀ fs:List (Str × V),(qr f v fs).lookup g=if g=f then some v else fs.lookup g
 | []=>by
  show List.lookup g [(f,v)]=_
  by_cases h:g=f
  ·have hb:(g == f)=true:=bx.mpr h;simp only [List.lookup,hb,aA h]
  ·have hb:(g == f)=false:=a7.mpr h;simp only [List.lookup,hb,aw h]
 | (k,x) :: r=>by
  have ih:=qq f g v r;rw [show qr f v ((k,x) :: r)=(if k=f then (k,v) :: r else (k,x) :: qr f v r) from rfl];by_cases hk:k=f
  ·rw [aA hk];by_cases h:g=k
   ·have hb:(g == k)=true:=bx.mpr h;simp only [List.lookup,hb,aA (h.trans hk)]
   ·have hb:(g == k)=false:=a7.mpr h;simp only [List.lookup,hb,aw (λ e:g=f=>h (e.trans hk.symm))]
  ·rw [aw hk];by_cases h:g=k
   ·have hb:(g == k)=true:=bx.mpr h;simp only [List.lookup,hb,aw (λ e:g=f=>hk (h.symm.trans e))]
   ·have hb:(g == k)=false:=a7.mpr h;simp only [List.lookup,hb];exact ih
theorem ZJ (f:Str) (v:V):∀ fs:List (Str × V),f∈(qr f v fs).map (·.1)/\∀ g,g∈fs.map (·.1)->g∈(qr f v fs).map (·.1)
 | []=>⟨by simp [qr],λ g h=>by simp at h⟩
 | (k,x) :: r=>by
  obtain ⟨i1,i2⟩:=ZJ f v r;rw [show qr f v ((k,x) :: r)=(if k=f then (k,v) :: r else (k,x) :: qr f v r) from rfl];by_cases hk:k=f
  ·rw [aA hk];subst hk;exact ⟨by simp,λ g h=>by simpa using h⟩
  ·rw [aw hk];refine ⟨?_,λ g h=>?_⟩
   ·rw [dm];exact aH _ i1
   ·rw [dm] at h ⊢;rcases ay.mp h with e|e
    ·exact ay.mpr (.inl e)
    ·exact aH _ (i2 g e)
theorem xo (f:Str) (v:V):∀ fs:List (Str × V),(qr f v fs).length<=fs.length + 1
 | []=>by simp [qr]
 | (k,x) :: r=>by
  have ih:=xo f v r;rw [show qr f v ((k,x) :: r)=(if k=f then (k,v) :: r else (k,x) :: qr f v r) from rfl];by_cases hk:k=f
  ·rw [aA hk,bH,bH];omega
  ·rw [aw hk,bH,bH];omega
theorem RelO.some_of {v:V} {o:Option Value} (r:RelO (some v) o):∃ u,o=some u/\RelV v u:=by
 cases o with
 | none=>exact (show False from r).elim
 | some u=>exact ⟨u,rfl,r⟩
theorem RelO.none_of {o:Option Value} (r:RelO none o):o=none:=by
 cases o with
 | none=>rfl
 | some u=>exact (show False from r).elim
theorem zb4 {v:V} {u:Value} (r:RelV v u):PySem.W.handedIn u=true:=by
 cases v with
 | non=>cases (show u=Value.none from r);rfl
 | bl b=>cases (show u=Value.bool b from r);rfl
 | int i=>obtain ⟨t,e⟩:=(show ∃ t,u=Value.int i t from r);cases e;rfl
 | str x=>obtain ⟨t,e⟩:=(show ∃ t,u=Value.str x t from r);cases e;rfl
 | byt b=>obtain ⟨t,e⟩:=(show ∃ t,u=Value.bytes b t from r);cases e;rfl
 | flt b=>obtain ⟨t,e⟩:=(show ∃ t,u=Value.float b t from r);cases e;rfl
 | ref a=>cases (show u=Value.ref a from r);rfl
 | ty n=>cases (show u=Value.type n from r);rfl
section
variable {P:Program} {w:World} {H H':Hp} {h h':Heap} {a C dx:Addr} {fs fs':List (Str × V)}
theorem Qo (hok:HOk P w H h) (e:H a=some (.ins C dx fs)):∃ mA,ObjM h a dx C mA/\(∀ f,RelO (fs.lookup f) (mA f))/\PySem.Within mA (fs.map (·.1))/\fs.length<=1000/\H dx=some (.own a):=by
 obtain ⟨d,z,ne,ob,mA,n,r,q⟩:=(show ObjOk P w H h a (.ins C dx fs) from hok a _ e);exact ⟨mA,⟨ob,n,ne⟩,r,q,z,d⟩
end
structure Cls (K:PySem.W.Frag) (C:Addr):Prop where
 pg:PySem.W.plainGet K C Str.empty=true
 hd:PySem.W.hasDictIn K C=true
 po:plainOver K C=true
 sa:PySem.W.findIn K (.ref C) "__setattr__"=some (some (.builtin "object.__setattr__"))
theorem Cls.get {K:PySem.W.Frag} {C:Addr} (c:Cls K C) (f:Str):PySem.W.plainGet K C f=true:=c.pg
def NoAttr (K:PySem.W.Frag) (C:Addr) (f:Str):Prop:=PySem.W.findIn K (.ref C) f=some none
theorem NoAttr.taker {K:PySem.W.Frag} {C:Addr} {f:Str} (n:NoAttr K C f):PySem.W.takerIn K C f=some none:=by
 unfold PySem.W.takerIn;rw [show PySem.W.findIn K (.ref C) f=some none from n]
 rfl
structure Meth (K:PySem.W.Frag) (C:Addr) (m:Str) (f:Addr):Prop where
 at_:PySem.W.findIn K (.ref C) m=some (some (.ref f))
 fn:PySem.W.isFn K (.ref f)=true
 kp:PySem.W.keepIn K (.ref f)=true
section
variable {X:Cx} {pins:List (Addr × Obj)} {σ:St} {H:Hp} {s:Shared} {a C dx:Addr} {fs:List (Str × V)} {f:Str} {v:V} {A:Around} {E:Value->Shared->Prop}
theorem Jd {b:Bool} {Q:Value->Shared->Prop} (I:Inv X pins σ H s) (e:H a=some (.ins C dx fs)) (c:Cls X.K C) (n:NoAttr X.K C f) (l:fs.lookup f=some v)
  (h:∀ u s',Inv X pins σ H s'->RelV v u->Q u s'):wpAny (model X.prog X.w) A (getAttr (.ref a) f b) Q E s:=by
 obtain ⟨mA,O,r,_,_,_⟩:=Qo I.hok e;obtain ⟨u,hu,ru⟩:=RelO.some_of (v:=v) (o:=mA f) (by rw [<- l];exact r f);exact zer I.kIn O (c.get f) c.hd n hu (zb4 ru) (h u _ (I.tok _) ru)
theorem vF {m:Str} {g:Addr} {pl:Sem Bool} {Q:Value × List Value->Shared->Prop} (I:Inv X pins σ H s) (e:H a=some (.ins C dx fs)) (c:Cls X.K C) (k:Meth X.K C m g) (l:fs.lookup m=none)
  (h:Q (.ref g,[.ref a]) s):wpAny (model X.prog X.w) A (getMethod (.ref a) m pl) Q E s:=by
 obtain ⟨mA,O,r,_,_,_⟩:=Qo I.hok e;have hn:mA m=none:=RelO.none_of (by rw [<- l];exact r m);exact zds I.kIn O (c.get m) k.at_ k.fn hn h
theorem Qz {y:V} {u:Value} {Q:Unit->Shared->Prop} (I:Inv X pins σ H s) (e:H a=some (.ins C dx fs)) (c:Cls X.K C) (n:NoAttr X.K C f) (hl:fs.length < 1000) (ry:RelV y u)
  (h:∀ s',Inv X pins σ (upd H a (.ins C dx (qr f y fs))) s'->Q () s'):wpAny (model X.prog X.w) A (setAttr (.ref a) f u) Q E s:=by
 obtain ⟨mA,O,r,wi,_,ho⟩:=Qo I.hok e;have hz:(fs.map (·.1)).length<=sizeLine:=by rw [ae,dZ];omega
 refine zdZ I.kIn O c.sa c.po n.taker c.hd wi hz λ h' O' sb=>h _ ?_;have hd:∃ o,h'.get? dx=some o:=let ⟨o,_,_,e',_⟩:=O'.ns;⟨o,e'⟩
 refine I.write (x:=a) (e:=dx) (by rw [e];exact True.intro) (.inr ho) (λ b q hb z=>(sb.2 b hb).trans z) hd ?_;refine ⟨by rw [upd_ne O.ne];exact ho,?_,O.ne,O'.obj,_,O'.ns,λ g=>?_,λ g hg=>?_⟩
 ·have:=xo f y fs;omega
 ·show RelO ((qr f y fs).lookup g) (if g=f then some u else mA g)
  rw [qq];by_cases q:g=f
  ·rw [aA q,aA q];exact ry
  ·rw [aw q,aw q];exact r g
 ·by_cases q:g=f
  ·rw [q];exact (ZJ f y fs).1
  ·refine (ZJ f y fs).2 g (wi g λ z=>hg ?_);show (if g=f then some u else mA g)=none
   rw [aw q];exact z
theorem Inv.made (I:Inv X pins σ H s):Inv X pins σ (upd (upd H s.heap.objs.size (.own (s.heap.objs.size + 1))) (s.heap.objs.size + 1) (.ins C s.heap.objs.size []))
  { s with heap:=(s.heap.push emptyDict).push (PySem.W.instObj C s.heap.objs.size) }:=by
 have e1:(s.heap.push emptyDict).get? s.heap.objs.size=some emptyDict:=aD s.heap rfl;have e2:((s.heap.push emptyDict).push (PySem.W.instObj C s.heap.objs.size)).get? (s.heap.objs.size + 1)=some (PySem.W.instObj C s.heap.objs.size):=by
  have:=aD (s.heap.push emptyDict) (o:=PySem.W.instObj C s.heap.objs.size) rfl
  rwa [bB] at this
 have e3:(s.heap.push emptyDict).Ns s.heap.objs.size (λ _=>none):=⟨emptyDict,#[],_,e1,rfl,(λ e he=>absurd he (by simp)),λ _=>rfl⟩;have I1:=I.laid (a:=s.heap.objs.size) (o:=.own (s.heap.objs.size + 1)) (h':=s.heap.push emptyDict) (t':=s.toks) (λ b u q=>ai _ q) (av _) ⟨_,e1⟩;refine I1.laid (a:=s.heap.objs.size + 1) (o:=.ins C s.heap.objs.size []) (t':=s.toks) (λ b u q=>ai _ q) (Nat.le_of_eq (bB _ _)) ?_;have ne:s.heap.objs.size≠s.heap.objs.size + 1:=aP (dD _);refine ⟨by rw [upd_ne ne,upd_same],cj _,ne,e2,λ _=>none,(Heap.Ns1.of_empty e3).at λ o q=>ai _ q,λ _=>True.intro,λ y hy=>absurd rfl hy⟩
theorem zeA {prog:Program} {w:World} {env:Env} {e:Expr} {f:Str} {pos:Pos} {s:Shared} {Q:Value->Shared->Prop} (hb:attributeBase e f env (eval e env)=eval e env)
  (h:wpAny (model prog w) A (eval e env) (λ o s₁=>wpAny (model prog w) A (getAttr o f true) Q E s₁) E s):wpAny (model prog w) A (eval (.Attribute e f pos) env) Q E s :=
 Attribute_any_ h (by rw [arm_eval_Attribute,hb])
end
def tFld (K:PySem.W.Frag) (ta:TE) (f:Str):TE:=λ σ H Q=>ta σ H λ x H1=>∃ a C dx fs v,x=.ref a/\H1 a=some (.ins C dx fs)/\Cls K C/\NoAttr K C f/\fs.lookup f=some v/\Q v H1
def sFld (K:PySem.W.Frag) (ta tv:TE) (f:Str):TS:=λ D σ H=>tv σ H λ y H1=>ta σ H1 λ x H2=>∃ a C dx fs,x=.ref a/\H2 a=some (.ins C dx fs)/\Cls K C/\NoAttr K C f/\fs.length < 1000 /\
 D.nx σ (upd H2 a (.ins C dx (qr f y fs)))
def zgq (X:Cx) (op:Operator) (rd:V->V->Hp->VK->Prop):Prop :=
 ∀ (pins:List (Addr × Obj)) (s:Shared) (σ:St) (H:Hp) (x y:V) (u v:Value) (Q:VK),Inv X pins σ H s->RelV x u->RelV y v->rd x y H Q->wpAny (model X.prog X.w) X.A (inplaceOp op u v) (EP X pins σ Q) X.xe s
def zd3 (K:PySem.W.Frag) (ta tv:TE) (rd:V->V->Hp->VK->Prop) (f:Str):TS:=λ D σ H=>ta σ H λ x H1=>∃ a C dx fs v,x=.ref a/\H1 a=some (.ins C dx fs)/\Cls K C/\NoAttr K C f/\fs.lookup f=some v /\
 tv σ H1 λ y H2=>rd v y H2 λ z H3=>∃ dx' fs',H3 a=some (.ins C dx' fs')/\fs'.length < 1000/\D.nx σ (upd H3 a (.ins C dx' (qr f z fs')))
section
variable {X:Cx} {o e value:Expr} {f:Str} {pos pos' tpos:Pos} {ta tv:TE}
theorem zj (he:PE X e ta) (hb:attributeBase e f X.env (eval e X.env)=eval e X.env):PE X (.Attribute e f pos) (tFld X.K ta f):=by
 intro pins s σ H Q I h;refine zeA hb (qY (he pins s σ H _ I h) λ u s1 x H1 I1 rx qq_=>?_);obtain ⟨a,C,dx,fs,v,ex,ea,c,n,l,q⟩:=qq_;subst ex;obtain rfl:u=Value.ref a:=rx;exact Jd I1 ea c n l λ u' s2 I2 ru=>⟨v,H1,I2,ru,q⟩
theorem jq (ha:PE X o ta) (hv:PE X value tv) (hs:swapsWith value (some (.Attribute o f pos')) pos.line X.env=pure false):PS X (.Assign [.Attribute o f pos'] value pos) (sFld X.K ta tv f):=by
 intro pins s σ H D I h;refine plainObj_wpAny_Assign_Attribute (qY (hv pins s σ H _ I h) λ u s1 y H1 I1 ry q=>qY (ha pins s1 σ H1 _ I1 q) λ ov s2 x H2 I2 rx qq_=>?_) hs;obtain ⟨a,C,dx,fs,ex,ea,c,n,l,q2⟩:=qq_;subst ex;obtain rfl:ov=Value.ref a:=rx;exact Qz I2 ea c n l ry λ s3 I3=>⟨σ,_,I3,q2⟩
theorem zbG {op:Operator} {rd:V->V->Hp->VK->Prop} (ha:PE X o ta) (hv:PE X value tv) (hop:zgq X op rd):PS X (.AugAssign (.Attribute o f tpos) op value pos) (zd3 X.K ta tv rd f):=by
 intro pins s σ H D I h;refine wpAny_AugAssign_AttributeAny (qY (ha pins s σ H _ I h) λ ov s1 x H1 I1 rx qq_=>?_);obtain ⟨a,C,dx,fs,v,ex,ea,c,n,l,q⟩:=qq_;subst ex;obtain rfl:ov=Value.ref a:=rx;refine Jd I1 ea c n l λ u s2 I2 ru=>qY (hv pins s2 σ H1 _ I2 q) λ w3 s3 y H2 I3 ry q3=>thn (hop pins s3 σ H2 v y u w3 _ I3 ru ry q3) λ w4 s4 ⟨z,H3,I4,rz,dx',fs',ea',l',q4⟩=>?_;exact Qz I4 ea' c n l' rz λ s5 I5=>⟨σ,_,I5,q4⟩
def zgy:V->V->Hp->VK->Prop:=λ x y H Q=>∃ i j,x=.int i/\y=.int j/\Q (.int (i + j)) H
theorem zfD:zgq X .Add zgy:=by
 rintro pins s σ H x y u v Q I rx ry ⟨i,j,rfl,rfl,q⟩;obtain ⟨t,rfl⟩:=(show ∃ t,u=Value.int i t from rx);obtain ⟨t',rfl⟩:=(show ∃ t',v=Value.int j t' from ry);exact PyProof.Rows.iadd_int ⟨.int (i + j),H,I.tok _,⟨_,rfl⟩,q⟩
end
section
variable {X:Cx} {pins:List (Addr × Obj)} {σ:St} {H:Hp} {s:Shared} {A:Around} {E:Value->Shared->Prop} {Q:Value->Shared->Prop} {c:Value} {b:Bool}
inductive TyOf (K:PySem.W.Frag) (H:Hp):V->Value->Prop where
 | non:TyOf K H .non (.type "NoneType")
 | bl (x:Bool):TyOf K H (.bl x) (.type "bool")
 | int (i:Int):TyOf K H (.int i) (.type "int")
 | str (x:Str):TyOf K H (.str x) (.type "str")
 | flt (x:UInt64):TyOf K H (.flt x) (.type "float")
 | lst {a:Addr} {xs:List V} (e:H a=some (.lst xs)):TyOf K H (.ref a) (.type "list")
 | frz {a:Addr} {o:Obj} {xs:List V} (e:H a=some (.frz o (.lst xs))):TyOf K H (.ref a) (.type "list")
 | tup {a:Addr} {xs:List V} (e:H a=some (.tup xs)):TyOf K H (.ref a) (.type "tuple")
 | dK {a:Addr} {kvs:List (Key × V)} (e:H a=some (.dK kvs)):TyOf K H (.ref a) (.type "dict")
 | dT {a:Addr} {kvs:List (List Key × V)} (e:H a=some (.dT kvs)):TyOf K H (.ref a) (.type "dict")
 | ins {a C dx:Addr} {fs:List (Str × V)} (e:H a=some (.ins C dx fs)) (cl:Cls K C) (ha:PySem.W.findIn K (.ref C) "__class__"=some (some (.builtin "object.__class__")))
   (hn:PySem.W.specialIn K (.builtin "object.__class__") "__get__"=some (some (.builtin "getset_descriptor.__get__"))) (htk:PySem.W.takesIn K (.builtin "object.__class__")=some true)
   (hm:mroIn K C (.type "object")=some true):TyOf K H (.ref a) (.ref C)
end
end L2
namespace L2
open PySem PySem.Spec PyProof.Rows
structure Room (k:Nat) (A:Around):Prop where
 hd:A.handled=none
 dp:A.depth + 3 * k + 5 < recursionLimit
 un:A.units + 16 * k + 200 < cLine
theorem Room.mono {j k:Nat} {A:Around} (r:Room k A) (h:j<=k):Room j A:=⟨r.hd,by have:=r.dp;omega,by have:=r.un;omega⟩
theorem Room.deeper {k:Nat} {A:Around} (r:Room (k + 1) A) (env:Env):Room k (A.deeper env) :=
 ⟨r.hd,by have:=r.dp;show A.depth + 1 + 3 * k + 5 < _;omega,by have:=r.un;show A.units + 3 + 16 * k + 200 < _;omega⟩
theorem Room.in1 {k:Nat} {A:Around} (r:Room (k + 1) A):Room k A.in1 :=
 ⟨r.hd,by have:=r.dp;show A.depth + 3 * k + 5 < _;omega,by have:=r.un;show A.units + 1 + 16 * k + 200 < _;omega⟩
theorem zad {A:Around} {C:Addr} {us:List Value} {kw:List (Str × Value)}:(A.under (.builtin "type.__call__" ⟨.ref C :: us,kw⟩)).depth=A.depth + 1:=by
 first|rfl|simp [Around.under,Code.weight,Code.isCreation,Code.isGuard,Code.isCaller,Code.frames,Code.isFrame,guardIds]
theorem zac {A:Around} {C:Addr} {us:List Value} {kw:List (Str × Value)}:(A.under (.builtin "type.__call__" ⟨.ref C :: us,kw⟩)).units=A.units + 1:=by
 first|rfl|simp [Around.under,Code.cUnits,Code.frames,Code.isFrame]
theorem Room.make {k:Nat} {A:Around} (r:Room (k + 1) A) (C:Addr) (us:List Value) (kw:List (Str × Value)):Room k (A.under (.builtin "type.__call__" ⟨.ref C :: us,kw⟩)) :=
 ⟨r.hd,by have:=r.dp;rw [zad];omega,by have:=r.un;rw [zac];omega⟩
theorem Room.depth {k:Nat} {A:Around} (r:Room k A):A.depth < recursionLimit:=by have:=r.dp;omega
theorem Room.units {k:Nat} {A:Around} (r:Room k A):A.units + 64 < cLine:=by have:=r.un;omega
def tNil:TA:=λ _ H Q=>Q [] H
def tCons (ta:TE) (tr:TA):TA:=λ σ H Q=>ta σ H λ x H1=>tr σ H1 λ xs H2=>Q (x :: xs) H2
section
variable {X:Cx} {e:Expr} {es:List Expr} {te:TE} {t:TA} {pos:Pos}
theorem zb:PA X [] tNil:=λ _ _ _ _ H Q I h=>Calls.spliced_nil ⟨[],H,I,.nil,h⟩
theorem za (ha:PE X e te) (hr:PA X es t) (hs:starEach (e :: es) X.env=(false,eval e X.env) :: starEach es X.env:=by rfl):PA X (e :: es) (tCons te t):=by
 intro pos pins s σ H Q I h;rw [hs];show wpAny _ _ (spliced ((false,eval e X.env) :: backTo pos (starEach es X.env))) _ _ s
 refine Calls.spliced_cons (qY (ha pins s σ H _ I h) λ u s1 x H1 I1 r1 q1=>?_);exact wu (hr pos pins s1 σ H1 _ I1 q1) λ us s2 xs H2 I2 r2 q2=>⟨x :: xs,H2,I2,.cons r1 r2,q2⟩
def tTup (t:TA):TE:=λ σ H Q=>t σ H λ xs H1=>szl xs (∀ p,H1 p=none->Q (.ref p) (upd H1 p (.tup xs)))
def tLst (t:TA):TE:=λ σ H Q=>t σ H λ xs H1=>szl xs (∀ p,H1 p=none->Q (.ref p) (upd H1 p (.lst xs)))
theorem jx {x1} (h:PA X es t):PE X (.Tuple es x1 pos) (tTup t):=by
 intro pins s σ H Q I hq;refine wpAny_Tuple_spliced (wu (h pos pins s σ H _ I hq) λ us s1 xs H1 I1 r q=>let ⟨z,q⟩:=VE q;⟨by rw [<- r.length];exact z,?_⟩);have hf:H1 s1.heap.objs.size=none:=I1.hok.fresh (av _);refine ⟨.ref s1.heap.objs.size,upd H1 s1.heap.objs.size (.tup xs),I1.laid (t':=s1.toks) (λ b u e=>ai _ e) (av _) ?_,rfl,q _ hf⟩;exact ⟨z,us,r,⟨_,aD _ rfl,rfl,_,rfl⟩⟩
theorem zO (h:PA X es t):PE X (.List es pos) (tLst t):=by
 intro pins s σ H Q I hq;refine wpAny_List_spliced (wu (h pos pins s σ H _ I hq) λ us s1 xs H1 I1 r q=>let ⟨z,q⟩:=VE q;⟨by rw [<- r.length];exact z,?_⟩);have hf:H1 s1.heap.objs.size=none:=I1.hok.fresh (av _);refine ⟨.ref s1.heap.objs.size,upd H1 s1.heap.objs.size (.lst xs),I1.laid (t':=s1.toks) (λ b u e=>ai _ e) (av _) ?_,rfl,q _ hf⟩;exact ⟨z,us,0,r,aD _ rfl⟩
end
abbrev Sp:=List V->Hp->VK->XK->Prop
abbrev CXT:=List Env->Hp->Shared->XK->Value->Shared->Prop
structure Env0 (P:Program) (w:World) (K:PySem.W.Frag) (mg:Str->Option Value) (base:Heap) (A:Around) (outer:List Env) (s:Shared) (H:Hp):Prop where
 frames:A.frames=some outer
 mod:Mod K mg base
 bs:∀ b o,base.get? b=some o->s.heap.get? b=some o/\H b=none
 bsz:base.objs.size<=s.heap.objs.size
 funs:s.heap.FunFrames base outer
 frf:∀ b∈frs outer,H b=none
 hok:HOk P w H s.heap
 bare:AllBare s.gens
def CE (outer:List Env) (P:Program) (w:World) (H:Hp) (s:Shared) (Q:VK) (u:Value) (s':Shared):Prop :=
 ∃ v H',s'.os=s.os/\AllBare s'.gens/\Un (frs outer) [] H H' s.heap s'.heap/\HOk P w H' s'.heap/\RelV v u/\Q v H'
def CR (CX:CXT) (outer:List Env) (P:Program) (w:World) (H:Hp) (s:Shared) (Q:VK) (E:XK) (r:Result) (s':Shared):Prop :=
 match r with
 | .ok (.ret u)=>CE outer P w H s Q u s'
 | .ok _=>False
 | .error e=>CX outer H s E e s'
structure FnOk (P:Program) (w:World) (K:PySem.W.Frag) (mg:Str->Option Value) (base:Heap) (CX:CXT) (k:Nat) (f:Addr) (fd:FuncData) (ps:List Str) (sp:Sp):Prop where
 len:∀ vs H Q E,sp vs H Q E->vs.length=ps.length
 run:∀ (A:Around) (outer:List Env) (s:Shared) (H:Hp) (args:Args) (us:List Value) (vs:List V) (Q:VK) (E:XK),Room k A->Env0 P w K mg base A outer s H->BindsTo s fd args (ps.zip us)->Vals vs us->sp vs H Q E ->
  codeAny (model P w) A (.call (.ref f) args) (CR CX outer P w H s Q E) s
theorem FnOk.mono {P:Program} {w:World} {K:PySem.W.Frag} {mg:Str->Option Value} {base:Heap} {CX:CXT} {j k:Nat} {f:Addr} {fd:FuncData} {ps:List Str} {sp:Sp} (F:FnOk P w K mg base CX j f fd ps sp) (h:j<=k) :
  FnOk P w K mg base CX k f fd ps sp:=⟨F.len,λ A outer s H args us vs Q E hr=>F.run A outer s H args us vs Q E (hr.mono h)⟩
theorem FnOk.imp {P:Program} {w:World} {K:PySem.W.Frag} {mg:Str->Option Value} {base:Heap} {CX:CXT} {k:Nat} {f:Addr} {fd:FuncData} {ps:List Str} {sp sp':Sp} (F:FnOk P w K mg base CX k f fd ps sp)
  (h:∀ vs H Q E,sp' vs H Q E->sp vs H Q E):FnOk P w K mg base CX k f fd ps sp' :=
 ⟨λ vs H Q E q=>F.len vs H Q E (h _ _ _ _ q),λ A outer s H args us vs Q E hr he hb hv hs=>F.run A outer s H args us vs Q E hr he hb hv (h _ _ _ _ hs)⟩
theorem Env0.make {P:Program} {w:World} {K:PySem.W.Frag} {mg:Str->Option Value} {base:Heap} {A:Around} {outer:List Env} {s:Shared} {H:Hp} (e:Env0 P w K mg base A outer s H) (C:Addr) (us:List Value) (kw:List (Str × Value)) :
  Env0 P w K mg base (A.under (.builtin "type.__call__" ⟨.ref C :: us,kw⟩)) outer s H:=⟨by first|exact e.frames|(simpa [Around.under,Code.envs,Code.isFrame,pushEnvs] using e.frames),e.mod,e.bs,e.bsz,e.funs,e.frf,e.hok,e.bare⟩
theorem Env0.in1 {P:Program} {w:World} {K:PySem.W.Frag} {mg:Str->Option Value} {base:Heap} {A:Around} {outer:List Env} {s:Shared} {H:Hp} (e:Env0 P w K mg base A outer s H) :
  Env0 P w K mg base A.in1 outer s H:=⟨e.frames,e.mod,e.bs,e.bsz,e.funs,e.frf,e.hok,e.bare⟩
section
variable {X:Cx} {pins:List (Addr × Obj)} {σ:St} {H:Hp} {s s':Shared}
theorem Inv.env0 (I:Inv X pins σ H s):Env0 X.prog X.w X.K X.mg X.base X.A X.stack s H :=
 ⟨I.ok.frames,I.ok.mod,I.bs,bh I.ok.bsz I.sz,I.stack,I.stkFree,I.hok,I.bare⟩
theorem Inv.after {Q:VK} {u:Value} (I:Inv X pins σ H s) (h:CE X.stack X.prog X.w H s Q u s'):EP X pins σ Q u s':=by
 obtain ⟨v,H',os,bare,un,hok,r,q⟩:=h;obtain ⟨hh,g,d,t,os'⟩:=s';obtain rfl:os'=s.os:=os;exact ⟨v,H',I.call (h':=hh) (g':=g) (d':=d) (t':=t) (ch:=[]) un hok bare (λ b z=>absurd z (by simp)),r,q⟩
end
def Binds (K:PySem.W.Frag) (fd:FuncData) (ps:List Str) (ds:List Value):Prop :=
 ∀ (s:Shared) (us:List Value),K.In s.heap->(us ++ ds).length=ps.length->BindsTo s fd ⟨us,[]⟩ (ps.zip (us ++ ds))
theorem Binds.all {K:PySem.W.Frag} {fd:FuncData} {ps:List Str} (h:∀ us:List Value,us.length=ps.length->bindArgs fd ⟨us,[]⟩=pure (ps.zip us)):Binds K fd ps []:=λ s us _ hl=>by
 rw [cF] at hl ⊢;exact .of_eq (h us hl)
def zaA (CX:CXT) (X:Cx) (E:XK):Prop:=∀ (pins:List (Addr × Obj)) (σ:St) (H:Hp) (s:Shared) (e:Value) (s':Shared),Inv X pins σ H s->CX X.stack H s E e s'->X.xe e s'
section
variable {X:Cx} {CX:CXT} {k:Nat} {f C:Addr} {fd:FuncData} {ps:List Str} {sp:Sp} {dvs:List V} {ds:List Value} {E:XK} {x m:Str} {p pos apos:Pos} {e o:Expr} {es:List Expr} {ta:TE} {t:TA}
theorem zcM {pins:List (Addr × Obj)} {σ:St} {H:Hp} {s:Shared} {Q:VK} {us:List Value} {vs:List V} (F:FnOk X.prog X.w X.K X.mg X.base CX k f fd ps sp) (hr:Room k X.A) (hb:Binds X.K fd ps ds) (hd:Vals dvs ds) (hx:zaA CX X E)
  (I:Inv X pins σ H s) (r:Vals vs us) (h:sp (vs ++ dvs) H Q E):wpAny (model X.prog X.w) X.A (call (.ref f) us) (EP X pins σ Q) X.xe s:=by
 have r2:Vals (vs ++ dvs) (us ++ ds):=r.append hd;have hl:(us ++ ds).length=ps.length:=by rw [<- r2.length];exact F.len _ _ _ _ h
 refine eF (cN (F.run X.A X.stack s H ⟨us,[]⟩ (us ++ ds) (vs ++ dvs) Q E hr I.env0 (hb s us I.kIn hl) r2 h) λ r s' hq=>?_);cases r with
 | error e=>exact hx pins σ H s e s' I hq
 | ok fl =>
  cases fl with
  | ret u=>exact I.after hq
  | next=>exact False.elim hq
  | brk=>exact False.elim hq
  | cont=>exact False.elim hq
structure Mk (K:PySem.W.Frag) (C f:Addr):Prop where
 makes:PySem.W.makesIn K C=true
 init:PySem.W.findIn K (.ref C) "__init__"=some (some (.ref f))
 fn:PySem.W.isFn K (.ref f)=true
 kp:PySem.W.keepIn K (.ref C)=true
theorem zcL {pins:List (Addr × Obj)} {σ:St} {H:Hp} {s:Shared} {Q:VK} {us:List Value} {vs:List V} (M:Mk X.K C f) (F:FnOk X.prog X.w X.K X.mg X.base CX k f fd ps sp) (hr:Room (k + 1) X.A) (hb:Binds X.K fd ps ds) (hd:Vals dvs ds)
  (hx:zaA CX X E) (I:Inv X pins σ H s) (r:Vals vs us)
  (h:∀ x dx,H x=none->H dx=none->dx≠x->sp (.ref x :: (vs ++ dvs)) (upd (upd H dx (.own x)) x (.ins C dx [])) (λ v H2=>v=.non/\Q (.ref x) H2) E) :
  wpAny (model X.prog X.w) X.A (call (.ref C) us) (EP X pins σ Q) X.xe s:=by
 have hq:=h (s.heap.objs.size + 1) s.heap.objs.size (I.hok.fresh (bX _)) (I.hok.fresh (av _)) (aP (dD _));have I2:=Inv.made (C:=C) I;have r2:Vals (V.ref (s.heap.objs.size + 1) :: (vs ++ dvs)) (Value.ref (s.heap.objs.size + 1) :: (us ++ ds)):=.cons rfl (r.append hd);have hl:(Value.ref (s.heap.objs.size + 1) :: us ++ ds).length=ps.length:=by
  have e:=r2.length;rw [F.len _ _ _ _ hq] at e;exact e.symm
 refine eF (WV (f:=f) I.kIn M.makes M.init (bx.mp M.fn) (cN (F.run _ X.stack _ _ ⟨Value.ref (s.heap.objs.size + 1) :: us,[]⟩ (Value.ref (s.heap.objs.size + 1) :: (us ++ ds)) _ _ E (hr.make C us [])
  (I2.env0.make C us []) (hb _ (Value.ref (s.heap.objs.size + 1) :: us) I2.kIn hl) r2 hq) λ r s' hq'=>?_))
 cases r with
 | error e=>exact hx pins σ _ _ e s' I2 hq'
 | ok fl =>
  cases fl with
  | ret u =>
   obtain ⟨v,H',I3,rv,ev,q3⟩:=I2.after hq';subst ev;exact ⟨rv,⟨V.ref (s.heap.objs.size + 1),H',I3,rfl,q3⟩⟩
  | next=>exact False.elim hq'
  | brk=>exact False.elim hq'
  | cont=>exact False.elim hq'
end
def PK (X:Cx) (kws:List Keyword) (t:TA):Prop :=
 ∀ (pos:Pos) (pins:List (Addr × Obj)) (s:Shared) (σ:St) (H:Hp) (Q:List V->Hp->Prop),Inv X pins σ H s->t σ H Q->wpAny (model X.prog X.w) X.A (evalAll ((backToKw pos (keywordEach kws X.env)).map (·.2))) (AP X pins σ Q) X.xe s
section
variable {X:Cx} {CX:CXT} {k:Nat} {f C:Addr} {fd:FuncData} {ps ks:List Str} {sp:Sp} {E:XK} {x m:Str} {p pos apos kpos:Pos} {e o:Expr} {es:List Expr} {kws:List Keyword} {te ta:TE} {t tk:TA} {nm:Option Str}
variable {g:List Value->List Value->List Value} {gV:List V->List V->List V}
end
structure FnScope (N P:List Str) (sc:Scope):Prop where
 kind:sc.kind=.function
 co:sc.isCoroutine=false
 gen:sc.isGenerator=false
 nd:N.Nodup
 pre:N.take P.length=P
 par:∀ x∈P,sc.names.lookup x=some .local\/sc.names.lookup x=some .cell
 nofree:∀ y∈sc.names,y.2≠.free
theorem Xg {kindOf:Str->Option NameKind} {x:Str}:∀ {binds:List (Str × Value)} {m:Str->Option Value},(∀ v,(x,v) ∉ binds)->bindL kindOf binds m x=m x
 | [],_,_=>rfl
 | (n,v) :: r,m,h=>by
  unfold bindL;rw [Xg λ w hw=>h w (aH _ hw)]
  split
  ·have:x≠n:=by rintro rfl;exact h v cI
   simp [this]
  ·rfl
theorem Xi {kindOf:Str->Option NameKind} {x:Str}:∀ {binds:List (Str × Value)} {m:Str->Option Value},(∀ v,(x,v) ∉ binds)->bindC kindOf binds m x=m x
 | [],_,_=>rfl
 | (n,v) :: r,m,h=>by
  unfold bindC;rw [Xi λ w hw=>h w (aH _ hw)]
  split
  ·rfl
  ·have:x≠n:=by rintro rfl;exact h v cI
   simp [this]
theorem Xh {kindOf:Str->Option NameKind} {x:Str} {v:Value}:∀ {P:List Str} {vs:List Value} {i:Nat} {m:Str->Option Value},P.Nodup->P[i]?=some x->vs[i]?=some v->kindOf x=some .local ->
  bindL kindOf (P.zip vs) m x=some v
 | [],_,_,_,_,h,_,_=>by simp at h
 | _ :: _,[],_,_,_,_,h,_=>by simp at h
 | p :: P,w :: vs,0,m,nd,h1,h2,hk=>by
  simp at h1 h2;subst h1;subst h2;show bindL kindOf ((p,w) :: P.zip vs) m p=_
  unfold bindL;rw [Xg λ v hv=>(cW.mp nd).1 (of_mem_zip hv).1,aA hk];simp
 | p :: P,w :: vs,i + 1,m,nd,h1,h2,hk=>by
  show bindL kindOf ((p,w) :: P.zip vs) m x=_
  unfold bindL;exact Xh (i:=i) (cW.mp nd).2 (by simpa using h1) (by simpa using h2) hk
theorem Xj {kindOf:Str->Option NameKind} {x:Str} {v:Value}:∀ {P:List Str} {vs:List Value} {i:Nat} {m:Str->Option Value},P.Nodup->P[i]?=some x->vs[i]?=some v->kindOf x≠some .local ->
  bindC kindOf (P.zip vs) m x=some v
 | [],_,_,_,_,h,_,_=>by simp at h
 | _ :: _,[],_,_,_,_,h,_=>by simp at h
 | p :: P,w :: vs,0,m,nd,h1,h2,hk=>by
  simp at h1 h2;subst h1;subst h2;show bindC kindOf ((p,w) :: P.zip vs) m p=_
  unfold bindC;rw [Xi λ v hv=>(cW.mp nd).1 (of_mem_zip hv).1,aw hk];simp
 | p :: P,w :: vs,i + 1,m,nd,h1,h2,hk=>by
  show bindC kindOf ((p,w) :: P.zip vs) m x=_
  unfold bindC;exact Xj (i:=i) (cW.mp nd).2 (by simpa using h1) (by simpa using h2) hk
def start (N:List Str) (vs:List V):St:=vs.map some ++ List.replicate (N.length - vs.length) none
def Qg (CX:CXT) (P:Program) (w:World) (K:PySem.W.Frag) (mg:Str->Option Value) (base:Heap) (N:List Str) (qual:Str) (scope:Scope) (f:Addr) (cd:Value) (A:Around) (outer:List Env) (s:Shared) (H:Hp) (E:XK):Cx where
 prog:=P
 w:=w
 K:=K
 mg:=mg
 base:=base
 A:=A.deeper (envOfC qual scope s.heap.objs.size f cd)
 N:=N
 s₀:=s
 H₀:=H
 env:=envOfC qual scope s.heap.objs.size f cd
 outer:=outer
 stack:=envOfC qual scope s.heap.objs.size f cd :: outer
 ex:=[]
 calm:=true
 fn:=λ _=>true
 pn:=[]
 xe:=λ e s'=>wpAny (model P w) (A.deeper (envOfC qual scope s.heap.objs.size f cd)) (leaving (envOfC qual scope s.heap.objs.size f cd) e) (λ _ s''=>CX outer H s E e s'') (λ e' s''=>CX outer H s E e' s'') s'
theorem Vp {sc:Scope} {n:Nat} {x:Str} (h:sc.names.lookup x=some .cell):∃ c,(cellsFrom n sc.names []).lookup x=some c:=by
 have q:=ed sc.names n [] (.inl h);exact Option.isSome_iff_exists.mp q
theorem zbW {CX:CXT} {P:Program} {w:World} {K:PySem.W.Frag} {mg:Str->Option Value} {base:Heap} {N ps:List Str} {qual:Str} {scope:Scope} {f:Addr} {cd:Value} {A:Around} {outer:List Env} {s s1:Shared} {H:Hp} {E:XK} {us:List Value} {vs:List V}
  (S:FnScope N ps scope) (hd:A.handled=none) (e0:Env0 P w K mg base A outer s H) (hl:vs.length=ps.length) (r:Vals vs us)
  (x:InCallC s s.heap.objs.size (bindL (envOfC qual scope s.heap.objs.size f cd).kindOf (ps.zip us) λ _=>none) (cellsFrom (s.heap.objs.size + 1) scope.names []) (bindC (envOfC qual scope s.heap.objs.size f cd).kindOf (ps.zip us) λ _=>none) s1) :
  Inv (Qg CX P w K mg base N qual scope f cd A outer s H E) [] (start N vs) H s1:=by
 have hpl:ps.length<=N.length:=by have:=bS List.length S.pre;rw [aI] at this;omega
 obtain ⟨h1,tk,rfl,hk⟩:=x.done;have noA:∀ b:Addr,b ∉ (Qg CX P w K mg base N qual scope f cd A outer s H E).ex:=λ b z=>absurd (show b∈([]:List Addr) from z) (by simp);refine ⟨⟨e0.mod,S.kind,rfl,rfl,av _,λ y z c h1 h2=>?_,λ y hy=>?_,λ y c _ h=>?_,λ _=>hd,Around.frames_deeper e0.frames,.inr ⟨rfl,rfl⟩,λ b z=>absurd z (noA b),e0.bs,e0.bsz,λ b _ _=>noA b,λ b z=>absurd z (noA b),e0.funs,e0.frf⟩,
  rfl,e0.bare,Un.kept hk,⟨_,x.toInCall.ns,λ i y v h1 h2 h3=>?_⟩,λ y c h=>⟨_,x.cell y c h⟩,e0.hok.fresh (av _),λ y c h=>?_,λ p hp=>absurd (show p∈([]:List (Addr × Obj)) from hp) (by simp),e0.hok.kept hk,?_⟩
 ·exact name_of_addr x.apart (bA h1) (bA h2)
 ·have hy:scope.names.lookup y=some .cell\/scope.names.lookup y=some .free:=hy;rcases hy with hy|hy
  ·exact Vp hy
  ·exact absurd rfl (S.nofree _ (bA hy))
 ·exact bL (x.above y c (bA h))
 ·have hi:i < vs.length:=by
   unfold start at h2;by_cases hi:i < vs.length
   ·exact hi
   ·rw [aE (by simpa using hi)] at h2;rw [d7] at h2
    split at h2 <;> cases h2
  have ha:vs[i]?=some v:=by
   unfold start at h2;rw [aJ (by simpa using hi),ak] at h2;cases e:vs[i]? with
   | none=>rw [e] at h2;cases h2
   | some a=>rw [e] at h2;cases h2;rfl
  obtain ⟨u,hu,rv⟩:=r.get ha;have hp:ps[i]?=some y:=by
   rw [<- S.pre,List.getElem?_take_of_lt (by omega)];exact h1
  have ndP:ps.Nodup:=by rw [<- S.pre];exact S.nd.sublist (List.take_sublist _ _)
  refine ⟨u,rv,?_⟩;rcases S.par y (ah hp) with k|k
  ·exact .inl ⟨k,Xh ndP hp hu k⟩
  ·obtain ⟨c,e⟩:=Vp (n:=s.heap.objs.size + 1) k;refine .inr ⟨.inl k,c,e,?_⟩;have q:=x.cell y c e;rw [Xj ndP hp hu (by show scope.names.lookup y≠_;rw [k];decide)] at q;exact q
 ·exact e0.hok.fresh (bL (x.above y c (bA h)))
 ·unfold start;show _=N.length
  rw [aQ,ae,bj];omega
theorem zdu {CX:CXT} {P:Program} {w:World} {K:PySem.W.Frag} {mg:Str->Option Value} {base:Heap} {k:Nat} {f:Addr} {name qual:Str} {params:Arguments} {body:List Stmt} {scope:Scope} {dV kV doc pm cdv ct oc:Value} {an od:Option Addr}
  {osl:Array (Option Value)} {N ps:List Str} {sp:Sp} (lk:K.lookup f=some ⟨oc,od,.func (PySem.W.fnOf name qual params body scope dV kV doc pm an cdv ct),osl⟩) (hcd:PySem.W.codeIn K cdv qual=true) (S:FnScope N ps scope)
  (len:∀ vs H Q E,sp vs H Q E->vs.length=ps.length)
  (hbody:∀ (A:Around) (outer:List Env) (s:Shared) (H:Hp) (vs:List V) (Q:VK) (E:XK),Room k (A.deeper (envOfC qual scope s.heap.objs.size f cdv))->sp vs H Q E ->
   ∃ t,PSs (Qg CX P w K mg base N qual scope f cdv A outer s H E) body t/\t { nx:=λ _ H'=>Q .non H',rt:=Q } (start N vs) H) :
  FnOk P w K mg base CX (k + 1) f (PySem.W.fnOf name qual params body scope dV kV doc pm an cdv ct) ps sp:=by
 refine ⟨len,λ A outer s H args us vs Q E hr e0 hb r hsp=>?_⟩;have hl:=len _ _ _ _ hsp;have KX:K.In s.heap:=e0.mod.kin.keeps λ b o e=>(e0.bs b o e).1;have lim:s.heap.NoLimit:=e0.mod.nolimit.keeps λ b o e=>(e0.bs b o e).1;have hkind:∀ y∈ps.zip us,scope.names.lookup y.1=some .local\/(scope.names.lookup y.1=some .cell/\((cellsFrom (s.heap.objs.size + 1) scope.names []).lookup y.1).isSome=true):=λ ⟨n,v⟩ hy=>by
  rcases S.par n (of_mem_zip hy).1 with q|q
  ·exact .inl q
  ·exact .inr ⟨q,ed _ _ _ (.inl q)⟩
 refine codeAny_call_function hr.depth (KX _ _ lk) rfl S.co S.gen rfl (PySem.W.codeRec_of KX hcd) (hb _ _ _ _ ?_);refine wpAny_newFunctionEnv_cells S.kind hkind λ env he s1 x=>?_;subst he;refine ⟨lim.keeps x.toInCall.keep,codeAny_func ?_⟩;obtain ⟨t,ht,hq⟩:=hbody A outer s H vs Q E (hr.deeper _) hsp;have I:Inv (Qg CX P w K mg base N qual scope f cdv A outer s H E) [] (start N vs) H s1:=zbW S hr.hd e0 hl r x;refine a9 (ht [] s1 (start N vs) H _ I hq) (λ fl s' hs=>?_) λ e s' hs=>hs;have fin:∀ {σ':St} {H':Hp} {v:V} {u:Value},Inv (Qg CX P w K mg base N qual scope f cdv A outer s H E) [] σ' H' s'->RelV v u->Q v H'->CE outer P w H s Q u s' :=
  λ {σ' H' v u} J rv q=>⟨v,H',J.os,J.bare,J.base,J.hok,rv,q⟩
 cases fl with
 | ret u =>
  obtain ⟨v,σ',H',J,rv,q⟩:=hs;exact fin J rv q
 | next =>
  obtain ⟨σ',H',J,q⟩:=hs;exact fin (v:=V.non) (u:=Value.none) J rfl q
 | brk =>
  obtain ⟨_,_,_,q⟩:=hs;exact False.elim q
 | cont =>
  obtain ⟨_,_,_,q⟩:=hs;exact False.elim q
end L2
namespace L2
open PySem PySem.Spec PyProof.Rows
section
variable {X:Cx} {x:Str} {p pos:Pos} {e:Expr} {es:List Expr} {t:TA} {id T:String} {r:List V->Hp->VK->Prop}
def tCB (r:List V->Hp->VK->Prop) (t:TA):TE:=λ σ H Q=>t σ H λ vs H1=>r vs H1 Q
theorem zcX (hc:CallR X (.builtin id) r) (hg:Gl X x) (hm:X.mg x=none) (hv:bootBuiltins x=some (.builtin id)) (ha:PA X (e :: es) t) (hn:x≠"__name__":=by decide) (hdb:(x == ("__debug__":Str))=false:=by decide)
  (he:starEach (e :: es) X.env=(false,eval e X.env) :: starEach es X.env:=by rfl) (hpl:(backTo pos (starEach es X.env)).any (·.1)=false:=by rfl):PE X (.Call (.Name x p) (e :: es) [] pos) (tCB r t):=by
 intro pins s σ H Q I h;refine bu (wc I hg hm hv ?_ hn hdb);exact PyProof.Rows.callWith_builtin1 (wu (ha pos pins s σ H _ I h) λ us s1 vs H1 I1 r1 q1=>hc pins s1 σ H1 vs us Q I1 r1 q1) he hpl
theorem zbJ (hc:CallR X (.type T) r) (hg:Gl X x) (hm:X.mg x=none) (hv:bootBuiltins x=some (.type T)) (ha:PA X (e :: es) t) (hn:x≠"__name__":=by decide) (hdb:(x == ("__debug__":Str))=false:=by decide)
  (he:starEach (e :: es) X.env=(false,eval e X.env) :: starEach es X.env:=by rfl) (hpl:(backTo pos (starEach es X.env)).any (·.1)=false:=by rfl):PE X (.Call (.Name x p) (e :: es) [] pos) (tCB r t):=by
 intro pins s σ H Q I h;refine bu (wc I hg hm hv ?_ hn hdb);exact aU (wu (ha pos pins s σ H _ I h) λ us s1 vs H1 I1 r1 q1=>hc pins s1 σ H1 vs us Q I1 r1 q1) he hpl
end
end L2
namespace HT
open PySem PyProof.Rows
section
open PySem.SeqAt
open PySem.AutoSeq1 (wpAny_loadPart')
open PySem.MeetsSeq PySem.MeetsSeq2 PySem.MeetsSeq3
end
section
variable {prog:Program} {w:World} {A:Around} {E:Value->Shared->Prop} {s:Shared}
def sIx (n d:Nat):Option Int->Nat
 | none=>d
 | some v=>if v < 0 then (v + (n:Int)).toNat else min v.toNat n
theorem sIx_none (n d:Nat):sIx n d none=d:=rfl
theorem sIx_nat (n d k:Nat):sIx n d (some (k:Int))=min k n:=by
 show (if (k:Int) < 0 then ((k:Int) + (n:Int)).toNat else min (k:Int).toNat n)=min k n
 rw [aw (by omega),aO]
end
end HT
namespace L2
open PySem PySem.Spec PyProof.Rows
abbrev TO:=St->Hp->(Option Int->Hp->Prop)->Prop
def PO (X:Cx) (e:Option Expr) (t:TO):Prop :=
 ∀ (pins:List (Addr × Obj)) (s:Shared) (σ:St) (H:Hp) (Q:Option Int->Hp->Prop),Inv X pins σ H s->t σ H Q ->
  wpAny (model X.prog X.w) X.A (evalPart e X.env) (λ u s'=>∃ o H',Inv X pins σ H' s'/\IsPart u o/\Q o H') X.xe s
def tNoPart:TO:=λ _ H Q=>Q none H
def tPart (t:TE):TO:=λ σ H Q=>t σ H λ x H1=>iq x λ i=>Q (some i) H1
theorem zam {ns:List Int}:∀ {us:List Value},Vals (ns.map V.int) us->IntsAre us ns:=by
 induction ns with
 | nil=>intro us r;rw [List.map_nil] at r;cases r;exact .nil
 | cons n ns ih =>
  intro us r;rw [dm] at r;cases r with
  | cons r1 r2 =>
   obtain ⟨t,e⟩:=r1;subst e;exact .cons n t (ih r2)
section
variable {X:Cx} {e:Expr} {te:TE} {lo hi:Option Expr} {tl th:TO} {pos p2:Pos}
theorem vW:PO X none tNoPart:=by
 intro pins s σ H Q I h;rw [evalPart_none];exact aM ⟨none,H,I,.none,h⟩
theorem x8 (h:PE X e te):PO X (some e) (tPart te):=by
 intro pins s σ H Q I hw;rw [evalPart_some];refine qY (h pins s σ H _ I hw) λ u s1 x H1 I1 r1 q1=>?_;obtain ⟨i,rfl,q⟩:=Zb q1;obtain ⟨t,rfl⟩:=r1;exact ⟨some i,H1,I1,.int i t,q⟩
def SlR (X:Cx) (r:V->Option Int->Option Int->Hp->VK->Prop):Prop :=
 ∀ (pins:List (Addr × Obj)) (s:Shared) (σ:St) (H:Hp) (x:V) (v vl vu:Value) (lo hi:Option Int) (sl:Addr) (Q:VK),Inv X pins σ H s->RelV x v->s.heap.IsSliceOf sl vl vu .none->IsPart vl lo->IsPart vu hi->r x lo hi H Q ->
  ∃ T id,typeLookup (.type T) "__getitem__"=pure (some (.builtin id))/\s.TypeIs v T/\wpAny (model X.prog X.w) X.A (getItem v (.ref sl)) (EP X pins σ Q) X.xe s
theorem SlR.or {r r':V->Option Int->Option Int->Hp->VK->Prop} (h:SlR X r) (h':SlR X r'):SlR X (λ x lo hi H Q=>r x lo hi H Q\/r' x lo hi H Q):=by
 intro pins s σ H x v vl vu lo hi sl Q I rx hs pl pu q;rcases q with q|q
 ·exact h pins s σ H x v vl vu lo hi sl Q I rx hs pl pu q
 ·exact h' pins s σ H x v vl vu lo hi sl Q I rx hs pl pu q
def tSl (r:V->Option Int->Option Int->Hp->VK->Prop) (te:TE) (tl th:TO):TE:=λ σ H Q=>te σ H λ x H1=>tl σ H1 λ l H2=>th σ H2 λ u H3=>r x l u H3 Q
theorem xE {r:V->Option Int->Option Int->Hp->VK->Prop} (hr:SlR X r) (he:PE X e te) (hl:PO X lo tl) (hu:PO X hi th):PE X (.Subscript e (.Slice lo hi none p2) pos) (tSl r te tl th):=by
 intro pins s σ H Q I h;refine Subscript_ (qY (he pins s σ H _ I h) λ v s1 x H1 I1 r1 q1=>?_);refine wpAny_Slice (thn (hl pins s1 σ H1 _ I1 q1) λ vl s2 ⟨l,H2,I2,pl,q2⟩=>thn (hu pins s2 σ H2 _ I2 q2) λ vu s3 ⟨u,H3,I3,pu,q3⟩=>?_);rw [evalPart_none];refine aM ?_;have I4:Inv X pins σ H3 { s3 with heap:=s3.heap.push { cls:=.type "slice",data:=.fields #[vl,vu,.none] } }:=I3.kept (t':=s3.toks) λ b ob q=>ai _ q;obtain ⟨T,id,hT,ht,hg⟩:=hr pins { s3 with heap:=s3.heap.push { cls:=.type "slice",data:=.fields #[vl,vu,.none] } } σ H3 x v vl vu l u s3.heap.objs.size Q I4 r1 (Heap.IsSliceOf.new ..) pl pu q3;show wpAny (model X.prog X.w) X.A (subscriptTail e (.Slice lo hi none p2) v (.ref s3.heap.objs.size)) (EP X pins σ Q) X.xe { s3 with heap:=s3.heap.push { cls:=.type "slice",data:=.fields #[vl,vu,.none] } }
 exact tail_any (ops:=[.ref s3.heap.objs.size,v]) ht hT hg (by with_unfolding_all rfl)
def Zf (xs:List V) (lo hi:Option Int):List V:=(xs.drop (HT.sIx xs.length 0 lo)).take (HT.sIx xs.length xs.length hi - HT.sIx xs.length 0 lo)
theorem Vl (xs:List V) (lo hi:Option Int):(Zf xs lo hi).length<=xs.length:=by
 unfold Zf;rw [aI,cU];omega
end
end L2
namespace L2
open PySem PySem.Spec PyProof.Rows
def ixN (n:Nat) (i:Int):Option Nat:=if 0<=i then (if i < n then some i.toNat else none) else if -(n:Int)<=i then some (i + n).toNat else none
def atI {α:Type} (xs:List α) (i:Int):Option α:=(ixN xs.length i).bind λ j=>xs[j]?
theorem zaR {n:Nat} {i:Int} {j:Nat} (h:ixN n i=some j):seqIndex? i n=some j/\j < n/\-(n:Int)<=i/\i < n:=by
 unfold ixN at h;by_cases h0:0<=i
 ·rw [aA h0] at h;by_cases h1:i < n
  ·rw [aA h1] at h;have e:i.toNat=j:=aS h;exact ⟨by rw [d5 h0 h1,e],by omega,by omega,h1⟩
  ·rw [aw h1] at h;cases h
 ·rw [aw h0] at h;by_cases h1:-(n:Int)<=i
  ·rw [aA h1] at h;have e:(i + n).toNat=j:=aS h;exact ⟨by rw [seqIndex_neg (by omega) h1,e],by omega,h1,by omega⟩
  ·rw [aw h1] at h;cases h
theorem Qs {α:Type} {xs:List α} {i:Int} {v:α} (h:atI xs i=some v):∃ j,seqIndex? i xs.length=some j/\xs[j]?=some v/\j < xs.length/\-(xs.length:Int)<=i/\i < xs.length:=by
 unfold atI at h;cases e:ixN xs.length i with
 | none=>rw [e] at h;cases h
 | some j =>
  rw [e] at h;obtain ⟨h1,h2,h3,h4⟩:=zaR e;exact ⟨j,h1,h,h2,h3,h4⟩
theorem zG {α:Type} {xs:List α} {j:Nat} {v:α} (h:xs[j]?=some v):atI xs (j:Int)=some v:=by
 have hj:j < xs.length:=(aa.mp h).1;have e:ixN xs.length (j:Int)=some j:=by
  unfold ixN;rw [aA (by omega),aA (by omega)];simp
 unfold atI;rw [e];exact h
def zbh (b:Expr):Prop:=∀ o i,subscripted b false o i=operate [o,i] (getItem o i)
def IxR (X:Cx) (r:R2):Prop :=
 ∀ (value slice:Expr) (pins:List (Addr × Obj)) (s:Shared) (σ:St) (H:Hp) (x y:V) (v u:Value) (Q:VK),Inv X pins σ H s->RelV x v->RelV y u->r x y H Q ->
  subscripted slice false v u=operate [v,u] (getItem v u)->wpAny (model X.prog X.w) X.A (subscriptTail value slice v u) (EP X pins σ Q) X.xe s
def MtR (X:Cx) (id:String) (r:V->List V->Hp->VK->Prop):Prop :=
 ∀ (pins:List (Addr × Obj)) (s:Shared) (σ:St) (H:Hp) (x:V) (xs:List V) (v:Value) (us:List Value) (Q:VK),Inv X pins σ H s->RelV x v->Vals xs us->r x xs H Q ->
  wpAny (model X.prog X.w) X.A (call (.builtin id) (v :: us)) (EP X pins σ Q) X.xe s
section
variable {X:Cx} {a b:Expr} {ta tb:TE} {pos:Pos}
theorem IxR.or {r r':R2} (h:IxR X r) (h':IxR X r'):IxR X (λ x y H Q=>r x y H Q\/r' x y H Q):=by
 intro value slice pins s σ H x y v u Q I rx ry q hs;rcases q with q|q
 ·exact h value slice pins s σ H x y v u Q I rx ry q hs
 ·exact h' value slice pins s σ H x y v u Q I rx ry q hs
theorem MtR.or {id:String} {r r':V->List V->Hp->VK->Prop} (h:MtR X id r) (h':MtR X id r'):MtR X id (λ x xs H Q=>r x xs H Q\/r' x xs H Q):=by
 intro pins s σ H x xs v us Q I rx rs q;rcases q with q|q
 ·exact h pins s σ H x xs v us Q I rx rs q
 ·exact h' pins s σ H x xs v us Q I rx rs q
theorem zf6 {r:R2} (hr:IxR X r) (ha:PE X a ta) (hb:PE X b tb) (hs:zbh b):PE X (.Subscript a b pos) (tOp r ta tb):=by
 intro pins s σ H Q I h;exact Subscript_ (zfM ha hb I h λ v u s2 x y H2 I2 rx ry q=>hr a b pins s2 σ H2 x y v u Q I2 rx ry q (hs _ _))
def zf4 (K:PySem.W.Frag):R2:=λ x y H Q=>∃ p xs i v,x=.ref p/\y=.int i/\SqL K H p xs/\atI xs i=some v/\Q v H
def zf2 (K:PySem.W.Frag):R2:=λ x y H Q=>∃ p xs i v,x=.ref p/\y=.int i/\SqT K H p xs/\atI xs i=some v/\Q v H
def zf3:R2:=λ x y H Q=>∃ z i c,x=.str z/\y=.int i/\z.length<=sizeLine/\atI z.cps.toList i=some c/\Q (.str ⟨#[c]⟩) H
theorem ix_list:IxR X (zf4 X.K):=by
 intro value slice pins s σ H x y v u Q I rx ry h hs;obtain ⟨p,xs,i,z,rfl,rfl,hq,he,q⟩:=h;cases rx;obtain ⟨t,rfl⟩:=ry;obtain ⟨its,r,pl,hz⟩:=I.list hq;obtain ⟨j,h1,h2,h3,h4,h5⟩:=Qs he;obtain ⟨w,ew,rw'⟩:=r.get h2;have hl:=r.length;have hn:=vD;have fin:EP X pins σ Q w s:=⟨z,H,I,rw',q⟩;by_cases h0:0<=i
 ·have hj:i.toNat=j:=by
   rw [d5 h0 h5] at h1;exact aS h1
  exact item_listR pl.isList h0 (by omega) (by rw [hj];simpa using ew) fin hs
 ·have hj:(i + (its.toArray.size:Int)).toNat=j:=by
   rw [seqIndex_neg (by omega) h4] at h1;rw [au,<- hl];exact aS h1
  exact subscriptTail_builtinR (x:=w) pl.isList.typeIs slot_list_getitem.lookup
   (wpAny_getItem_list_neg (Q:=λ r s'=>r=w/\EP X pins σ Q r s') pl.isList (by omega) (by rw [au] <;> omega) (by omega) (by rw [hj];simpa using ew) ⟨rfl,fin⟩) hs
theorem ix_tup:IxR X (zf2 X.K):=by
 intro value slice pins s σ H x y v u Q I rx ry h hs;obtain ⟨p,xs,i,z,rfl,rfl,hq,he,q⟩:=h;cases rx;obtain ⟨t,rfl⟩:=ry;obtain ⟨its,r,pl,hz⟩:=I.tuple hq;obtain ⟨j,h1,h2,h3,h4,h5⟩:=Qs he;obtain ⟨w,ew,rw'⟩:=r.get h2;have hl:=r.length;have hn:=vD;have fin:EP X pins σ Q w s:=⟨z,H,I,rw',q⟩;exact subscriptTail_builtinR (x:=w) pl.typeIs slot_tuple_getitem.lookup
  (getItem_tuple (j:=j) (Q:=λ r s'=>r=w/\EP X pins σ Q r s') pl (by omega) (by omega) (by rw [au,<- hl];exact h1) (by simpa using ew) ⟨rfl,fin⟩) hs
theorem zfA:IxR X zf3:=by
 intro value slice pins s σ H x y v u Q I rx ry h hs;obtain ⟨z,i,c,rfl,rfl,hz,he,q⟩:=h;obtain ⟨t,rfl⟩:=rx;obtain ⟨t',rfl⟩:=ry;obtain ⟨j,h1,h2,h3,h4,h5⟩:=Qs he;have hl:z.cps.toList.length=z.length:=by simp [Str.length]
 rw [hl] at h1 h4 h5;have hn:=vD;exact tail_any (typeIs_str s z t) slot_str_getitem.lookup (getItem_str (c:=c) (by
  have e1:decide (i < -(2 ^ 63:Int))=false:=aY (by omega);have e2:decide (i ≥ 2 ^ 63)=false:=aY (by omega);rw [e1,e2,Bool.or_false]) (by rw [h1];simpa using h2) ⟨.str ⟨#[c]⟩,H,I.tok _,⟨_,rfl⟩,q⟩) hs
def rIx (K:PySem.W.Frag):R2:=λ x y H Q=>zf4 K x y H Q\/zf2 K x y H Q\/zf3 x y H Q
theorem zfB:IxR X (rIx X.K):=ix_list.or (ix_tup.or zfA)
theorem zab (its:List Value) (n j:Nat) (u:Value):Obj.mapSeq (·.setIfInBounds j u) { cls:=.type "list",data:=.seq its.toArray n }={ cls:=.type "list",data:=.seq (its.set j u).toArray n }:=by
 simp [Obj.mapSeq]
theorem Inv.lst {pins:List (Addr × Obj)} {σ:St} {H:Hp} {s:Shared} {p:Addr} {xs:List V} (I:Inv X pins σ H s) (h:H p=some (.lst xs)) :
  ∃ (its:List Value) (n:Nat),Vals xs its/\s.heap.get? p=some { cls:=.type "list",data:=.seq its.toArray n }/\xs.length<=sizeLine:=by
 obtain ⟨z,its,n,r,e⟩:=I.hok p _ h;exact ⟨its,n,r,e,z⟩
theorem Inv.lstUpd {pins:List (Addr × Obj)} {σ:St} {H:Hp} {s:Shared} {p:Addr} {xs ys:List V} {its its':List Value} {n n':Nat} {f:Obj->Obj} (I:Inv X pins σ H s) (h:H p=some (.lst xs))
  (ho:s.heap.get? p=some { cls:=.type "list",data:=.seq its.toArray n }) (hf:f { cls:=.type "list",data:=.seq its.toArray n }={ cls:=.type "list",data:=.seq its'.toArray n' }) (r:Vals ys its') (hz:ys.length<=sizeLine) (t:Nat) :
  Inv X pins σ (upd H p (.lst ys)) { s with heap:=s.heap.update p f,toks:=t }:=by
 have e:(s.heap.update p f).get? p=some { cls:=.type "list",data:=.seq its'.toArray n' }:=by
  rw [bM f ho (by rw [hf] <;> rfl),hf]
 refine I.write (x:=p) (e:=p) (by rw [h];trivial) (.inl rfl) (λ b u hb q=>(a8 _ _ (aX hb)).trans q) ⟨_,e⟩ ?_;exact ⟨hz,its',n',r,e⟩
def zeJ:V->V->V->Hp->(Hp->Prop)->Prop:=λ o i v H Q=>∃ p xs k j,o=.ref p/\i=.int k/\H p=some (.lst xs)/\ixN xs.length k=some j/\Q (upd H p (.lst (xs.set j v)))
theorem jE:zfR X zeJ:=by
 intro pins s σ H o i v ov iv u Q I ro ri rv h;obtain ⟨p,xs,k,j,rfl,rfl,hp,hj,q⟩:=h;cases ro;obtain ⟨t,rfl⟩:=ri;obtain ⟨its,n,r,ho,hz⟩:=I.lst hp;obtain ⟨h1,h2,h3,h4⟩:=zaR hj;have hl:=r.length;have hn:=vD;have I':Inv X pins σ (upd H p (.lst (xs.set j v))) { s with heap:=s.heap.update p (Obj.mapSeq (·.setIfInBounds j u)) } :=
  I.lstUpd hp ho (zab its n j u) (r.set rv j) (by rw [bT];exact hz) s.toks
 by_cases h0:0<=k
 ·have hk:k.toNat=j:=by
   rw [d5 h0 h4] at h1;exact aS h1
  exact PySem.W.ki_setAt ho h0 (by omega) (by rw [au,<- hl];exact h4) (by rw [hk];exact ⟨_,I',q⟩)
 ·have hk:(k + (its.toArray.size:Int)).toNat=j:=by
   rw [seqIndex_neg (by omega) h3] at h1;rw [au,<- hl];exact aS h1
  exact PySem.W.ki_setBack ho (by omega) (by rw [au,<- hl];exact h3) (by omega) (by rw [hk];exact ⟨_,I',q⟩)
theorem Xr (lo hi:Option Int) (n:Nat):(sliceBounds lo hi none n).1=((HT.sIx n 0 lo:Nat):Int)/\(sliceBounds lo hi none n).2.1=((HT.sIx n n hi:Nat):Int)/\(sliceBounds lo hi none n).2.2=1:=by
 refine ⟨?_,?_,rfl⟩
 ·cases lo with
  | none=>simp [sliceBounds,HT.sIx]
  | some i =>
   simp only [sliceBounds,HT.sIx,dC,show (1:Int) > 0 by decide,dA];by_cases h:i < 0
   ·simp only [h,dA] <;> omega
   ·simp only [h,dJ] <;> omega
 ·cases hi with
  | none=>simp [sliceBounds,HT.sIx]
  | some i =>
   simp only [sliceBounds,HT.sIx,dC,show (1:Int) > 0 by decide,dA];by_cases h:i < 0
   ·simp only [h,dA] <;> omega
   ·simp only [h,dJ] <;> omega
theorem Jt (its:List Value) (lo hi:Option Int):slicePick its.toArray lo hi none=((its.drop (HT.sIx its.length 0 lo)).take (HT.sIx its.length its.length hi - HT.sIx its.length 0 lo)).toArray:=by
 obtain ⟨h1,h2,h3⟩:=Xr lo hi its.toArray.size;unfold slicePick;rw [h1,h2,h3];simp only [sliceRange_one,pick_run,au] <;> rfl
def ze8 (K:PySem.W.Frag):V->Option Int->Option Int->Hp->VK->Prop:=λ x lo hi H Q=>∃ a xs,x=.ref a/\SqL K H a xs/\∀ p,H p=none->Q (.ref p) (upd H p (.lst (Zf xs lo hi)))
theorem zdX:SlR X (ze8 X.K):=by
 intro pins s σ H x v vl vu lo hi sl Q I rx hs pl pu h;obtain ⟨a,xs,rfl,hx,q⟩:=h;cases rx;obtain ⟨its,r,ht,hz⟩:=I.list hx;have hlen:=r.length;refine ⟨"list",_,slot_list_getitem.lookup,ht.isList.typeIs,?_⟩;refine wpAny_getItem_list_slice ht.isList hs pl pu .none (by simp) ?_ (by rw [au] <;> omega);rw [Jt,<- hlen];refine ⟨.ref s.heap.objs.size,_,I.laid (t':=s.toks) (o:=.lst (Zf xs lo hi)) (λ b ob q=>ai _ q) (av _) ?_,rfl,q _ (I.hok.fresh (av _))⟩;exact ⟨bh (Vl xs lo hi) hz,_,0,(r.drop (HT.sIx xs.length 0 lo)).take (HT.sIx xs.length xs.length hi - HT.sIx xs.length 0 lo),aD _ rfl⟩
def jT:V->Bool
 | .non=>true
 | .bl _=>true
 | .int _=>true
 | .str _=>true
 | _=>false
def eqV:V->V->Bool
 | .non,.non=>true
 | .bl a,.bl b=>a == b
 | .bl a,.int b=>(if a then 1 else 0) == b
 | .int a,.bl b=>a == (if b then 1 else 0)
 | .int a,.int b=>a == b
 | .str a,.str b=>a == b
 | _,_=>false
theorem Je {A:Around} {s:Shared} {y x:V} {u v:Value} (ry:RelV y u) (rx:RelV x v) (fy:jT y=true) (fx:jT x=true):SeqAt.EqAt A s u v (eqV y x):=by
 cases y with
 | non =>
  cases ry;cases x with
  | non=>cases rx;exact SeqAt.EqAt.same _
  | bl b=>cases rx;exact SeqAt.EqAt.none_bool b
  | int b=>obtain ⟨t,rfl⟩:=rx;exact SeqAt.EqAt.none_int b t
  | str b=>obtain ⟨t,rfl⟩:=rx;exact SeqAt.EqAt.none_str b t
  | _=>exact absurd (show false=true from fx) aC
 | bl a =>
  cases ry;cases x with
  | non=>cases rx;exact SeqAt.EqAt.bool_none a
  | bl b=>cases rx;exact SeqAt.EqAt.bool_bool a b
  | int b=>obtain ⟨t,rfl⟩:=rx;exact SeqAt.EqAt.bool_int a b t
  | str b=>obtain ⟨t,rfl⟩:=rx;exact SeqAt.EqAt.bool_str a b t
  | _=>exact absurd (show false=true from fx) aC
 | int a =>
  obtain ⟨t',rfl⟩:=ry;cases x with
  | non=>cases rx;exact SeqAt.EqAt.int_none a t'
  | bl b=>cases rx;exact SeqAt.EqAt.int_bool a t' b
  | int b=>obtain ⟨t,rfl⟩:=rx;exact SeqAt.EqAt.int_int a t' b t
  | str b=>obtain ⟨t,rfl⟩:=rx;exact SeqAt.EqAt.int_str a t' b t
  | _=>exact absurd (show false=true from fx) aC
 | str a =>
  obtain ⟨t',rfl⟩:=ry;cases x with
  | non=>cases rx;exact SeqAt.EqAt.str_none a t'
  | bl b=>cases rx;exact SeqAt.EqAt.str_bool a t' b
  | int b=>obtain ⟨t,rfl⟩:=rx;exact SeqAt.EqAt.str_int a t' b t
  | str b=>obtain ⟨t,rfl⟩:=rx;exact SeqAt.EqAt.str_str a t' b t
  | _=>exact absurd (show false=true from fx) aC
 | _=>exact absurd (show false=true from fy) aC
theorem CallR.or {f:Value} {r r':List V->Hp->VK->Prop} (h:CallR X f r) (h':CallR X f r'):CallR X f (λ xs H Q=>r xs H Q\/r' xs H Q):=by
 intro pins s σ H xs us Q I rs q;rcases q with q|q
 ·exact h pins s σ H xs us Q I rs q
 ·exact h' pins s σ H xs us Q I rs q
theorem X5:CallR X (.type "list") (λ xs H Q=>∃ p ys,xs=[.ref p]/\(SqL X.K H p ys\/SqT X.K H p ys)/\∀ l,H l=none->Q (.ref l) (upd H l (.lst ys))):=by
 intro pins s σ H xs us Q I r h;obtain ⟨p,ys,rfl,hq,q⟩:=h;obtain ⟨u,rfl,rx⟩:=ZR r;cases rx;have fin:∀ (its:List Value),Vals ys its->ys.length<=sizeLine->∀ (h':Heap) (c':Nat),(∀ b o',s.heap.get? b=some o'->h'.get? b=some o') ->
   h'.get? s.heap.objs.size=some { cls:=.type "list",dict:=none,data:=.seq its.toArray c',slots:=#[] }->EP X pins σ Q (.ref s.heap.objs.size) { s with heap:=h' }:=λ its r' hz h' c' kp e =>
  ⟨.ref s.heap.objs.size,_,I.laid (t':=s.toks) kp (av _) (show ObjOk X.prog X.w _ h' _ (.lst ys) from ⟨hz,its,c',r',e⟩),rfl,q _ (I.hok.fresh (av _))⟩
 rcases hq with hq|hq
 ·obtain ⟨its,r',pl,hz⟩:=I.list hq;have hlen:=r'.length;obtain ⟨o,ho,hc,n,hd⟩:=pl.isList;exact call_list_seq p (.inl rfl) ho hc hd (λ h' c' kp e=>fin its r' hz h' c' kp e) (by simp only [au] <;> omega)
 ·obtain ⟨its,r',pl,hz⟩:=I.tuple hq;have hlen:=r'.length;obtain ⟨o,ho,hc,n,hd⟩:=pl;exact call_list_seq p (.inr rfl) ho hc hd (λ h' c' kp e=>fin its r' hz h' c' kp e) (by simp only [au] <;> omega)
theorem JK:CallR X (.type "tuple") (λ xs H Q=>∃ p ys,xs=[.ref p]/\((SqL X.K H p ys/\∀ l,H l=none->Q (.ref l) (upd H l (.tup ys)))\/(SqT X.K H p ys/\Q (.ref p) H))):=by
 intro pins s σ H xs us Q I r h;obtain ⟨p,ys,rfl,h⟩:=h;obtain ⟨u,rfl,rx⟩:=ZR r;cases rx;rcases h with ⟨hq,q⟩|⟨hq,q⟩
 ·obtain ⟨its,r',pl,hz⟩:=I.list hq;have hlen:=r'.length;refine call_tuple_list pl.isList (λ h' kp=>?_) (by simp only [au] <;> omega);have I1:Inv X pins σ H { s with heap:=h' }:=I.kept (t':=s.toks) kp;have I2:Inv X pins σ (upd H h'.objs.size (.tup ys)) { s with heap:=h'.push { cls:=.type "tuple",data:=.seq its.toArray } } :=
   I1.laid (t':=s.toks) (λ b o e=>ai _ e) (av _) (show ObjOk X.prog X.w _ _ _ (.tup ys) from ⟨hz,its,r',IsTup.new _ _⟩)
  exact ⟨.ref h'.objs.size,_,I2,rfl,q _ (I1.hok.fresh (av _))⟩
 ·obtain ⟨its,r',pl,hz⟩:=I.tuple hq;exact call_tuple_same pl ⟨.ref p,H,I,rfl,q⟩
def tyV (K:PySem.W.Frag) (T:String) (x:V) (H:Hp):Prop:=match x with
 | .str _=>T="str"
 | .int _=>T="int"
 | .ref p=>(T="list"/\∃ xs,SqL K H p xs)\/(T="tuple"/\∃ o,K.lookup p=some o/\o.cls=.type "tuple"/\o.dict=none) \/
   (T="dict"/\((∃ kvs,H p=some (.dK kvs))\/∃ kvs,H p=some (.dT kvs)))\/(T="set"/\∃ S n,H p=some (.set S n))
 | _=>False
theorem zeU {pins:List (Addr × Obj)} {σ:St} {H:Hp} {s:Shared} {T:String} {x:V} {v:Value} (I:Inv X pins σ H s) (r:RelV x v) (ty:tyV X.K T x H) :
  s.TypeIs v T/\∀ a,v=.ref a->∃ ob,s.heap.get? a=some ob/\ob.dict=none:=by
 cases x with
 | str z =>
  obtain ⟨t,rfl⟩:=r;cases (show T="str" from ty);exact ⟨typeIs_str s z t,λ _ e=>nomatch e⟩
 | int i =>
  obtain ⟨t,rfl⟩:=r;cases (show T="int" from ty);exact ⟨typeIs_int s i t,λ _ e=>nomatch e⟩
 | ref p =>
  cases r;rcases ty with ⟨rfl,xs,hq⟩|⟨rfl,o,hk,hc,hd⟩|⟨rfl,hk⟩|⟨rfl,S,n,hk⟩
  ·obtain ⟨its,_,pl,_⟩:=I.list hq;refine ⟨pl.isList.typeIs,λ a e=>?_⟩;cases e;obtain ⟨o,n,e,c,hd,_⟩:=pl;exact ⟨o,e,hd⟩
  ·refine ⟨⟨o,I.kIn p o hk,hc⟩,λ a e=>?_⟩;cases e;exact ⟨o,I.kIn _ o hk,hd⟩
  ·have z:∃ o,s.heap.get? p=some o/\o.ExactDict:=by
    rcases hk with ⟨kvs,hk⟩|⟨kvs,hk⟩
    ·obtain ⟨_,_,_,_,o,_,_,e,ex,_⟩:=I.hok p _ hk;exact ⟨o,e,ex⟩
    ·obtain ⟨_,_,_,_,o,_,_,e,ex,_⟩:=I.hok p _ hk;exact ⟨o,e,ex⟩
   obtain ⟨o,e,ex⟩:=z;refine ⟨⟨o,e,ex.1⟩,λ a e2=>?_⟩;cases e2;exact ⟨o,e,ex.2.1⟩
  ·obtain ⟨o,_,_,_,e,ex,_⟩:=I.hok p _ hk;refine ⟨⟨o,e,ex.1⟩,λ a e2=>?_⟩;cases e2;exact ⟨o,e,ex.2.1⟩
 | _=>exact False.elim ty
def tBM (K:PySem.W.Frag) (T:String) (r:V->List V->Hp->VK->Prop) (to:TE) (t:TA):TE:=λ σ H Q=>to σ H λ x H1=>tyV K T x H1/\t σ H1 λ xs H2=>r x xs H2 Q
variable {o e:Expr} {es:List Expr} {to:TE} {t:TA} {name:Str} {apos cpos:Pos} {T id:String} {r:V->List V->Hp->VK->Prop}
theorem qp (pa:PlainAttrs T) (slot:Slot T name id) (hty:typeOf (.builtin id)=pure (.type "method_descriptor")) (hm:MtR X id r) (ho:PE X o to) (ha:PA X (e :: es) t)
  (hbase:attributeBase o name X.env (eval o X.env)=eval o X.env:=by rfl)
  (hfew:((backTo cpos (starEach (e :: es) X.env)).all (λ x=>!x.1) && (backToKw cpos (keywordEach [] X.env)).all (λ x=>x.1.isSome)
   && decide ((e :: es).length + ([]:List Keyword).length + (if ([]:List Keyword).isEmpty then 0 else 1) < 30))=true:=by rfl)
  (hline:(apos.endLine == cpos.line)=true:=by rfl) (hs:starEach (e :: es) X.env=(false,eval e X.env) :: starEach es X.env:=by rfl) (hplain:(backTo cpos (starEach es X.env)).any (·.1)=false:=by rfl) :
  PE X (.Call (.Attribute o name apos) (e :: es) [] cpos) (tBM X.K T r to t):=by
 intro pins s σ H Q I h;refine wpAny_Call_method_late hbase hfew hline rfl (qY (ho pins s σ H _ I h) λ v s1 x H1 I1 r1 qq_=>?_);obtain ⟨ty,q1⟩:=qq_;obtain ⟨h1,h2⟩:=zeU I1 r1 ty;refine ⟨T,id,pa,slot,hty,h1,h2,?_⟩;have hA:=ha cpos pins s1 σ H1 _ I1 q1;rw [hs] at hA ⊢;refine Calls.callWith_builtin (by show (false || (backTo cpos (starEach es X.env)).any (·.1))=false;rw [hplain] <;> rfl) (Calls.evalArgs_plain ?_);exact thn hA λ us s2 ⟨vs,H2,I2,r2,q2⟩=>hm pins s2 σ H2 x vs v us Q I2 r1 r2 q2
end
end L2
namespace L2
open PySem PySem.Spec PyProof.Rows
def MtM (X:Cx) (id:String) (r:V->List V->Hp->VK->Prop):Prop :=
 ∀ (pins:List (Addr × Obj)) (s:Shared) (σ:St) (H:Hp) (x:V) (xs:List V) (v:Value) (us:List Value) (Q:VK),Inv X pins σ H s->RelV x v->Vals xs us->r x xs H Q ->
  wpAny (model X.prog X.w) X.A (call (.builtin id) (v :: us)) (EP X pins σ Q) X.xe s
theorem Vals.one {x:V} {us:List Value} (h:Vals [x] us):∃ u,us=[u]/\RelV x u:=by
 cases h with
 | cons r t=>cases t;exact ⟨_,rfl,r⟩
theorem Vals.two {x y:V} {us:List Value} (h:Vals [x,y] us):∃ u v,us=[u,v]/\RelV x u/\RelV y v:=by
 cases h with
 | cons r t =>
  obtain ⟨v,rfl,q⟩:=Vals.one t;exact ⟨_,_,rfl,r,q⟩
theorem Vals.zero:∀ {us:List Value},Vals [] us->us=[]
 | _,.nil=>rfl
theorem Vals.eraseIdx:∀ {xs:List V} {us:List Value} (i:Nat),Vals xs us->Vals (xs.eraseIdx i) (us.eraseIdx i)
 | _,_,_,.nil=>.nil
 | _,_,0,.cons _ t=>t
 | _,_,i + 1,.cons r t=>.cons r (Vals.eraseIdx i t)
theorem Vals.reverse {xs:List V} {us:List Value} (h:Vals xs us):Vals xs.reverse us.reverse:=by
 induction h with
 | nil=>exact .nil
 | cons r t ih=>rw [List.reverse_cons,List.reverse_cons];exact Vals.append ih (.cons r .nil)
theorem Vals.rep {xs:List V} {us:List Value} (h:Vals xs us):∀ k:Nat,Vals (List.replicate k xs).flatten (List.replicate k us).flatten
 | 0=>.nil
 | k + 1=>by
  rw [eM,eM,List.flatten_cons,List.flatten_cons];exact Vals.append h (Vals.rep h k)
theorem JZ {α:Type}:∀ (l:List α) (i:Nat),(l.eraseIdx i).length<=l.length
 | [],_=>av _
 | _ :: _,0=>bX _
 | _ :: r,i + 1=>Nat.succ_le_succ (JZ r i)
section
variable {X:Cx} {pins:List (Addr × Obj)} {σ:St} {H:Hp} {s:Shared} {l b:Addr} {xs ys zs:List V}
theorem Inv.lset {its its':List Value} {n:Nat} {f:Array Value->Array Value} {t':Nat} (I:Inv X pins σ H s) (hH:H l=some (.lst xs))
  (e:s.heap.get? l=some { cls:=.type "list",data:=.seq its.toArray n }) (hf:f its.toArray=its'.toArray) (hv:Vals ys its') (hz:ys.length<=sizeLine) :
  Inv X pins σ (upd H l (.lst ys)) { s with heap:=s.heap.update l (Obj.mapSeq f),toks:=t' }:=by
 have q:=PySem.IsL.update e f;rw [hf] at q;refine I.write (x:=l) (e:=l) (by rw [hH];exact trivial) (.inl rfl) (λ b' u hb hu=>(a8 s.heap (Obj.mapSeq f) (aX hb)).trans hu) ⟨_,q⟩ ?_;exact ⟨hz,its',_,hv,q⟩
theorem Inv.lnew {its:List Value} {t':Nat} (I:Inv X pins σ H s) (hv:Vals ys its) (hz:ys.length<=sizeLine) :
  Inv X pins σ (upd H s.heap.objs.size (.lst ys)) { s with heap:=s.heap.push { cls:=.type "list",data:=.seq its.toArray },toks:=t' } :=
 I.laid (λ _ _ q=>ai _ q) (av _) ⟨hz,its,0,hv,aD _ rfl⟩
theorem Inv.fresh (I:Inv X pins σ H s):H s.heap.objs.size=none:=I.hok.fresh (av _)
theorem Inv.lstM (I:Inv X pins σ H s) (hH:H l=some (.lst xs)):xs.length<=sizeLine/\∃ (its:List Value) (n:Nat),Vals xs its/\xs.length=its.length/\s.heap.get? l=some { cls:=.type "list",data:=.seq its.toArray n }:=by
 obtain ⟨z,its,n,r,e⟩:=I.hok l _ hH;exact ⟨z,its,n,r,r.length,e⟩
theorem zc3 {n:Nat} (h:n<=sizeLine):Builtin.List.listTooLong n=false:=by
 unfold Builtin.List.listTooLong;exact aY (by omega)
end
section
variable {X:Cx}
def zea:V->List V->Hp->VK->Prop:=λ x vs H Q=>∃ l xs y,x=.ref l/\vs=[y]/\H l=some (.lst xs)/\xs.length < sizeLine/\Q .non (upd H l (.lst (xs ++ [y])))
theorem zz:MtM X "list.append" zea:=by
 intro pins s σ H x vs v us Q I rx rv h;obtain ⟨l,xs,y,rfl,rfl,hH,hz,q⟩:=h;cases rx;obtain ⟨u,rfl,ru⟩:=rv.one;obtain ⟨z,its,n,r,hl,e⟩:=I.lstM hH;refine call_meets F.slot_list_append ⟨_,e,rfl⟩ F.entry_list_append (F.args_list_append_2 _ _) (PySem.list_append l its.toArray n u (by rw [au];omega)) ⟨e,?_⟩;refine ⟨.non,_,I.lset (its':=its ++ [u]) hH e (by simp) (r.append (.cons ru .nil)) ?_,rfl,q⟩;rw [aQ,cE];omega
def zd8:V->List V->Hp->VK->Prop:=λ x vs H Q=>∃ l b xs zs,x=.ref l/\vs=[.ref b]/\H l=some (.lst xs)/\H b=some (.lst zs)/\xs.length + zs.length<=sizeLine/\Q .non (upd H l (.lst (xs ++ zs)))
theorem wU:MtM X "list.extend" zd8:=by
 intro pins s σ H x vs v us Q I rx rv h;obtain ⟨l,b,xs,zs,rfl,rfl,hH,hB,hz,q⟩:=h;cases rx;obtain ⟨u,rfl,ru⟩:=rv.one;cases ru;obtain ⟨z,its,n,r,hl,e⟩:=I.lstM hH;obtain ⟨z2,its2,n2,r2,hl2,e2⟩:=I.lstM hB;have hsz:its.toArray.size + its2.toArray.size<=sizeLine:=by rw [au,au];omega
 have hlong:¬ (!its.toArray.isEmpty && Builtin.List.listTooLong (its.toArray.size + its2.toArray.size))=true:=by
  rw [zc3 hsz,cu];exact aC
 refine call_meets F.slot_list_extend ⟨_,e,rfl⟩ F.entry_list_extend (F.args_list_extend_2 _ _)
  (AutoSeq1.list_extend_list_list_0 l its.toArray n b its2.toArray n2 hlong (by rw [au];omega) (by omega)) ⟨e,e2,?_⟩
 refine ⟨.non,_,I.lset (its':=its ++ its2) hH e (by simp) (r.append r2) ?_,rfl,q⟩;rw [aQ];omega
def ze9:V->List V->Hp->VK->Prop:=λ x vs H Q=>∃ l xs i k y,x=.ref l/\vs=[.int i]/\H l=some (.lst xs)/\-(2 ^ 63)<=i/\i < 2 ^ 63/\seqIndex? i xs.length=some k/\xs[k]?=some y/\Q y (upd H l (.lst (xs.eraseIdx k)))
theorem QZ:MtM X "list.pop" ze9:=by
 intro pins s σ H x vs v us Q I rx rv h;obtain ⟨l,xs,i,k,y,rfl,rfl,hH,h1,h2,hk,hy,q⟩:=h;cases rx;obtain ⟨u,rfl,ru⟩:=rv.one;obtain ⟨t,rfl⟩:=ru;obtain ⟨z,its,n,r,hl,e⟩:=I.lstM hH;obtain ⟨w,hw,rw'⟩:=r.get hy;refine call_meets F.slot_list_pop ⟨_,e,rfl⟩ F.entry_list_pop (F.args_list_pop_2 _ _)
  (MeetsSeq.list_pop_at l its.toArray n i t k w (fitsIndex_both h1 h2) (by rw [au,<- hl];exact hk) (by rw [<- eE];exact hw) (by rw [au];omega)) ⟨e,?_⟩
 refine ⟨y,_,I.lset (its':=its.eraseIdx k) hH e ?_ (r.eraseIdx k) ?_,rw',q⟩
 ·show its.toArray.eraseIdxIfInBounds k=(its.eraseIdx k).toArray
  rw [List.eraseIdxIfInBounds_toArray]
 ·have:=JZ xs k;omega
end
section
variable {prog:Program} {w:World} {A:Around} {E:Value->Shared->Prop} {s:Shared}
end
section
variable {X:Cx}
end
end L2
namespace Att
open PySem PySem.W PySem.Calls PyProof.Rows
theorem Qf {P:Params} {h:Heap}:∀ (ns:List Int) (vs:List Value),WellAll P h vs (ns.map WData.int)->IntsAre vs ns:=by
 intro ns
 induction ns with
 | nil =>
  intro vs w;rw [List.map_nil] at w;cases w;exact .nil
 | cons n ns ih =>
  intro vs w;rw [dm] at w;cases w with
  | cons a b =>
   cases a;exact .cons _ _ (ih _ b)
theorem zbq {l:OpenLaw} {n:Nat} (hn:l.most=some n) {P:Params} {h:Heap} {args:List WData} {vals:List Value}
  (hpre:l.row.toRowW.claim.pre args=true) (hwl:WellAll P h vals args) :
  ∃ a vs ns,vals=[Value.ref a]/\args=[WData.list (ns.map WData.int)]/\h.get? a=some { cls:=.type "list",data:=.seq vs.toArray }/\IntsAre vs ns/\ns.length<=n:=by
 have hsh:WShape.hasAll [] args [.list .int]=true:=(pre_splitW hpre).1;have hc:l.pre.holds [] { args:=args }=true:=(pre_splitW hpre).2;obtain ⟨d,r,rfl,h1,h2⟩:=hasAllW_cons hsh;obtain rfl:=hasAllW_nil h2;obtain ⟨xs,rfl,h3⟩:=hasW_list h1;obtain ⟨ns,rfl⟩:=items_int h3;have hlen:ns.length<=n:=by
  unfold OpenLaw.pre at hc;have h4:(WTm.not (.lt (.lit (.int (n:Int))) (.len (.arg 0)))).holds [] { args:=[.list (ns.map .int)] }=true:=by
   have h4:=(holds_andW hc).1;rw [hn] at h4;exact h4
  have h5:=condW_of h4 (w_not (w_lt w_lit (w_len_list (w_arg rfl))));rw [ae] at h5;refine Nat.le_of_not_lt λ q=>?_;have q':(n:Int) < ((ns.length:Nat):Int):=by omega
  first
   | (rw [bO q'] at h5;exact absurd h5 (by decide))
   | (simp at h5;omega)
 cases hwl with
 | cons w1 w2 =>
  cases w2;cases w1 with
  | list ho hall=>exact ⟨_,_,ns,rfl,rfl,ho,Qf ns _ hall,hlen⟩
theorem zbH (l:OpenLaw) (args:List WData):l.row.toRowW.claim.post args (.bool true) args=true :=
 postW_of (r:=l.row.toRowW) (X:=(true == true))
  (show WShape.has [] (.bool true) .bool=true by first|rfl|decide|simp [WShape.has,WShape.arms,WShape.armsAll])
  (show (WTm.eq .res (.lit (.bool true))).value [] { args:=args,res:=some (.bool true),after:=args }=some (.bool (true == true)) from w_eq_bool (w_res rfl) w_lit) rfl
theorem attach_call {l:OpenLaw} {n:Nat} {q:Program} {loose:List Str} {XP:(Str->Option Value)->Heap->Prop} {YP:World->Heap->Prop} {d:DefRec}
  (hn:l.most=some n) (hdf:d.params.defaults=[])
  (call:∀ (w:World) (s₀ s₁:Shared) (mg mb:Str->Option Value) (fa:Addr) (o:Obj) (pm cd doc:Value) (a:Addr) (vs:List Value) (ns:List Int),
   Ground q loose [] XP w s₀ mg mb s₁.heap->YP w s₁.heap ->
   s₁.heap.get? fa=some o->o.data=.func (docDef d.name d.params d.body d.scope pm cd doc)->s₁.heap.CodeRec cd d.name->mg d.name=some (.ref fa) ->
   s₁.heap.get? a=some { cls:=.type "list",data:=.seq vs.toArray }->IntsAre vs ns->ns.length<=n->s₁.gens=#[] ->
   codeAny (model l.prog w) callerA (.call (.ref fa) ⟨[.ref a],[]⟩) (λ r s'=>r=.ok (.ret (.bool true))/\OldK s₁.heap s'.heap/\s'.os=s₁.os/\AllBare s'.gens) s₁) :
  WalkO q loose XP YP l.row.toRowW d [] (λ f vs=>PySem.call f vs):=by
 intro w s₀ s₁ mg mb G Y fa o pm cd doc dV kV ho hd hcd hD hmg hg args vals as hpre hlay hrd hwl hlo;obtain rfl:dV=.none:=Dflts.none hD hdf;obtain rfl:kV=.none:=Dflts.noKw hD;obtain ⟨a,vs,ns,rfl,rfl,hobj,hints,hlen⟩:=zbq hn hpre hwl;refine enter_call (cN (call w s₀ s₁ mg mb fa o pm cd doc a vs ns G Y ho (fd_plain hd) hcd hmg hobj hints hlen hg) λ r s' hq=>?_);obtain ⟨rfl,h2,h3,h4⟩:=hq;exact ⟨.inl ⟨.bool true,.bool true,[],rfl,λ _=>rfl,.bool true,zbH l _,λ _=>⟨List.Pairwise.nil,λ _ hm=>(nomatch hm)⟩⟩,h2,h3,h4⟩
section
variable {prog:Program} {w:World} {A:Around} {E:Value->Shared->Prop} {s:Shared} {K:Frag}
def ledger (h:Heap) (L d:Addr):List (Addr × Obj):=(List.range h.objs.size).filterMap λ a=>if a=L\/a=d then none else (h.get? a).map λ o=>(a,o)
end
end Att
namespace L2
open PySem PySem.Spec PyProof.Rows
theorem JM:∀ {vs:List Value} {ns:List Int},IntsAre vs ns->Vals (ns.map V.int) vs
 | _,_,.nil=>.nil
 | _,_,.cons n t h=>.cons ⟨t,rfl⟩ (JM h)
def zfS (H:Hp):Prop:=∀ b,H b=none\/∃ o xs,H b=some (.frz o (.lst xs))
theorem zde {P:Program} {w:World} {K:PySem.W.Frag} {mg mb:Str->Option Value} {CX:CXT} {k:Nat} {fa a:Addr} {fd:FuncData} {x:Str} {sp:Sp} {s₁:Shared} {vs:List Value} {ns:List Int}
  (KX:K.In s₁.heap) (hns:s₁.heap.Ns mainGlobals mg) (hb:s₁.heap.Ns builtinsNs mb) (hbb:∀ x:Str,x≠"__name__"->mb x=bootBuiltins x) (hlim:s₁.heap.NoLimit) (hg:s₁.gens=#[])
  (ha:s₁.heap.get? a=some { cls:=.type "list",data:=.seq vs.toArray }) (hi:IntsAre vs ns) (hl:ns.length<=sizeLine) (hr:Room k callerA)
  (F:∀ base:Heap,K.In base->base.Ns mainGlobals mg->FnOk P w K mg base CX k fa fd [x] sp) (hbind:∀ (s:Shared) (u:Value),BindsTo s fd ⟨[u],[]⟩ [(x,u)])
  (hsp:∀ H:Hp,zfS H->SqL K H a (ns.map V.int)->sp [.ref a] H (λ v _=>v=.bl true) λ _ _ _=>False)
  (hCX:∀ H e s',CX [] H s₁ (λ _ _ _=>False) e s'->False) :
  codeAny (model P w) callerA (.call (.ref fa) ⟨[.ref a],[]⟩) (λ r s'=>r=.ok (.ret (.bool true))/\OldK s₁.heap s'.heap/\s'.os=s₁.os/\AllBare s'.gens) s₁:=by
 have rv:=JM hi;have lenV:=hi.length;have core:∀ H:Hp,zfS H->SqL K H a (ns.map V.int)->HOk P w H s₁.heap->(∀ b,H b≠none->b=a)->(H a≠none->K.lookup a=none) ->
   codeAny (model P w) callerA (.call (.ref fa) ⟨[.ref a],[]⟩) (λ r s'=>r=.ok (.ret (.bool true))/\OldK s₁.heap s'.heap/\s'.os=s₁.os/\AllBare s'.gens) s₁:=by
  intro H hO hS hok hA hK;have base_of:∀ {b:Addr} {o:Obj},s₁.heap.get? b=some o->H b=none->(XX s₁.heap H).get? b=some o:=λ e n=>zdp e n;have noA:∀ {b:Addr} {o:Obj} {es:Array DictEntry} {ep:Nat},s₁.heap.get? b=some o->o.data=.dict es ep->H b=none:=λ {b o es ep} e d=>by
   cases q:H b with
   | none=>rfl
   | some u =>
    have e':b=a:=hA b (by rw [q];simp);subst e';rw [ha] at e;cases e;have d':Data.seq vs.toArray _=Data.dict es ep:=d;cases d'
  have nsK:∀ {b:Addr} {m:Str->Option Value},s₁.heap.Ns b m->(XX s₁.heap H).Ns b m:=λ {b m} ⟨o,es,ep,e,d,r⟩=>⟨o,es,ep,base_of e (noA e d),d,r⟩;have hKb:K.In (XX s₁.heap H):=λ b o e=>base_of (KX b o e) (by
   cases q:H b with
   | none=>rfl
   | some u =>
    have e':b=a:=hA b (by rw [q];simp);subst e';rw [hK (by rw [q];simp)] at e;cases e)
  have hM:Mod K mg (XX s₁.heap H):=⟨hKb,nsK hns,⟨mb,nsK hb,hbb⟩,let ⟨mc,h1,h2⟩:=hlim;⟨mc,nsK h1,h2⟩⟩;have e0:Env0 P w K mg (XX s₁.heap H) callerA [] s₁ H:=⟨rfl,hM,λ b o e=>zeg e,Nat.le_of_eq (zb0 _ _),trivial,λ b hb=>absurd (show b∈([]:List Addr) from hb) (by simp),hok,.of_eq hg⟩;refine cN ((F _ hKb (nsK hns)).run callerA [] s₁ H ⟨[.ref a],[]⟩ [.ref a] [.ref a] _ _ hr e0 (hbind s₁ (.ref a)) (.cons rfl .nil) (hsp H hO hS)) λ r s' h=>?_;cases r with
  | error e=>exact (hCX H e s' h).elim
  | ok fl =>
   cases fl with
   | next=>exact False.elim h
   | brk=>exact False.elim h
   | cont=>exact False.elim h
   | ret u =>
    obtain ⟨v,H',os,bare,un,hok',r',q⟩:=h;have q':v=.bl true:=q;subst q';obtain rfl:u=Value.bool true:=r';refine ⟨rfl,OldK.of_keep λ b o e=>?_,os,bare⟩;cases q:H b with
    | none=>exact un.keep b o e q (by intro z;exact absurd (show b∈([]:List Addr) from z) (by simp)) (by simp)
    | some u =>
     rcases hO b with z|⟨ob,xs,z⟩
     ·rw [q] at z;cases z
     ·have z2:=un.frzs b ob _ z;obtain ⟨e1,_⟩:=hok b _ z;obtain ⟨e2,_⟩:=hok' b _ z2;rw [e] at e1;cases e1;exact e2
 cases hk:K.lookup a with
 | some o =>
  have e:=KX a o hk;rw [ha] at e;cases e;refine core (λ _=>none) (λ _=>.inl rfl) (.inr ⟨_,vs.toArray,_,hk,rfl,rfl,rfl,by rw [au,lenV];exact hl,by simpa using rv⟩) (λ b u z=>by have z':(none:Option HO)=some u:=z;cases z') (λ b z=>absurd rfl z) λ z=>absurd rfl z
 | none =>
  refine core (λ b=>if b=a then some (.frz { cls:=.type "list",data:=.seq vs.toArray } (.lst (ns.map V.int))) else none) (λ b=>?_) (.inl (.inr ⟨{ cls:=.type "list",data:=.seq vs.toArray },aA rfl⟩)) (λ b u z=>?_) (λ b z=>?_) λ _=>hk
  ·by_cases hb:b=a
   ·exact .inr ⟨_,_,aA hb⟩
   ·exact .inl (aw hb)
  ·by_cases hb:b=a
   ·have z':=(aA hb).symm.trans z;cases z';subst hb;exact ⟨ha,by rw [ae];exact hl,vs,_,rv,ha⟩
   ·have z':=(aw hb).symm.trans z;cases z'
  ·by_cases hb:b=a
   ·exact hb
   ·exact absurd (aw hb) z
end L2
namespace L2
open PySem PySem.Spec PyProof.Rows
theorem walk_of {l:PySem.W.OpenLaw} {n k:Nat} {q:Program} {loose:List Str} {XP:(Str->Option Value)->Heap->Prop} {YP:World->Heap->Prop} {d:DefRec} {K:Params->PySem.W.Frag} {CX:World->CXT} {sp:World->Sp} {x:Str}
  (hn:l.most=some n) (hn2:n<=sizeLine) (hdf:d.params.defaults=[]) (hr:Room k callerA)
  (hY:∀ (w:World) (h:Heap),YP w h->(K w.params).In h)
  (F:∀ (w:World) (mg:Str->Option Value) (fa:Addr) (h:Heap),(K w.params).In h->h.Ns mainGlobals mg->mg d.name=some (.ref fa) ->
   ∃ fd:FuncData,(∀ (s:Shared) (u:Value),BindsTo s fd ⟨[u],[]⟩ [(x,u)]) /\
    ∀ base:Heap,(K w.params).In base->base.Ns mainGlobals mg->FnOk l.prog w (K w.params) mg base (CX w) k fa fd [x] (sp w))
  (hsp:∀ (w:World) (H:Hp) (a:Addr) (ns:List Int),ns.length<=n->zfS H->SqL (K w.params) H a (ns.map V.int)->sp w [.ref a] H (λ v _=>v=.bl true) λ _ _ _=>False)
  (hCX:∀ (w:World) (H:Hp) (s:Shared) (e:Value) (s':Shared),CX w [] H s (λ _ _ _=>False) e s'->False) :
  PySem.W.WalkO q loose XP YP l.row.toRowW d [] (λ f vs=>PySem.call f vs):=by
 refine Att.attach_call hn hdf λ w s₀ s₁ mg mb fa o pm cd doc a vs ns G Y ho hd hcd hmg hobj hints hlen hg=>?_;have KX:=hY w _ Y;obtain ⟨fd,hb,hF⟩:=F w mg fa _ KX G.T.g hmg;exact zde KX G.T.g G.T.b G.T.builtins G.T.nolimit hg hobj hints (bh hlen hn2) hr hF hb (λ H hO hS=>hsp w H a ns hlen hO hS) λ H e s'=>hCX w H s₁ e s'
end L2
namespace L2
open PySem PySem.Spec PyProof.Rows
def zV (s:Stmt) (j:Nat):Stmt:=match s with
 | .ClassDef _ _ _ body _ _ _ _ _ _ _=>body.getD j (.Pass ⟨0,0,0,0⟩)
 | _=>.Pass ⟨0,0,0,0⟩
def qd (s:Stmt):Arguments:=match s with
 | .FunctionDef _ a _ _ _ _ _ _ _ _=>a
 | _=>{ posonlyargs:=[],args:=[],vararg:=none,kwonlyargs:=[],kw_defaults:=[],kwarg:=none,defaults:=[] }
def zZ (s:Stmt):List Stmt:=match s with
 | .FunctionDef _ _ b _ _ _ _ _ _ _=>b
 | _=>[]
def zd (s:Stmt):Scope:=match s with
 | .FunctionDef _ _ _ _ _ _ sc _ _ _=>sc
 | _=>{ kind:=.function,names:=[],isGenerator:=false,isCoroutine:=false }
abbrev CX0:CXT:=λ _ _ _ _ _ _=>False
structure Fun (K:PySem.W.Frag) (x qual:Str) (st:Stmt) (f:Addr) (fd:FuncData):Prop where
 ex:∃ (oc:Value) (od:Option Addr) (kV doc pm:Value) (an:Option Addr) (cdv ct:Value) (osl:Array (Option Value)),
  fd=PySem.W.fnOf x qual (qd st) (zZ st) (zd st) .none kV doc pm an cdv ct/\K.lookup f=some ⟨oc,od,.func fd,osl⟩/\PySem.W.codeIn K cdv qual=true
 kp:PySem.W.keepIn K (.ref f)=true
section
variable {P:Program} {w:World} {K:PySem.W.Frag} {mg:Str->Option Value} {base:Heap}
theorem Fun.ok {x qual:Str} {st:Stmt} {f:Addr} {fd:FuncData} {N ps:List Str} {k:Nat} {sp:Sp} (F:Fun K x qual st f fd) (S:FnScope N ps (zd st)) (len:∀ vs H Q E,sp vs H Q E->vs.length=ps.length)
  (hbody:∀ (cdv:Value) (A:Around) (outer:List Env) (s:Shared) (H:Hp) (vs:List V) (Q:VK) (E:XK),Room k (A.deeper (envOfC qual (zd st) s.heap.objs.size f cdv))->sp vs H Q E ->
   ∃ t,PSs (Qg CX0 P w K mg base N qual (zd st) f cdv A outer s H E).nox (zZ st) t/\t { nx:=λ _ H'=>Q .non H',rt:=Q } (start N vs) H):FnOk P w K mg base CX0 (k + 1) f fd ps sp:=by
 obtain ⟨oc,od,kV,doc,pm,an,cdv,ct,osl,rfl,lk,hcd⟩:=F.ex;refine zdu lk hcd S len λ A outer s H vs Q E hr hsp=>?_;obtain ⟨t,h,q⟩:=hbody cdv A outer s H vs Q E hr hsp;exact ⟨t,h.nox,q⟩
theorem Fun.binds {x qual:Str} {st:Stmt} {f:Addr} {fd:FuncData} {ps:List Str} (F:Fun K x qual st f fd)
  (h:∀ (kV doc pm:Value) (an:Option Addr) (cdv ct:Value) (us:List Value),us.length=ps.length->bindArgs (PySem.W.fnOf x qual (qd st) (zZ st) (zd st) .none kV doc pm an cdv ct) ⟨us,[]⟩=pure (ps.zip us)):Binds K fd ps []:=by
 obtain ⟨oc,od,kV,doc,pm,an,cdv,ct,osl,rfl,lk,hcd⟩:=F.ex;exact .all (h kV doc pm an cdv ct)
theorem we {x qual:Str} {st:Stmt} {f:Addr} {oc:Value} {od an:Option Addr} {osl:Array (Option Value)} {kV doc pm cdv ct:Value} (l:K.lookup f=some ⟨oc,od,.func (PySem.W.fnOf x qual (qd st) (zZ st) (zd st) .none kV doc pm an cdv ct),osl⟩)
  (c:PySem.W.codeIn K cdv qual=true) (k:PySem.W.keepIn K (.ref f)=true):Fun K x qual st f (PySem.W.fnOf x qual (qd st) (zZ st) (zd st) .none kV doc pm an cdv ct):=⟨⟨oc,od,kV,doc,pm,an,cdv,ct,osl,rfl,l,c⟩,k⟩
end
theorem zh {n:Nat} (h:n<=1000):n < sizeLine:=Nat.lt_of_le_of_lt h (by decide)
section
variable {X:Cx}
end
theorem zI {c A B:Prop} [Decidable c] (h1:c->A) (h2:¬ c->B):if c then A else B:=by
 by_cases h:c
 ·rw [aA h];exact h1 h
 ·rw [aw h];exact h2 h
def Same (H H':Hp):Prop:=∀ b o,H b=some o->H' b=some o
theorem Same.refl (H:Hp):Same H H:=λ _ _ h=>h
theorem Same.trans {H H1 H2:Hp} (a:Same H H1) (b:Same H1 H2):Same H H2:=λ c o h=>b c o (a c o h)
theorem Same.free {H H':Hp} (e:Same H H') {l:Addr} (h:H' l=Option.none):H l=Option.none:=by
 cases q:H l with
 | none=>rfl
 | some o =>
  rw [e l o q] at h;cases h
theorem Same.seq {K:PySem.W.Frag} {H H':Hp} {a:Addr} {xs:List V} (e:Same H H') (h:SqL K H a xs):SqL K H' a xs:=by
 rcases h with (h|⟨o,h⟩)|h
 ·exact .inl (.inl (e _ _ h))
 ·exact .inl (.inr ⟨o,e _ _ h⟩)
 ·exact .inr h
end L2
set_option maxHeartbeats 4000000
namespace L2
open PySem PySem.Spec PyProof.Rows
abbrev GK:=Value->St->Hp->Prop
structure Exc (g h:Heap) (H:Hp) (pn:List (Addr × Obj)) (a:Addr) (cls:Value):Prop where
 ex:∃ (oe:Obj) (vs:Array Value) (T:Addr) (oT:Obj) (ts:Array Value),h.get? a=some oe/\oe.cls=cls/\oe.dict=none/\oe.data=.fields vs/\vs[1]?=some (.ref T)/\T≠a /\
  h.get? T=some oT/\oT.data=.fields ts/\ts[3]?=some .none/\g.get? T=none/\H T=none/\∀ p∈pn,p.1≠T
 ga:g.get? a=none
 Ha:H a=none
 pa:∀ p∈pn,p.1≠a
theorem ObjOk.there {P:Program} {w:World} {H:Hp} {h:Heap} {a:Addr} {o:HO} (x:ObjOk P w H h a o):∃ ob,h.get? a=some ob:=by
 cases o with
 | lst xs=>obtain ⟨_,_,_,_,e⟩:=x;exact ⟨_,e⟩
 | tup xs=>obtain ⟨_,_,_,ob,e,_⟩:=x;exact ⟨_,e⟩
 | dK kvs=>obtain ⟨_,_,_,_,o,_,_,e,_⟩:=x;exact ⟨_,e⟩
 | dT kvs=>obtain ⟨_,_,_,_,o,_,_,e,_⟩:=x;exact ⟨_,e⟩
 | set S n=>obtain ⟨o,_,_,_,e,_⟩:=x;exact ⟨_,e⟩
 | ins C dx fs=>obtain ⟨_,_,_,e,_⟩:=x;exact ⟨_,e⟩
 | own y=>obtain ⟨_,e⟩:=x;exact ⟨_,e⟩
 | xd fs=>obtain ⟨_,⟨_,_,_,e,_⟩,_⟩:=x;exact ⟨_,e⟩
 | rng lo hi=>obtain ⟨_,_,_,e⟩:=x;exact ⟨_,e⟩
 | frz ob u=>obtain ⟨e,_⟩:=x;exact ⟨_,e⟩
 | tbl ps=>exact ⟨_,(show h.get? a=some _ from x)⟩
 | met f y=>exact ⟨_,(show h.get? a=some _ from x)⟩
 | ext φ=>obtain ⟨_,⟨_,e⟩,_⟩:=x;exact ⟨_,e⟩
section
variable {M:Model} {A:Around} {E:Value->Shared->Prop} {s:Shared}
theorem J8 {base:Heap} {env:Env} {outer:List Env} {L e:Addr} {oe:Obj} {vs:Array Value} {head:Value} {hadNext:Bool} {Q:Unit->Shared->Prop}
  (hfr:A.frames=some (env :: outer)) (hl:s.heap.FunFrames base (env :: outer)) (hf:env.frame=some L) (he:s.heap.get? e=some oe) (hd:oe.data=.fields vs) (hsz:1 < vs.size)
  (h:∀ h' T,(∀ b o,b ∉ (env :: outer).filterMap (·.frame)->b≠e->s.heap.get? b=some o->h'.get? b=some o)->(∀ b o,b≠e->s.heap.get? b=some o->∃ sl,h'.get? b=some { o with slots:=sl }) ->
   s.heap.get? T=none->T≠e->h'.get? e=some (oe.mapFields (·.setIfInBounds 1 (.ref T)))->(∃ oT ts,h'.get? T=some oT/\oT.data=.fields ts/\ts[3]?=some .none)->Q () { s with heap:=h' }) :
  wpAny M A (do let a <- frameOf env;let pl <- entryPlaceOf L hadNext;let b <- EntryCells.newEntry head a .none (rawInt L) .none pl;setField (.ref e) 1 b) (λ _ s'=>wpAny M A (setFlight (.ref e) none) Q E s') E s:=by
 have hene:e ∉ (env :: outer).filterMap (·.frame):=λ hm=>by
  obtain ⟨_,o,ho,hnf⟩:=hl.mem hm;rw [he] at ho;injection ho with ho;subst ho;exact hnf vs hd
 refine af (wpAny_frameOf_fun hfr hl hf λ h₁ hs₁=>?_);refine af (wpAny_entryPlaceOf λ pl hpl=>?_);unfold EntryCells.newEntry newFields;refine af (cV ?_ (hpl.sizeOk5 _ _ _ _ _));have he₁:h₁.get? e=some oe:=(hs₁.2.1 e hene).trans he;have he₂:=ai (h:=h₁) { cls:=.type "traceback",dict:=none,data:=.fields ([head,.ref L,.none,rawInt L,.none] ++ (if pl.isEmpty then List.replicate 6 Value.none else pl)).toArray } he₁;refine cQ he₂ hd hsz ?_;have hTe:h₁.objs.size≠e:=ck (ax he₁);have hd₃:=bK hd (·.setIfInBounds 1 (Value.ref h₁.objs.size));have he₃:=bM (Obj.mapFields (·.setIfInBounds 1 (Value.ref h₁.objs.size))) he₂ (cG hd₃);have hT₃:=(a8 (h₁.push { cls:=.type "traceback",dict:=none,data:=.fields ([head,.ref L,.none,rawInt L,.none] ++ (if pl.isEmpty then List.replicate 6 Value.none else pl)).toArray })
  (Obj.mapFields (·.setIfInBounds 1 (Value.ref h₁.objs.size))) (aX hTe)).trans (aD h₁ rfl)
 unfold setFlight;refine af (bc he₃ hd₃ (x:=.ref h₁.objs.size) (by simp [hsz]) ?_);rw [aA (show (Value.ref h₁.objs.size != Value.none)=true from by simp)];refine cQ hT₃ rfl (by simp only [au,aQ,bH,cP] <;> omega) ?_;have keep:∀ b o,b≠e->h₁.get? b=some o ->
   (((h₁.push { cls:=.type "traceback",dict:=none,data:=.fields ([head,.ref L,.none,rawInt L,.none] ++ (if pl.isEmpty then List.replicate 6 Value.none else pl)).toArray }).update e (Obj.mapFields (·.setIfInBounds 1 (Value.ref h₁.objs.size)))).update h₁.objs.size
    (Obj.mapFields (·.setIfInBounds 3 ((none:Option Addr).elim Value.none λ f=>rawInt f)))).get? b=some o:=λ b o hbe hb=>by
  have hbT:h₁.objs.size≠b:=ck (ax hb);rw [a8 _ _ hbT,a8 _ _ (aX hbe)];exact ai _ hb
 refine h _ h₁.objs.size (λ b o hb hbe q=>keep b o hbe ((hs₁.2.1 b hb).trans q)) (λ b o hbe q=>?_) (Heap.get?_none_of_le (by rw [hs₁.1];exact av _)) hTe ?_ ?_
 ·obtain ⟨sl,hs⟩:=hs₁.2.2 b o q;exact ⟨sl,keep b _ hbe hs⟩
 ·rw [a8 _ _ hTe];exact he₃
 ·exact ⟨_,_,bM _ hT₃ (cG (bK rfl _)),bK rfl _,by first|(simp;done)|(rcases hpl with rfl|⟨_,_,_,_,_,_,_,rfl⟩ <;> simp)⟩
theorem J0 {base:Heap} {env:Env} {outer:List Env} {L e:Addr} {oe:Obj} {vs:Array Value} {ch:List Addr} {Q:Unit->Shared->Prop}
  (hfr:A.frames=some (env :: outer)) (hl:s.heap.FunFrames base (env :: outer)) (hf:env.frame=some L) (he:s.heap.get? e=some oe) (hd:oe.data=.fields vs)
  (h1:(vs[1]?=some .none/\ch=[e])\/∃ T oT ts,vs[1]?=some (.ref T)/\T≠e/\s.heap.get? T=some oT/\oT.data=.fields ts/\ts[3]?=some .none/\ch=[e,T])
  (h:∀ h' T,(∀ b o,b ∉ (env :: outer).filterMap (·.frame)->b ∉ ch->s.heap.get? b=some o->h'.get? b=some o)->(∀ b o,b ∉ ch->s.heap.get? b=some o->∃ sl,h'.get? b=some { o with slots:=sl }) ->
   (∀ b∈ch,∃ o,h'.get? b=some o)->s.heap.get? T=none->T≠e->h'.get? e=some (oe.mapFields (·.setIfInBounds 1 (.ref T)))->(∃ oT ts,h'.get? T=some oT/\oT.data=.fields ts/\ts[3]?=some .none)->Q () { s with heap:=h' }) :
  wpAny M A (noteFrame (.ref e) env) (λ _ s'=>wpAny M A (setFlight (.ref e) none) Q E s') E s:=by
 rcases h1 with ⟨h1,rfl⟩|⟨T,oT,ts,h1,hTe,hT,hdT,h3,rfl⟩
 ·unfold noteFrame;simp only [hf];refine af (bc he hd h1 ?_);rw [aw (by decide)];refine J8 hfr hl hf he hd (bY.mp h1).1 λ h' T k1 k2 k3 k4 k5 k6=>?_;refine h h' T (λ b o hb hc q=>k1 b o hb (λ z=>hc (by simp [z])) q) (λ b o hc q=>k2 b o (λ z=>hc (by simp [z])) q) (λ b hb=>?_) k3 k4 k5 k6;obtain rfl:b=e:=by simpa using hb
  exact ⟨_,k5⟩
 ·unfold noteFrame;simp only [hf];refine af (bc he hd h1 ?_);rw [aA (show (Value.ref T != Value.none)=true from by simp)];refine af (bc hT hdT h3 ?_);rw [aw (show ¬ ((Value.none == rawInt L)=true) from by simp [rawInt])];refine af (cQ hT hdT (bY.mp h3).1 ?_);have other:∀ b,b≠T->(s.heap.update T (Obj.mapFields (·.setIfInBounds 3 Value.none))).get? b=s.heap.get? b:=λ b hb=>a8 _ _ (aX hb);have noRecord:∀ b o,s.heap.get? b=some o->(∀ vs,o.data≠.fields vs)->b≠T:=λ b o hb hnf q=>by
   rw [q,hT] at hb;injection hb with hb;subst hb;exact hnf ts hdT
  have hT':=bM (Obj.mapFields (·.setIfInBounds 3 Value.none)) hT (cG (bK hdT _));refine J8 hfr (hl.of_keeps λ b o hb hnf=>⟨o,(other b (noRecord b o hb hnf)).trans hb,rfl⟩) hf ((other e (aX hTe)).trans he) hd (bY.mp h1).1 λ h' T' k1 k2 k3 k4 k5 k6=>?_;have hTT:T'≠T:=λ z=>by rw [z,hT'] at k3;cases k3
  refine h h' T' (λ b o hb hc q=>k1 b o hb (λ z=>hc (by simp [z])) ((other b (λ z=>hc (by simp [z]))).trans q)) (λ b o hc q=>k2 b o (λ z=>hc (by simp [z])) ((other b (λ z=>hc (by simp [z]))).trans q)) (λ b hb=>?_) ((other T' hTT).symm.trans k3) k4 k5 k6;rcases ay.mp hb with rfl|hb
  ·exact ⟨_,k5⟩
  ·obtain rfl:b=T:=by simpa using hb
   obtain ⟨sl,q⟩:=k2 b _ hTe hT';exact ⟨_,q⟩
end
section
variable {X:Cx} {pins:List (Addr × Obj)} {σ:List (Option V)} {H:Hp} {s:Shared} {h':Heap}
theorem Inv.stepx {ch:List Addr} (I:Inv X pins σ H s)
  (hch:∀ b∈ch,X.s₀.heap.get? b=none/\H b=none/\∀ p∈X.pn ++ pins,p.1≠b) (hrec:∀ b∈ch,∃ o vs,s.heap.get? b=some o/\o.data=.fields vs)
  (keep:∀ b o,b ∉ frs X.stack->b ∉ ch->s.heap.get? b=some o->h'.get? b=some o)
  (slot:∀ b o,b ∉ ch->s.heap.get? b=some o->∃ sl,h'.get? b=some { o with slots:=sl }) (there:∀ b∈ch,∃ o,h'.get? b=some o):Inv X pins σ H { s with heap:=h' }:=by
 have neL:∀ b∈ch,b≠X.env.locals:=λ b hb z=>by
  obtain ⟨o,vs,ho,hd⟩:=hrec b hb;obtain ⟨m,⟨o',es,ep,ho',hd',_⟩,_⟩:=I.loc;rw [z,ho'] at ho;cases ho;rw [hd'] at hd;cases hd
 have neC:∀ b∈ch,∀ x c,X.env.cells.lookup x=some c->c≠b:=λ b hb x c e z=>by
  obtain ⟨o,vs,ho,hd⟩:=hrec b hb;obtain ⟨v,o',ho',hd'⟩:=I.cell x c e;rw [z,ho] at ho';cases ho';rw [hd] at hd';cases hd'
 have nch:∀ b o,X.s₀.heap.get? b=some o->b ∉ ch:=λ b o e hb=>by rw [(hch b hb).1] at e;cases e
 have trk:∀ b u,H b=some u->b ∉ ch/\b ∉ frs X.stack:=λ b u e=>⟨(λ hb=>by rw [(hch b hb).2.1] at e;cases e),(λ hb=>by rw [I.stkFree b hb] at e;cases e)⟩;have nfs:∀ b,b ∉ X.fs->b≠X.env.locals->b ∉ frs X.stack:=λ b h1 h2 z=>(ay.mp (I.stkSub b z)).elim h2 h1;have ltL:∀ b o,X.s₀.heap.get? b=some o->b≠X.env.locals:=λ b o e=>aP (aN (ax e) I.ok.above);have cellK:∀ x c,X.env.cells.lookup x=some c->∀ v,s.heap.IsCell c v->h'.IsCell c v:=λ x c e v ⟨o,ho,hd⟩=>by
  obtain ⟨sl,q⟩:=slot c o (λ z=>neC c z x c e rfl) ho;exact ⟨_,q,hd⟩
 have hok:HOk X.prog X.w H h':=λ b u e=>(I.hok b u e).stay (λ c v hc q=>by
  have hcH:∃ u',H c=some u':=by
   rcases hc with rfl|z
   ·exact ⟨_,e⟩
   ·exact ⟨_,z⟩
  obtain ⟨u',hu⟩:=hcH;exact keep c v (trk c u' hu).2 (trk c u' hu).1 q) (λ _ q=>q) λ _ _ q=>q
 refine ⟨I.ok,I.os,I.bare,⟨λ b o e n hb hx=>?_,λ b o e n hb hx=>?_,I.base.free,λ b o e hx=>?_,I.base.tups,I.base.frzs,I.base.tbls⟩,?_,λ x c e=>?_,I.free,I.freeC,λ p hp=>?_,hok,I.len⟩
 ·exact keep b o (nfs b hb (ltL b o e)) (nch b o e) (I.base.keep b o e n hb hx)
 ·obtain ⟨sl,e1⟩:=I.base.slot b o e n hb hx;obtain ⟨sl',e2⟩:=slot b _ (nch b o e) e1;exact ⟨sl',e2⟩
 ·obtain ⟨o',e1⟩:=I.base.there b o e hx;obtain ⟨sl',e2⟩:=slot b _ (nch b o e) e1;exact ⟨_,e2⟩
 ·obtain ⟨m,⟨o,es,ep,ho,r⟩,hl⟩:=I.loc;obtain ⟨sl,q⟩:=slot _ o (λ z=>neL _ z rfl) ho;refine ⟨m,⟨_,es,ep,q,r⟩,λ i x v e1 e2 e3=>?_⟩;obtain ⟨u,r',l⟩:=hl i x v e1 e2 e3;refine ⟨u,r',?_⟩;rcases l with l|⟨k,c,e,z⟩
  ·exact .inl l
  ·exact .inr ⟨k,c,e,cellK x c e _ z⟩
 ·obtain ⟨v,z⟩:=I.cell x c e;exact ⟨v,cellK x c e v z⟩
 ·obtain ⟨e,n,ne,nf,d⟩:=I.pin p hp;exact ⟨keep p.1 p.2 (nfs _ nf ne) (λ z=>(hch p.1 z).2.2 p hp rfl) e,n,ne,nf,d⟩
theorem J1 {a:Addr} {oe:Obj} {vs:Array Value} {E:Value->Shared->Prop} {Q:Unit->Shared->Prop} (I:Inv X pins σ H s) (hst:X.stack=X.env :: X.outer) (hfr:X.env.frame=some X.env.locals) (hex:X.ex=[])
  (he:s.heap.get? a=some oe) (hdict:oe.dict=none) (hd:oe.data=.fields vs) (ga:X.s₀.heap.get? a=none) (Ha:H a=none) (hpa:∀ p∈X.pn ++ pins,p.1≠a)
  (h1:vs[1]?=some .none\/∃ T oT ts,vs[1]?=some (.ref T)/\T≠a/\s.heap.get? T=some oT/\oT.data=.fields ts/\ts[3]?=some .none/\X.s₀.heap.get? T=none/\H T=none/\∀ p∈X.pn ++ pins,p.1≠T)
  (hQ:∀ s',Inv X pins σ H s'->Exc X.s₀.heap s'.heap H (X.pn ++ pins) a oe.cls->Q () s') :
  wpAny (model X.prog X.w) X.A (noteFrame (.ref a) X.env) (λ _ s'=>wpAny (model X.prog X.w) X.A (setFlight (.ref a) none) Q E s') E s:=by
 have hfs:=I.ok.frames;have hFF:=I.stack;rw [hst] at hfs hFF;have hS:frs X.stack=(X.env :: X.outer).filterMap (·.frame):=by rw [hst];rfl
 have fin:∀ (ch:List Addr),(∀ b∈ch,X.s₀.heap.get? b=none/\H b=none/\∀ p∈X.pn ++ pins,p.1≠b)->(∀ b∈ch,∃ o vs,s.heap.get? b=some o/\o.data=.fields vs)->a∈ch ->
   ∀ h' T,(∀ b o,b ∉ (X.env :: X.outer).filterMap (·.frame)->b ∉ ch->s.heap.get? b=some o->h'.get? b=some o)->(∀ b o,b ∉ ch->s.heap.get? b=some o->∃ sl,h'.get? b=some { o with slots:=sl }) ->
   (∀ b∈ch,∃ o,h'.get? b=some o)->s.heap.get? T=none->T≠a->h'.get? a=some (oe.mapFields (·.setIfInBounds 1 (.ref T)))->(∃ oT ts,h'.get? T=some oT/\oT.data=.fields ts/\ts[3]?=some .none)->Q () { s with heap:=h' }:=by
  intro ch hch hrec ha h' T k1 k2 k3 k4 k5 k6 k7;have I':=I.stepx (h':=h') hch hrec (λ b o hb hc q=>k1 b o (by rw [<- hS];exact hb) hc q) k2 k3;refine hQ _ I' ⟨?_,ga,Ha,hpa⟩;obtain ⟨oT,ts,q1,q2,q3⟩:=k7;have hsz:1 < vs.size:=by
   rcases h1 with z|⟨_,_,_,z,_⟩ <;> exact (bY.mp z).1
  refine ⟨_,_,T,oT,ts,k6,Obj.cls_mapFields _ _,by obtain ⟨c,d,dt,sl⟩:=oe;cases dt <;> exact hdict,bK hd _,by simp [hsz],k5,q1,q2,q3,?_,?_,λ p hp z=>?_⟩
  ·cases e:X.s₀.heap.get? T with
   | none=>rfl
   | some o =>
    obtain ⟨o',e'⟩:=I.base.there T o e (by rw [hex];simp);rw [k4] at e';cases e'
  ·cases e:H T with
   | none=>rfl
   | some u =>
    obtain ⟨o',e'⟩:=(I.hok T u e).there;rw [k4] at e';cases e'
  ·have:=(I.pin p hp).1;rw [z,k4] at this;cases this
 rcases h1 with h1|⟨T,oT,ts,h1,hTa,hT,hdT,h3,gT,HT,pT⟩
 ·refine J0 (ch:=[a]) hfs hFF hfr he hd (.inl ⟨h1,rfl⟩) (fin [a] (λ b hb=>?_) (λ b hb=>?_) (by simp))
  ·obtain rfl:b=a:=by simpa using hb
   exact ⟨ga,Ha,hpa⟩
  ·obtain rfl:b=a:=by simpa using hb
   exact ⟨oe,vs,he,hd⟩
 ·refine J0 (ch:=[a,T]) hfs hFF hfr he hd (.inr ⟨T,oT,ts,h1,hTa,hT,hdT,h3,rfl⟩) (fin [a,T] (λ b hb=>?_) (λ b hb=>?_) (by simp))
  ·rcases ay.mp hb with rfl|hb
   ·exact ⟨ga,Ha,hpa⟩
   ·obtain rfl:b=T:=by simpa using hb
    exact ⟨gT,HT,pT⟩
  ·rcases ay.mp hb with rfl|hb
   ·exact ⟨oe,vs,he,hd⟩
   ·obtain rfl:b=T:=by simpa using hb
    exact ⟨oT,ts,hT,hdT⟩
end
def JG (X:Cx) (G:GK) (e:Value) (s:Shared):Prop:=∃ a cls σ H,e=Value.ref a/\Inv X [] σ H s/\Exc X.s₀.heap s.heap H X.pn a cls/\G cls σ H
def xeG (X:Cx) (G:GK) (e:Value) (s:Shared):Prop:=wpAny (model X.prog X.w) X.A (noteFrame e X.env) (λ _ s'=>wpAny (model X.prog X.w) X.A (setFlight e none) (λ _ s''=>JG X G e s'') (λ _ _=>False) s') (λ _ _=>False) s
abbrev Cx.exg (X:Cx) (G:GK):Cx:=X.wish (xeG X G)
structure Bod (X:Cx):Prop where
 st:X.stack=X.env :: X.outer
 fr:X.env.frame=some X.env.locals
 ex:X.ex=[]
theorem qF {X:Cx} {G:GK}:PassesOwn (model X.prog X.w) X.A X.env (xeG X G):=PassesOwn.looking
theorem Inv.nopins {X:Cx} {pins:List (Addr × Obj)} {σ:St} {H:Hp} {s:Shared} (I:Inv X pins σ H s):Inv X [] σ H s:=I.pins_of λ p hp=>absurd hp (by simp)
theorem Exc.less {g h:Heap} {H:Hp} {pn pn':List (Addr × Obj)} {a:Addr} {cls:Value} (x:Exc g h H pn a cls) (hp:∀ p∈pn',p∈pn):Exc g h H pn' a cls:=by
 obtain ⟨⟨oe,vs,T,oT,ts,h1,h2,h3,h4,h5,h6,h7,h8,h9,h10,h11,h12⟩,ga,Ha,pa⟩:=x;exact ⟨⟨oe,vs,T,oT,ts,h1,h2,h3,h4,h5,h6,h7,h8,h9,h10,h11,λ p q=>h12 p (hp p q)⟩,ga,Ha,λ p q=>pa p (hp p q)⟩
def CXr (P:Program) (w:World):CXT:=λ outer H s E e s'=>∃ a cls H',e=Value.ref a/\s'.os=s.os/\AllBare s'.gens/\Un (frs outer) [] H H' s.heap s'.heap/\HOk P w H' s'.heap /\
 Exc s.heap s'.heap H' [] a cls/\E cls none H'
section
variable {X:Cx} {pins:List (Addr × Obj)} {σ:St} {H:Hp} {s:Shared} {G:GK}
theorem ZQ {e:Value} {s':Shared} (B:Bod X) (I:Inv X pins σ H s) (h:CXr X.prog X.w X.stack H s (λ cls _ H'=>G cls σ H') e s'):xeG X G e s':=by
 obtain ⟨a,cls,H',rfl,os,bare,un,hok,⟨⟨oe,vs,T,oT,ts,h1,h2,h3,h4,h5,h6,h7,h8,h9,h10,h11,_⟩,ga,Ha,_⟩,hG⟩:=h;have I':Inv X pins σ H' s':=I.call' os un hok bare (λ b z=>absurd z (by simp));have old:∀ b,s.heap.get? b=none->X.s₀.heap.get? b=none:=λ b hb=>by
  cases e:X.s₀.heap.get? b with
  | none=>rfl
  | some o =>
   obtain ⟨o',e'⟩:=I.base.there b o e (by rw [B.ex];simp);rw [hb] at e';cases e'
 have pin:∀ b,s.heap.get? b=none->∀ p∈X.pn ++ pins,p.1≠b:=λ b hb p hp z=>by
  have:=(I.pin p hp).1;rw [z,hb] at this;cases this
 refine J1 I' B.st B.fr B.ex h1 h3 h4 (old a ga) Ha (pin a ga) (.inr ⟨T,oT,ts,h5,h6,h7,h8,h9,old T h10,h11,pin T h10⟩) λ s'' I2 x=>?_;exact ⟨a,oe.cls,σ,H',rfl,I2.nopins,x.less λ p hp=>aZ _ hp,h2 ▸ hG⟩
theorem Vz {a:Addr} {cls:Value} {args:List Value} {h':Heap} (B:Bod X) (I:Inv X pins σ H s) (hm:Heap.MadeExcOf s.heap h' a cls args) (hG:G cls σ H):xeG X G (.ref a) { s with heap:=h' }:=by
 obtain ⟨t,h1,h2,h3⟩:=hm.there;have I':Inv X pins σ H { s with heap:=h' }:=I.kept (t':=s.toks) hm.keeps;have ga:X.s₀.heap.get? a=none:=by
  cases e:X.s₀.heap.get? a with
  | none=>rfl
  | some o =>
   obtain ⟨o',e'⟩:=I.base.there a o e (by rw [B.ex];simp);rw [hm.new] at e';cases e'
 have Ha:H a=none:=by
  cases e:H a with
  | none=>rfl
  | some u =>
   obtain ⟨o',e'⟩:=(I.hok a u e).there;rw [hm.new] at e';cases e'
 refine J1 (s:={ s with heap:=h' }) I' B.st B.fr B.ex h1 rfl rfl ga Ha (λ p hp z=>?_) (.inl rfl) λ s'' I2 x=>?_
 ·have:=(I.pin p hp).1;rw [z,hm.new] at this;cases this
 ·exact ⟨a,cls,σ,H,rfl,I2.nopins,x.less λ p hp=>aZ _ hp,hG⟩
end
section
variable {P:Program} {w:World} {K:PySem.W.Frag} {mg:Str->Option Value} {base:Heap}
abbrev cxR (P:Program) (w:World) (K:PySem.W.Frag) (mg:Str->Option Value) (base:Heap) (N:List Str) (qual:Str) (scope:Scope) (f:Addr) (cd:Value) (A:Around) (outer:List Env) (s:Shared) (H:Hp) (E:XK):Cx :=
 Qg (CXr P w) P w K mg base N qual scope f cd A outer s H E
theorem Fun.okx {x qual:Str} {st:Stmt} {f:Addr} {fd:FuncData} {N ps:List Str} {k:Nat} {sp:Sp} (F:Fun K x qual st f fd) (S:FnScope N ps (zd st)) (len:∀ vs H Q E,sp vs H Q E->vs.length=ps.length)
  (hbody:∀ (cdv:Value) (A:Around) (outer:List Env) (s:Shared) (H:Hp) (vs:List V) (Q:VK) (E:XK),Room k (A.deeper (envOfC qual (zd st) s.heap.objs.size f cdv))->sp vs H Q E ->
   ∃ t,PSs ((cxR P w K mg base N qual (zd st) f cdv A outer s H E).exg λ cls _ H'=>E cls none H') (zZ st) t/\t { nx:=λ _ H'=>Q .non H',rt:=Q } (start N vs) H):FnOk P w K mg base (CXr P w) (k + 1) f fd ps sp:=by
 obtain ⟨oc,od,kV,doc,pm,an,cdv,ct,osl,rfl,lk,hcd⟩:=F.ex;refine zdu lk hcd S len λ A outer s H vs Q E hr hsp=>?_;obtain ⟨t,h,q⟩:=hbody cdv A outer s H vs Q E hr hsp;refine ⟨t,λ pins s σ H' D I hw=>?_,q⟩;refine a9 (h pins s σ H' D (I.wish _) hw) (λ _ _ z=>z.unwish) λ e s' z=>?_;refine af (a9 (show wpAny _ _ _ _ _ _ from z) (λ _ s1 y1=>a9 y1 (λ _ s'' y=>?_) λ _ _ y=>y.elim) λ _ _ y=>y.elim);obtain ⟨a,cls,σ2,H2,rfl,J,xx,g⟩:=y;exact ⟨a,cls,H2,rfl,J.os,J.bare,J.base,J.hok,xx.less (λ p hp=>absurd hp (by simp)),g⟩
end
end L2
namespace L2
open PySem PySem.Spec PyProof.Rows
structure Cal (P:Program) (w:World) (K:PySem.W.Frag) (mg:Str->Option Value) (base:Heap) (x:Str) (k:Nat) (ps:List Str) (dvs:List V) (sp:Sp):Prop where
 ex:∃ f fd ds,FnOk P w K mg base (CXr P w) k f fd ps sp/\mg x=some (.ref f)/\PySem.W.keepIn K (.ref f)=true/\Binds K fd ps ds/\Vals dvs ds
structure MCal (P:Program) (w:World) (K:PySem.W.Frag) (mg:Str->Option Value) (base:Heap) (C:Addr) (m:Str) (k:Nat) (ps:List Str) (dvs:List V) (sp:Sp):Prop where
 cl:Cls K C
 ex:∃ f fd ds,FnOk P w K mg base (CXr P w) k f fd ps sp/\Meth K C m f/\Binds K fd ps ds/\Vals dvs ds
structure KCal (P:Program) (w:World) (K:PySem.W.Frag) (mg:Str->Option Value) (base:Heap) (x:Str) (C:Addr) (k:Nat) (ps:List Str) (dvs:List V) (sp:Sp):Prop where
 gl:mg x=some (.ref C)
 ex:∃ f fd ds,FnOk P w K mg base (CXr P w) k f fd ps sp/\Mk K C f/\Binds K fd ps ds/\Vals dvs ds
theorem Cal.mono {P:Program} {w:World} {K:PySem.W.Frag} {mg:Str->Option Value} {base:Heap} {x:Str} {j k:Nat} {ps:List Str} {dvs:List V} {sp:Sp} (c:Cal P w K mg base x j ps dvs sp) (h:j<=k:=by decide):Cal P w K mg base x k ps dvs sp:=by
 obtain ⟨f,fd,ds,a,b⟩:=c.ex;exact ⟨f,fd,ds,a.mono h,b⟩
theorem MCal.mono {P:Program} {w:World} {K:PySem.W.Frag} {mg:Str->Option Value} {base:Heap} {C:Addr} {m:Str} {j k:Nat} {ps:List Str} {dvs:List V} {sp:Sp} (c:MCal P w K mg base C m j ps dvs sp) (h:j<=k:=by decide):MCal P w K mg base C m k ps dvs sp:=by
 obtain ⟨f,fd,ds,a,b⟩:=c.ex;exact ⟨c.cl,f,fd,ds,a.mono h,b⟩
theorem KCal.mono {P:Program} {w:World} {K:PySem.W.Frag} {mg:Str->Option Value} {base:Heap} {x:Str} {C:Addr} {j k:Nat} {ps:List Str} {dvs:List V} {sp:Sp} (c:KCal P w K mg base x C j ps dvs sp) (h:j<=k:=by decide):KCal P w K mg base x C k ps dvs sp:=by
 obtain ⟨f,fd,ds,a,b⟩:=c.ex;exact ⟨c.gl,f,fd,ds,a.mono h,b⟩
section
variable {X:Cx} {G:GK} {k:Nat} {f C:Addr} {fd:FuncData} {ps:List Str} {sp:Sp} {dvs:List V} {ds:List Value} {x m:Str} {p pos apos:Pos} {e o:Expr} {es:List Expr} {ta:TE} {t:TA}
theorem Qk {pins:List (Addr × Obj)} {σ:St} {H:Hp} {s:Shared} {Q:VK} {us:List Value} {vs:List V} (B:Bod X) (F:FnOk X.prog X.w X.K X.mg X.base (CXr X.prog X.w) k f fd ps sp) (hr:Room k X.A) (hb:Binds X.K fd ps ds) (hd:Vals dvs ds)
  (I:Inv (X.exg G) pins σ H s) (r:Vals vs us) (h:sp (vs ++ dvs) H Q (λ cls _ H'=>G cls σ H')):wpAny (model X.prog X.w) X.A (call (.ref f) us) (EP (X.exg G) pins σ Q) (xeG X G) s:=by
 have r2:Vals (vs ++ dvs) (us ++ ds):=r.append hd;have hl:(us ++ ds).length=ps.length:=by rw [<- r2.length];exact F.len _ _ _ _ h
 refine eF (cN (F.run X.A X.stack s H ⟨us,[]⟩ (us ++ ds) (vs ++ dvs) Q _ hr I.unwish.env0 (hb s us I.kIn hl) r2 h) λ r s' hq=>?_);cases r with
 | error e=>exact ZQ B I.unwish hq
 | ok fl =>
  cases fl with
  | ret u=>exact I.after hq
  | next=>exact False.elim hq
  | brk=>exact False.elim hq
  | cont=>exact False.elim hq
theorem zbA {pins:List (Addr × Obj)} {σ:St} {H:Hp} {s:Shared} {Q:VK} {us:List Value} {vs:List V} (B:Bod X) (M:Mk X.K C f) (F:FnOk X.prog X.w X.K X.mg X.base (CXr X.prog X.w) k f fd ps sp) (hr:Room (k + 1) X.A) (hb:Binds X.K fd ps ds) (hd:Vals dvs ds)
  (I:Inv (X.exg G) pins σ H s) (r:Vals vs us)
  (h:∀ x dx,H x=none->H dx=none->dx≠x->sp (.ref x :: (vs ++ dvs)) (upd (upd H dx (.own x)) x (.ins C dx [])) (λ v H2=>v=.non/\Q (.ref x) H2) (λ cls _ H'=>G cls σ H')) :
  wpAny (model X.prog X.w) X.A (call (.ref C) us) (EP (X.exg G) pins σ Q) (xeG X G) s:=by
 have hq:=h (s.heap.objs.size + 1) s.heap.objs.size (I.hok.fresh (bX _)) (I.hok.fresh (av _)) (aP (dD _));have I2:=Inv.made (C:=C) I;have r2:Vals (V.ref (s.heap.objs.size + 1) :: (vs ++ dvs)) (Value.ref (s.heap.objs.size + 1) :: (us ++ ds)):=.cons rfl (r.append hd);have hl:(Value.ref (s.heap.objs.size + 1) :: us ++ ds).length=ps.length:=by
  have e:=r2.length;rw [F.len _ _ _ _ hq] at e;exact e.symm
 refine eF (WV (f:=f) I.kIn M.makes M.init (bx.mp M.fn) (cN (F.run _ X.stack _ _ ⟨Value.ref (s.heap.objs.size + 1) :: us,[]⟩ (Value.ref (s.heap.objs.size + 1) :: (us ++ ds)) _ _ _ (hr.make C us [])
  (I2.unwish.env0.make C us []) (hb _ (Value.ref (s.heap.objs.size + 1) :: us) I2.kIn hl) r2 hq) λ r s' hq'=>?_))
 cases r with
 | error e=>exact ZQ B I2.unwish hq'
 | ok fl =>
  cases fl with
  | ret u =>
   obtain ⟨v,H',I3,rv,ev,q3⟩:=I2.after hq';subst ev;exact ⟨rv,⟨V.ref (s.heap.objs.size + 1),H',I3,rfl,q3⟩⟩
  | next=>exact False.elim hq'
  | brk=>exact False.elim hq'
  | cont=>exact False.elim hq'
def tCl (X:Cx) (k:Nat) (x:Str) (G:GK) (t:TA):TE:=λ σ H Q=>∃ ps dvs sp,Cal X.prog X.w X.K X.mg X.base x k ps dvs sp/\t σ H λ vs H1=>sp (vs ++ dvs) H1 Q (λ cls _ H'=>G cls σ H')
theorem zt (B:Bod X) (hr:Room k X.A) (ha:PA (X.exg G) (e :: es) t) (hg:Gl X x:=by rfl) (hdb:(x == ("__debug__":Str))=false:=by decide)
  (he:starEach (e :: es) X.env=(false,eval e X.env) :: starEach es X.env:=by rfl) (hpl:(backTo pos (starEach es X.env)).any (·.1)=false:=by rfl) :
  PE (X.exg G) (.Call (.Name x p) (e :: es) [] pos) (tCl X k x G t):=by
 intro pins s σ H Q I h;obtain ⟨ps,dvs,sp,⟨f,fd,ds,F,hm,hk,hb,hd⟩,h⟩:=h;refine bu (wb I hg hm ?_ hdb);refine dh (h₀:=X.base) I.ok.mod.kin hk (wu (ha pos pins s σ H _ I h) λ us s1 vs H1 I1 r q=>⟨I1.kIn,?_⟩) he hpl;exact Qk B F hr hb hd I1 r q
def tMk (X:Cx) (k:Nat) (x:Str) (G:GK) (t:TA):TE:=λ σ H Q=>∃ C ps dvs sp,KCal X.prog X.w X.K X.mg X.base x C k ps dvs sp/\t σ H λ vs H1=>∀ y dx,H1 y=none->H1 dx=none->dx≠y ->
 sp (.ref y :: (vs ++ dvs)) (upd (upd H1 dx (.own y)) y (.ins C dx [])) (λ v H2=>v=.non/\Q (.ref y) H2) (λ cls _ H'=>G cls σ H')
theorem ju (B:Bod X) (hr:Room (k + 1) X.A) (ha:PA (X.exg G) (e :: es) t) (hg:Gl X x:=by rfl) (hdb:(x == ("__debug__":Str))=false:=by decide)
  (he:starEach (e :: es) X.env=(false,eval e X.env) :: starEach es X.env:=by rfl) (hpl:(backTo pos (starEach es X.env)).any (·.1)=false:=by rfl) :
  PE (X.exg G) (.Call (.Name x p) (e :: es) [] pos) (tMk X k x G t):=by
 intro pins s σ H Q I h;obtain ⟨C,ps,dvs,sp,⟨hm,f,fd,ds,F,M,hb,hd⟩,h⟩:=h;refine bu (wb I hg hm ?_ hdb);refine dh (h₀:=X.base) I.ok.mod.kin M.kp (wu (ha pos pins s σ H _ I h) λ us s1 vs H1 I1 r q=>⟨I1.kIn,?_⟩) he hpl;exact zbA B M F hr hb hd I1 r q
def tMth (X:Cx) (k:Nat) (m:Str) (G:GK) (ta:TE) (t:TA):TE:=λ σ H Q=>ta σ H λ y H1=>∃ a C dx fs ps dvs sp,y=.ref a/\H1 a=some (.ins C dx fs)/\fs.lookup m=none /\
 MCal X.prog X.w X.K X.mg X.base C m k ps dvs sp/\t σ H1 λ vs H2=>sp (.ref a :: (vs ++ dvs)) H2 Q (λ cls _ H'=>G cls σ H')
theorem zcW {pl:Sem Bool} (B:Bod X) (hr:Room k X.A) (he:PE (X.exg G) o ta) (ha:PA (X.exg G) (e :: es) t)
  (hst:starEach (e :: es) X.env=(false,eval e X.env) :: starEach es X.env:=by rfl) (hpl:(backTo pos (starEach es X.env)).any (·.1)=false:=by rfl)
  (ht:eval (.Call (.Attribute o m apos) (e :: es) [] pos) X.env=(do
   let ov <- eval o X.env
   standAt apos.atName
   let (f,first) <- holding [ov] (getMethod ov m pl)
   callWith pos f first (backTo pos (starEach (e :: es) X.env)) (backToKw pos (keywordEach [] X.env))):=by rfl) :
  PE (X.exg G) (.Call (.Attribute o m apos) (e :: es) [] pos) (tMth X k m G ta t):=by
 intro pins s σ H Q I h;refine dG (pl:=pl) (thn (he pins s σ H _ I h) λ u s1 hz=>?_) ht;obtain ⟨x,H1,I1,rx,a,C,dx,fs,ps,dvs,sp,ex,ea,l,⟨c,f,fd,ds,F,hm,hb,hd⟩,q⟩:=hz;subst ex;obtain rfl:u=Value.ref a:=rx;refine vF I1 ea c hm l ?_;refine dh (first:=[.ref a]) (h₀:=X.base) I.ok.mod.kin hm.kp (wu (ha pos pins s1 σ H1 _ I1 q) λ us s2 vs H2 I2 r q2=>⟨I2.kIn,?_⟩) hst hpl;exact Qk (us:=.ref a :: us) (vs:=.ref a :: vs) B F hr hb hd I2 (.cons rfl r) q2
theorem Ql {pl:Sem Bool} (B:Bod X) (hr:Room k X.A) (he:PE (X.exg G) o ta)
  (ht:eval (.Call (.Attribute o m apos) [] [] pos) X.env=(do
   let ov <- eval o X.env
   standAt apos.atName
   let (f,first) <- holding [ov] (getMethod ov m pl)
   callWith pos f first (backTo pos (starEach [] X.env)) (backToKw pos (keywordEach [] X.env))):=by rfl) :
  PE (X.exg G) (.Call (.Attribute o m apos) [] [] pos) (tMth X k m G ta tNil):=by
 intro pins s σ H Q I h;refine dG (pl:=pl) (thn (he pins s σ H _ I h) λ u s1 hz=>?_) ht;obtain ⟨x,H1,I1,rx,a,C,dx,fs,ps,dvs,sp,ex,ea,l,⟨c,f,fd,ds,F,hm,hb,hd⟩,q⟩:=hz;subst ex;obtain rfl:u=Value.ref a:=rx;refine vF I1 ea c hm l ?_;exact eK (first:=[.ref a]) I1.kIn hm.kp (Qk (us:=[.ref a]) (vs:=[.ref a]) B F hr hb hd I1 (.cons rfl .nil) q)
def tGl (X:Cx) (x:Str):TE:=λ _ H Q=>∃ v u,X.mg x=some u/\RelV v u/\Q v H
theorem jk (hg:Gl X x:=by rfl) (hd:(x == ("__debug__":Str))=false:=by decide):PE X (.Name x pos) (tGl X x):=λ _ _ _ H _ I h=>by
 obtain ⟨v,u,hm,r,h⟩:=h;exact wb I hg hm ⟨v,H,I,r,h⟩ hd
def tBi (X:Cx) (x:Str) (r:List V->Hp->VK->Prop) (t:TA):TE:=λ σ H Q=>X.mg x=none/\t σ H λ vs H1=>r vs H1 Q
theorem zP {id:String} {r:List V->Hp->VK->Prop} (hc:CallR X (.builtin id) r) (hv:bootBuiltins x=some (.builtin id)) (ha:PA X (e :: es) t) (hg:Gl X x:=by rfl) (hn:x≠"__name__":=by decide) (hdb:(x == ("__debug__":Str))=false:=by decide)
  (he:starEach (e :: es) X.env=(false,eval e X.env) :: starEach es X.env:=by rfl) (hpl:(backTo pos (starEach es X.env)).any (·.1)=false:=by rfl):PE X (.Call (.Name x p) (e :: es) [] pos) (tBi X x r t):=λ pins s σ H Q I h =>
 zcX hc hg h.1 hv ha hn hdb he hpl pins s σ H Q I h.2
theorem wE {T:String} {r:List V->Hp->VK->Prop} (hc:CallR X (.type T) r) (hv:bootBuiltins x=some (.type T)) (ha:PA X (e :: es) t) (hg:Gl X x:=by rfl) (hn:x≠"__name__":=by decide) (hdb:(x == ("__debug__":Str))=false:=by decide)
  (he:starEach (e :: es) X.env=(false,eval e X.env) :: starEach es X.env:=by rfl) (hpl:(backTo pos (starEach es X.env)).any (·.1)=false:=by rfl):PE X (.Call (.Name x p) (e :: es) [] pos) (tBi X x r t):=λ pins s σ H Q I h =>
 zbJ hc hg h.1 hv ha hn hdb he hpl pins s σ H Q I h.2
end
end L2
namespace L2
open PySem PySem.Spec PyProof.Rows
section
variable {X:Cx} {tg:Expr} {a b c e o:Expr} {ta tb tc:TE} {pos:Pos}
def iSeq (K:PySem.W.Frag) (tl:TE):TI:=λ σ H R=>tl σ H λ x H1=>∃ a,x=.ref a/\(((∃ xs,SqL K H1 a xs)/\R (Itl K a) H1)\/((∃ xs,SqT K H1 a xs)/\R (Itt K a) H1))
theorem z9 {l:Expr} {tl:TE} (hl:PE X l tl):PI X tg l (iSeq X.K tl):=by
 intro pins s σ H R I h;refine qY (hl pins s σ H _ I h) λ v s1 x H1 I1 r1 q1=>?_;obtain ⟨a,e,q⟩:=q1;subst e;cases r1;rcases q with ⟨⟨xs,hq⟩,q⟩|⟨⟨xs,hq⟩,q⟩
 ·obtain ⟨its,rv,p,hz⟩:=I1.list hq;refine dI p.isList ?_;refine ⟨s1.heap.objs.size,[s1.heap.objs.size],_,_,H1,rfl,I1.kept (t':=s1.toks) λ b o e=>ai _ e,zbj a _,⟨_,aD _ rfl,rfl,rfl⟩,λ b hb=>?_,q⟩;have e:b=s1.heap.objs.size:=by simpa using hb
  subst e;exact I1.fpOk (av _) (I1.hok.fresh (av _))
 ·obtain ⟨its,rv,p,hz⟩:=I1.tuple hq;refine wpAny_pyIter_tuple (show s1.heap.IsTuple a its.toArray from p) ?_;refine ⟨s1.heap.objs.size,[s1.heap.objs.size],_,_,H1,rfl,I1.kept (t':=s1.toks) λ b o e=>ai _ e,VC a _,⟨_,aD _ rfl,rfl,rfl⟩,λ b hb=>?_,q⟩;have e:b=s1.heap.objs.size:=by simpa using hb
  subst e;exact I1.fpOk (av _) (I1.hok.fresh (av _))
theorem x9 {ta:TA} {p pos:Pos} (ha:PA X [a] ta) (hg:Gl X "range":=by rfl) (hs:starEach [a] X.env=[(false,eval a X.env)]:=by rfl):PI X tg (.Call (.Name "range" p) [a] [] pos) (λ σ H R=>X.mg "range"=none/\iRng1 ta σ H R) :=
 λ pins s σ H R I h=>zbI hg h.1 ha hs pins s σ H R I h.2
def zcT (K:PySem.W.Frag):R2:=λ x y H Q=>∃ l b xs zs,x=.ref l/\y=.ref b/\SqL K H l xs/\SqL K H b zs/\xs.length + zs.length<=sizeLine/\∀ p,H p=none->Q (.ref p) (upd H p (.lst (xs ++ zs)))
theorem zee:OpR X (binaryOp .Add) (zcT X.K):=by
 intro pins s σ H x y v u Q I rx ry h;obtain ⟨l,b,xs,zs,rfl,rfl,hH,hB,hz,q⟩:=h;cases rx;cases ry;obtain ⟨its,r,p,z⟩:=I.list hH;obtain ⟨its2,r2,p2,z2⟩:=I.list hB;have e1:=r.length;have e2:=r2.length;obtain ⟨⟨cls,dd,data,sl⟩,n,ho,hc,hdd,hd⟩:=p;obtain ⟨⟨cls2,dd2,data2,sl2⟩,n2,ho2,hc2,hdd2,hd2⟩:=p2;simp only at hc hd hc2 hd2;subst hc hd hc2 hd2;have ea:its.toArray ++ its2.toArray=(its ++ its2).toArray:=by simp
 refine concat_meets ⟨_,ho,rfl⟩ ⟨_,ho2,rfl⟩ noFill_list_add seq_list_add PySem.F.slot_list_add PySem.F.entry_list_add (PySem.F.args_list_add_2 _ _) (list_addW l b its.toArray its2.toArray n n2 dd dd2 sl sl2 (by simp only [au];omega)) ⟨ho,ho2,?_⟩;rw [ea];exact ⟨.ref _,_,I.lnew (t':=s.toks) (r.append r2) (by rw [aQ];omega),rfl,q _ I.fresh⟩
theorem OpR.wk {f:Value->Value->Sem Value} {r r':R2} (h:OpR X f r) (k:∀ x y H Q,r' x y H Q->r x y H Q):OpR X f r':=λ pins s σ H x y v u Q I rx ry q=>h pins s σ H x y v u Q I rx ry (k x y H Q q)
def WJ (K:PySem.W.Frag):R2:=λ x y H Q=>match x,y with
 | .int i,.int j=>Q (.int (i + j)) H
 | .str i,.str j=>i.length + j.length<=sizeLine/\Q (.str (i ++ j)) H
 | x,y=>zcT K x y H Q
theorem zL:OpR X (binaryOp .Add) (WJ X.K):=(op_add.or (op_add_str.or zee)).wk λ x y H Q h=>by
 unfold WJ at h
 split at h
 ·exact .inl h
 ·exact .inr (.inl ⟨_,_,rfl,rfl,h⟩)
 ·exact .inr (.inr h)
def rT (c:Int->Int->Prop) [∀ i j,Decidable (c i j)]:R2:=λ x y H Q=>iq x λ i=>iq y λ j=>if c i j then Q (.bl true) H else Q (.bl false) H
theorem zai {c:Prop} [Decidable c] {Q:VK} {H:Hp} (h:if c then Q (.bl true) H else Q (.bl false) H):Q (.bl (decide c)) H:=by
 by_cases e:c
 ·rw [aA e] at h;rw [bO e];exact h
 ·rw [aw e] at h;rw [aY e];exact h
theorem zaS {c:Prop} [Decidable c] {Q:VK} {H:Hp} (h:if ¬ c then Q (.bl true) H else Q (.bl false) H):Q (.bl (!decide c)) H:=by
 by_cases e:c
 ·rw [aw (λ z=>z e)] at h;rw [bO e];exact h
 ·rw [aA e] at h;rw [aY e];exact h
theorem OpR.t {f:Value->Value->Sem Value} {c:Int->Int->Prop} [∀ i j,Decidable (c i j)] (h:OpR X f (rI0 λ i j=>.bl (decide (c i j)))):OpR X f (rT c):=h.wk λ x y H Q q=>by
 obtain ⟨i,j,rfl,rfl,q⟩:=Ja q;exact zai q
theorem zcY:OpR X (compareOp .Lt) (rT λ i j=>i < j):=op_lt.t
theorem xh:OpR X (compareOp .LtE) (rT λ i j=>i<=j):=op_le.t
theorem zcZ:OpR X (compareOp .Gt) (rT λ i j=>j < i):=op_gt.t
theorem je:OpR X (compareOp .Is) (λ x y H Q=>nq y (if x=.non then Q (.bl true) H else Q (.bl false) H)):=op_isN.wk λ x y H Q q=>by
 obtain ⟨rfl,q⟩:=zaO q;exact zai q
theorem zaL:OpR X (compareOp .IsNot) (λ x y H Q=>nq y (if ¬ x=.non then Q (.bl true) H else Q (.bl false) H)):=op_notN.wk λ x y H Q q=>by
 obtain ⟨rfl,q⟩:=zaO q;exact zaS q
theorem V3 {op:Operator} {b:Expr} {y:V} {r:R2} (ho:OpR X (binaryOp op) r) (hb:PE X b (tC y)) {ta:TE} {r':V->Hp->VK->Prop} (k:∀ x H Q,r' x H Q->r x y H Q) {pos:Pos} (ha:PE X a ta):PE X (.BinOp a op b pos) (tUn r' ta):=by
 intro pins s σ H Q I h;refine wpAny_BinOp (qY (ha pins s σ H _ I h) λ v s1 x H1 I1 r1 q1=>thn (hb pins s1 σ H1 (λ z H2=>z=y/\H2=H1) I1 ⟨rfl,rfl⟩) λ u s2 ⟨z,H2,I2,r2,e,e2⟩=>?_);subst e e2;exact ho pins s2 σ H2 x z v u Q I2 r1 r2 (k x H2 Q q1)
theorem qv {k:Int} {j:Nat} {p2 pos:Pos} {ta:TE} (ha:PE X a ta) (h:decide (0 < k)=true:=by rfl):PE X (.BinOp a .Mod (.Constant (.int k) j p2) pos) (tUn (rU λ i=>.int (i % k)) ta) :=
 V3 qt zf (λ x H Q q=>by obtain ⟨i,rfl,q⟩:=Zb q;exact ⟨bw h,q⟩) ha
theorem qm {k:Int} {j:Nat} {p2 pos:Pos} {ta:TE} (ha:PE X a ta) (h:decide (0 < k/\k < 1073741824)=true:=by rfl):PE X (.BinOp a .FloorDiv (.Constant (.int k) j p2) pos) (tUn (rU λ i=>.int (i / k)) ta) :=
 V3 zed zf (λ x H Q q=>by obtain ⟨i,rfl,q⟩:=Zb q;have z:=bw h;exact ⟨z,q⟩) ha
theorem QR {b k:Int} {j j2:Nat} {p1 p2 pos:Pos} (h:decide (0<=k/\k<=1000000/\b.natAbs < 2 ^ 64)=true:=by rfl):PE X (.BinOp (.Constant (.int b) j p1) .Pow (.Constant (.int k) j2 p2) pos) (tC (.int (b ^ k.toNat))):=by
 intro pins s σ H Q I q;have z:=bw h;exact zq zfg zf zf pins s σ H Q I ⟨z,q⟩
theorem V4 {b k:Int} {j j2:Nat} {p1 p2 p3 pos:Pos} {ta:TE} (ha:PE X a ta) (h:decide (0<=k/\k<=1000000/\b.natAbs < 2 ^ 64)=true:=by rfl) (h0:decide (0 < b)=true:=by rfl) :
  PE X (.BinOp a .Mod (.BinOp (.Constant (.int b) j p1) .Pow (.Constant (.int k) j2 p2) p3) pos) (tUn (rU λ i=>.int (i % b ^ k.toNat)) ta) :=
 V3 qt (QR h) (λ x H Q q=>by obtain ⟨i,rfl,q⟩:=Zb q;exact ⟨Int.pow_pos (bw h0),q⟩) ha
structure MulOk (i j:Int):Prop where
 h:IntMulOk i j
theorem jQ:OpR X (binaryOp .Mult) (rI MulOk λ i j=>.int (i * j)):=opI λ _ _ _ _ _ _ _ hc q=>mul_int q hc.h
structure CFd (_ j:Int):Prop where
 a:j≠0
 b:j.natAbs.log2 < 9000
theorem zaN:OpR X (binaryOp .FloorDiv) (rI CFd λ i j=>.int (i.fdiv j)):=opI λ _ _ _ _ _ _ _ hc q=>floordiv_int hc.1 q (.inl (PyProof.noPylong_of_log2 hc.2))
theorem mul_okL {i j:Int} (h1:-(2 ^ 64) < i) (h2:i < 2 ^ 64):MulOk i j:=⟨PySem.IntMulOk.of_left (eJ h1 h2)⟩
theorem mul_okR {i j:Int} (h1:-(2 ^ 64) < j) (h2:j < 2 ^ 64):MulOk i j:=⟨PySem.IntMulOk.of_right (eJ h1 h2)⟩
theorem fd_ok {i j:Int} (h1:0 < j) (h2:j.natAbs < 2 ^ 8999):CFd i j:=⟨by omega,by
 have:=(Nat.log2_lt (n:=j.natAbs) (k:=8999) (by omega)).mpr h2;omega⟩
theorem fdiv_pos {i j:Int} (h:0 < j):i.fdiv j=i / j:=dP i (cr h)
def jS:List V->List V->Bool
 | [],[]=>true
 | x :: xs,y :: ys=>eqV x y && jS xs ys
 | _,_=>false
theorem xA:∀ {xs ys:List V},xs.length≠ys.length->jS xs ys=false
 | [],[],h=>absurd rfl h
 | [],_ :: _,_=>rfl
 | _ :: _,[],_=>rfl
 | x :: xs,y :: ys,h=>by
  have:=xA (xs:=xs) (ys:=ys) (λ e=>h (by simp [e]));unfold jS;rw [this,cu]
theorem xB:∀ {xs ys:List V},xs.length=ys.length->(List.range xs.length).all (λ j=>eqV (xs.getD j .non) (ys.getD j .non))=jS xs ys
 | [],[],_=>rfl
 | [],_ :: _,h=>by simp at h
 | _ :: _,[],h=>by simp at h
 | x :: xs,y :: ys,h=>by
  have ih:=xB (xs:=xs) (ys:=ys) (by simpa using h);unfold jS;rw [<- ih,bH,List.range_succ_eq_map,List.all_cons,List.all_map]
  rfl
theorem Vals.getD:∀ {xs:List V} {us:List Value} {j:Nat} (h:j < us.length),Vals xs us->RelV (xs.getD j .non) us[j]
 | _,_,0,_,.cons r _=>r
 | _,_,j + 1,h,.cons _ t=>Vals.getD (j:=j) (by simpa using h) t
theorem jI {xs:List V} (f:xs.all jT=true) (j:Nat):jT (xs.getD j .non)=true:=by
 rw [ap];cases e:xs[j]? with
 | none=>rfl
 | some x=>exact cS.mp f x (ah e)
def zd9 (K:PySem.W.Frag) (neg:Bool):R2:=λ x y H Q=>∃ a b xs ys,x=.ref a/\y=.ref b/\((SqL K H a xs/\SqL K H b ys)\/(SqT K H a xs/\SqT K H b ys))/\xs.all jT=true/\ys.all jT=true/\Q (.bl (if neg then !jS xs ys else jS xs ys)) H
theorem JY (hu:X.A.units < cLine):OpR X (compareOp .Eq) (zd9 X.K false):=by
 intro pins s σ H x y v u Q I rx ry h;obtain ⟨a,b,xs,ys,rfl,rfl,hq,fx,fy,q⟩:=h;cases rx;cases ry;have fin:EP X pins σ Q (.bool (jS xs ys)) s:=⟨.bl (jS xs ys),H,I,rfl,q⟩;rcases hq with ⟨h1,h2⟩|⟨h1,h2⟩
 ·obtain ⟨its,r,p,_⟩:=I.list h1;obtain ⟨its2,r2,p2,_⟩:=I.list h2;have e1:=r.length;have e2:=r2.length;by_cases hl:xs.length=ys.length
  ·refine dU (e:=λ j=>eqV (xs.getD j .non) (ys.getD j .non)) p.isList p2.isList (by simp only [au];omega) hu (λ j h1 h2=>?_) _ _ _ _ ?_
   ·exact Je (Vals.getD (by simpa using h1) r) (Vals.getD (by simpa using h2) r2) (jI fx j) (jI fy j)
   ·rw [au,<- e1,xB hl];exact fin
  ·rw [xA hl] at fin;exact cZ p.isList p2.isList (by simp only [au];simp;omega) hu _ _ _ _ fin
 ·obtain ⟨its,r,p,_⟩:=I.tuple h1;obtain ⟨its2,r2,p2,_⟩:=I.tuple h2;have e1:=r.length;have e2:=r2.length;refine dL (e:=λ j=>eqV (xs.getD j .non) (ys.getD j .non)) p p2 hu (λ j h1 h2=>?_) _ _ _ _ ?_
  ·exact Je (Vals.getD (by simpa using h1) r) (Vals.getD (by simpa using h2) r2) (jI fx j) (jI fy j)
  ·by_cases hl:xs.length=ys.length
   ·have em:min its.toArray.size its2.toArray.size=xs.length:=by simp only [au];omega
    have es:(its.toArray.size == its2.toArray.size)=true:=by simp only [au];rw [bx];omega
    rw [em,es,xB hl,dX];exact fin
   ·have es:(its.toArray.size == its2.toArray.size)=false:=by simp only [au];rw [a7];omega
    rw [es,cu];rw [xA hl] at fin;exact fin
theorem zbK (hu:X.A.units < cLine):OpR X (compareOp .NotEq) (zd9 X.K true):=by
 intro pins s σ H x y v u Q I rx ry h;obtain ⟨a,b,xs,ys,rfl,rfl,hq,fx,fy,q⟩:=h;cases rx;cases ry;have fin:EP X pins σ Q (.bool (!jS xs ys)) s:=⟨.bl (!jS xs ys),H,I,rfl,q⟩;rcases hq with ⟨h1,h2⟩|⟨h1,h2⟩
 ·obtain ⟨its,r,p,_⟩:=I.list h1;obtain ⟨its2,r2,p2,_⟩:=I.list h2;have e1:=r.length;have e2:=r2.length;by_cases hl:xs.length=ys.length
  ·refine SeqAt.RcNeAt.lists (e:=λ j=>eqV (xs.getD j .non) (ys.getD j .non)) p.isList p2.isList (by simp only [au];omega) hu (λ j h1 h2=>?_) _ _ _ _ ?_
   ·exact Je (Vals.getD (by simpa using h1) r) (Vals.getD (by simpa using h2) r2) (jI fx j) (jI fy j)
   ·rw [au,<- e1,xB hl];exact fin
  ·rw [xA hl] at fin;exact SeqAt.RcNeAt.lists_lengths p.isList p2.isList (by simp only [au];simp;omega) hu _ _ _ _ fin
 ·obtain ⟨its,r,p,_⟩:=I.tuple h1;obtain ⟨its2,r2,p2,_⟩:=I.tuple h2;have e1:=r.length;have e2:=r2.length;refine SeqAt.RcNeAt.tuples (e:=λ j=>eqV (xs.getD j .non) (ys.getD j .non)) p p2 hu (λ j h1 h2=>?_) _ _ _ _ ?_
  ·exact Je (Vals.getD (by simpa using h1) r) (Vals.getD (by simpa using h2) r2) (jI fx j) (jI fy j)
  ·by_cases hl:xs.length=ys.length
   ·have em:min its.toArray.size its2.toArray.size=xs.length:=by simp only [au];omega
    have es:(its.toArray.size == its2.toArray.size)=true:=by simp only [au];rw [bx];omega
    rw [em,es,xB hl,dX];exact fin
   ·have es:(its.toArray.size == its2.toArray.size)=false:=by simp only [au];rw [a7];omega
    rw [es,cu];rw [xA hl] at fin;exact fin
inductive DE (K:PySem.W.Frag) (H:Hp):Nat->V->V->Bool->Prop
 | flat {n:Nat} {x y:V}:jT x=true->jT y=true->DE K H n x y (eqV x y)
 | same {n:Nat} {p:Addr}:DE K H n (.ref p) (.ref p) true
 | lists {n:Nat} {p q:Addr} {xs ys:List V} {e:Nat->Bool}:p≠q->SqL K H p xs->SqL K H q ys->xs.length=ys.length->(∀ j x y,xs[j]?=some x->ys[j]?=some y->DE K H n x y (e j))->DE K H (n + 1) (.ref p) (.ref q) ((List.range xs.length).all e)
 | listsL {n:Nat} {p q:Addr} {xs ys:List V}:p≠q->SqL K H p xs->SqL K H q ys->xs.length≠ys.length->DE K H (n + 1) (.ref p) (.ref q) false
 | tuples {n:Nat} {p q:Addr} {xs ys:List V} {e:Nat->Bool}:p≠q->SqT K H p xs->SqT K H q ys->(∀ j x y,xs[j]?=some x->ys[j]?=some y->DE K H n x y (e j))->DE K H (n + 1) (.ref p) (.ref q) ((List.range (min xs.length ys.length)).all e && xs.length == ys.length)
 | nt {n:Nat} {p:Addr} {xs:List V}:SqT K H p xs->DE K H n .non (.ref p) false
 | tn {n:Nat} {p:Addr} {xs:List V}:SqT K H p xs->DE K H n (.ref p) .non false
theorem Vals.at_ {xs:List V} {us:List Value} (r:Vals xs us) {j:Nat} (h:j < us.toArray.size):∃ x,xs[j]?=some x/\RelV x us.toArray[j]:=by
 have h':j < us.length:=by simpa using h
 have hl:j < xs.length:=by rw [r.length];exact h'
 obtain ⟨u,hu,ru⟩:=r.get (ad hl);have e:us.toArray[j]=u:=by
  have:=aa.mp hu;obtain ⟨_,e⟩:=this;simpa using e
 exact ⟨xs[j],ad hl,e ▸ ru⟩
theorem za8 {pins:List (Addr × Obj)} {s:Shared} {σ:St} {H:Hp} {n:Nat} {x y:V} {b:Bool} (I:Inv X pins σ H s) (h:DE X.K H n x y b):∀ {u v:Value} {A:Around},RelV x u->RelV y v->A.units + n < cLine->SeqAt.EqAt A s u v b:=by
 induction h with
 | flat fx fy=>intro u v A rx ry _;exact Je rx ry fx fy
 | same=>intro u v A rx ry _;cases rx;cases ry;exact SeqAt.EqAt.same _
 | lists hne h1 h2 hl _ ih =>
  intro u v A rx ry hu;cases rx;cases ry;obtain ⟨its,r,p,_⟩:=I.list h1;obtain ⟨its2,r2,p2,_⟩:=I.list h2;have e1:=r.length;have e2:=r2.length;refine dF hne ?_;have:=dU (A:=A) (s:=s) p.isList p2.isList (by simp only [au];omega) (by omega) (λ j h1 h2=>by
   obtain ⟨x,hx,rx⟩:=r.at_ h1;obtain ⟨y,hy,ry⟩:=r2.at_ h2;exact ih j x y hx hy rx ry (by show A.units + 1 + _ < _;omega))
  rw [au,<- e1] at this;exact this
 | listsL hne h1 h2 hl =>
  intro u v A rx ry hu;cases rx;cases ry;obtain ⟨its,r,p,_⟩:=I.list h1;obtain ⟨its2,r2,p2,_⟩:=I.list h2;have e1:=r.length;have e2:=r2.length;exact dF hne (cZ p.isList p2.isList (by simp only [au];simp;omega) (by omega))
 | tuples hne h1 h2 _ ih =>
  intro u v A rx ry hu;cases rx;cases ry;obtain ⟨its,r,p,_⟩:=I.tuple h1;obtain ⟨its2,r2,p2,_⟩:=I.tuple h2;have e1:=r.length;have e2:=r2.length;refine dF hne ?_;have:=dL (A:=A) (s:=s) p p2 (by omega) (λ j h1 h2=>by
   obtain ⟨x,hx,rx⟩:=r.at_ h1;obtain ⟨y,hy,ry⟩:=r2.at_ h2;exact ih j x y hx hy rx ry (by show A.units + 1 + _ < _;omega))
  simp only [au,<- e1,<- e2] at this;exact this
 | nt h1 =>
  intro u v A rx ry hu;cases rx;cases ry;obtain ⟨its,r,p,_⟩:=I.tuple h1;exact SeqAt.EqAt.none_tuple p (by omega)
 | tn h1 =>
  intro u v A rx ry hu;cases rx;cases ry;obtain ⟨its,r,p,_⟩:=I.tuple h1;exact SeqAt.EqAt.tuple_none p (by omega)
def zcS (K:PySem.W.Frag) (neg:Bool):R2:=λ x y H Q=>∃ p q xs ys n e,x=.ref p/\y=.ref q/\n<=8/\(∀ j x y,xs[j]?=some x->ys[j]?=some y->DE K H n x y (e j)) /\
 ((SqL K H p xs/\SqL K H q ys/\xs.length=ys.length/\Q (.bl (if neg then !((List.range xs.length).all e) else (List.range xs.length).all e)) H) \/
   (SqT K H p xs/\SqT K H q ys/\Q (.bl (if neg then !((List.range (min xs.length ys.length)).all e && xs.length == ys.length) else ((List.range (min xs.length ys.length)).all e && xs.length == ys.length))) H))
theorem V6 (hu:X.A.units + 100 < cLine):OpR X (compareOp .Eq) (zcS X.K false):=by
 intro pins s σ H x y v u Q I rx ry h;obtain ⟨p,q,xs,ys,n,e,rfl,rfl,hn,hde,h⟩:=h;cases rx;cases ry;rcases h with ⟨h1,h2,hl,q⟩|⟨h1,h2,q⟩
 ·obtain ⟨its,r,p,_⟩:=I.list h1;obtain ⟨its2,r2,p2,_⟩:=I.list h2;have e1:=r.length;have e2:=r2.length;refine dU (e:=e) p.isList p2.isList (by simp only [au];omega) (by omega) (λ j h1 h2=>?_) _ _ _ _ ?_
  ·obtain ⟨x,hx,rx⟩:=r.at_ h1;obtain ⟨y,hy,ry⟩:=r2.at_ h2;exact za8 I (hde j x y hx hy) rx ry (by show X.A.units + 1 + _ < _;omega)
  ·rw [au,<- e1];exact ⟨.bl _,H,I,rfl,q⟩
 ·obtain ⟨its,r,p,_⟩:=I.tuple h1;obtain ⟨its2,r2,p2,_⟩:=I.tuple h2;have e1:=r.length;have e2:=r2.length;refine dL (e:=e) p p2 (by omega) (λ j h1 h2=>?_) _ _ _ _ ?_
  ·obtain ⟨x,hx,rx⟩:=r.at_ h1;obtain ⟨y,hy,ry⟩:=r2.at_ h2;exact za8 I (hde j x y hx hy) rx ry (by show X.A.units + 1 + _ < _;omega)
  ·simp only [au,<- e1,<- e2];exact ⟨.bl _,H,I,rfl,q⟩
theorem V5 (hu:X.A.units + 100 < cLine):OpR X (compareOp .NotEq) (zcS X.K true):=by
 intro pins s σ H x y v u Q I rx ry h;obtain ⟨p,q,xs,ys,n,e,rfl,rfl,hn,hde,h⟩:=h;cases rx;cases ry;rcases h with ⟨h1,h2,hl,q⟩|⟨h1,h2,q⟩
 ·obtain ⟨its,r,p,_⟩:=I.list h1;obtain ⟨its2,r2,p2,_⟩:=I.list h2;have e1:=r.length;have e2:=r2.length;refine SeqAt.RcNeAt.lists (e:=e) p.isList p2.isList (by simp only [au];omega) (by omega) (λ j h1 h2=>?_) _ _ _ _ ?_
  ·obtain ⟨x,hx,rx⟩:=r.at_ h1;obtain ⟨y,hy,ry⟩:=r2.at_ h2;exact za8 I (hde j x y hx hy) rx ry (by show X.A.units + 1 + _ < _;omega)
  ·rw [au,<- e1];exact ⟨.bl _,H,I,rfl,q⟩
 ·obtain ⟨its,r,p,_⟩:=I.tuple h1;obtain ⟨its2,r2,p2,_⟩:=I.tuple h2;have e1:=r.length;have e2:=r2.length;refine SeqAt.RcNeAt.tuples (e:=e) p p2 (by omega) (λ j h1 h2=>?_) _ _ _ _ ?_
  ·obtain ⟨x,hx,rx⟩:=r.at_ h1;obtain ⟨y,hy,ry⟩:=r2.at_ h2;exact za8 I (hde j x y hx hy) rx ry (by show X.A.units + 1 + _ < _;omega)
  ·simp only [au,<- e1,<- e2];exact ⟨.bl _,H,I,rfl,q⟩
def WH (K:PySem.W.Frag):R2:=λ x y H Q=>match x,y with
 | .int i,.int j=>Q (.bl (decide (i=j))) H
 | .str i,.str j=>Q (.bl (decide (i=j))) H
 | .bl i,.bl j=>Q (.bl (decide (i=j))) H
 | x,y=>rEq x y H Q\/zd9 K false x y H Q\/zcS K false x y H Q
def XF (K:PySem.W.Frag):R2:=λ x y H Q=>match x,y with
 | .int i,.int j=>Q (.bl (!decide (i=j))) H
 | .str i,.str j=>Q (.bl (!decide (i=j))) H
 | .bl i,.bl j=>Q (.bl (!decide (i=j))) H
 | x,y=>rNe x y H Q\/zd9 K true x y H Q\/zcS K true x y H Q
def zbF (K:PySem.W.Frag):R2:=λ x y H Q=>match x,y with
 | .int i,.int j=>if i=j then Q (.bl true) H else Q (.bl false) H
 | .str i,.str j=>if i=j then Q (.bl true) H else Q (.bl false) H
 | .bl i,.bl j=>if i=j then Q (.bl true) H else Q (.bl false) H
 | x,y=>WH K x y H Q
def zbE (K:PySem.W.Frag):R2:=λ x y H Q=>match x,y with
 | .int i,.int j=>if ¬ i=j then Q (.bl true) H else Q (.bl false) H
 | .str i,.str j=>if ¬ i=j then Q (.bl true) H else Q (.bl false) H
 | .bl i,.bl j=>if ¬ i=j then Q (.bl true) H else Q (.bl false) H
 | x,y=>XF K x y H Q
theorem zc0 (hu:X.A.units + 100 < cLine):OpR X (compareOp .Eq) (WH X.K):=(op_eq.or ((JY (by omega)).or (V6 hu))).wk λ x y H Q h=>by
 unfold WH at h
 split at h <;> first|exact h|exact .inl ⟨rfl,by simpa using h⟩
theorem zf8 (hu:X.A.units + 100 < cLine):OpR X (compareOp .NotEq) (XF X.K):=(op_ne.or ((zbK (by omega)).or (V5 hu))).wk λ x y H Q h=>by
 unfold XF at h
 split at h <;> first|exact h|exact .inl ⟨rfl,by simpa using h⟩
theorem jv (hu:X.A.units + 100 < cLine):OpR X (compareOp .Eq) (zbF X.K):=(zc0 hu).wk λ x y H Q h=>by
 unfold zbF at h
 split at h <;> first|exact h|exact zai (Q:=Q) h
theorem xF (hu:X.A.units + 100 < cLine):OpR X (compareOp .NotEq) (zbE X.K):=(zf8 hu).wk λ x y H Q h=>by
 unfold zbE at h
 split at h <;> first|exact h|exact zaS (Q:=Q) h
theorem Room.units1 {k:Nat} {A:Around} (r:Room k A):A.units + 100 < cLine:=by have:=r.un;omega
def zfJ:V->Option Value
 | .ty n=>some (.type n)
 | .ref a=>some (.ref a)
 | _=>none
theorem zX:bootBuiltins "len"=some (.builtin "len"):=by decide +kernel
theorem zS:bootBuiltins "isinstance"=some (.builtin "isinstance"):=by decide +kernel
theorem zaz:bootBuiltins "max"=some (.builtin "max"):=by decide +kernel
theorem zfL:bootBuiltins "all"=some (.builtin "all"):=by decide +kernel
theorem zcg:bootBuiltins "sorted"=some (.builtin "sorted"):=by decide +kernel
theorem xr:bootBuiltins "list"=some (.type "list"):=by decide +kernel
theorem Zk:bootBuiltins "tuple"=some (.type "tuple"):=by decide +kernel
theorem ZV {K:PySem.W.Frag}:PySem.W.kitOne K (.type "int") (.type "int")=some true:=by rfl
theorem Za {K:PySem.W.Frag}:PySem.W.kitOne K (.type "int") (.type "bool")=some false:=by rfl
theorem vb {K:PySem.W.Frag}:PySem.W.kitOne K (.type "bool") (.type "bool")=some true:=by rfl
theorem ZU {K:PySem.W.Frag}:PySem.W.kitOne K (.type "str") (.type "str")=some true:=by rfl
theorem zfC:IxR X (rIx X.K):=zfB
theorem zY:CallR X (.builtin "len") (λ xs H Q=>lq xs λ x=>∃ n,zgp X.K x H n/\Q (.int n) H):=λ pins s σ H xs us Q I r h=>let ⟨x,e,n,h⟩:=zdd h;zdD pins s σ H xs us Q I r ⟨x,n,e,h⟩
theorem zfq {xs:List V} {P:Int->Prop} (h:lq xs λ v=>iq v P):∃ i,xs=[.int i]/\P i:=by
 obtain ⟨v,rfl,h⟩:=zdd h;obtain ⟨i,rfl,h⟩:=Zb h;exact ⟨i,rfl,h⟩
end
end L2
namespace L2
open PySem PySem.Spec PyProof.Rows
abbrev bmV:List Value:=[.type "ValueError",.type "Exception",.type "BaseException",.type "object"]
structure XC (K:PySem.W.Frag) (C:Addr):Prop where
 q:excIn K C bmV "ValueError.__new__"=true
theorem zeS {K:PySem.W.Frag} {C:Addr} {h₀:Heap} (X:K.In h₀) (x:XC K C):∃ bm N nm q bs hdct sn sub ab col dd k0 k1 k2 k3 k5 mN,h₀.get? C=some (excClassObj nm q C N bs bm hdct sn sub ab col dd k0 k1 k2 k3 k5 "ValueError.__new__")/\h₀.Ns N mN/\mN "__init__"=none/\OwnTail h₀ bmV bm:=by
 have q:=x.q;unfold excIn at q
 split at q
 ·rename_i dd cd sl ho
  split at q
  ·rename_i C' bm k0 k1 k2 k3 n k5 hm hs;simp only [cy,bx,Bool.not_eq_true'] at q;obtain ⟨⟨⟨⟨⟨rfl,rfl⟩,hdel⟩,ht⟩,hok⟩,hni⟩:=q;obtain ⟨nm,bs,mro,ns,qn,hd,sn,sub,ab,col,del⟩:=cd;dsimp only at hm hdel hok hni;subst hm hdel;have hsl:sl=#[k0,k1,k2,k3,some (.builtin "ValueError.__new__"),k5]:=by
    obtain ⟨l⟩:=sl;simp only at hs;rw [hs]
   subst hsl;exact ⟨bm,ns,nm,qn,bs,hd,sn,sub,ab,col,dd,k0,k1,k2,k3,k5,_,X _ _ ho,.of_isNs (PySem.W.isNs_of_in X hok),PySem.W.nsMap_none_of_in X hok hni,PySem.W.tail_of_in X ht⟩
  ·cases q
 ·cases q
section
variable {X:Cx} {G:GK} {x n:Str} {np cpos pos hpos:Pos} {e₀:Expr} {es:List Expr} {t:TA}
def tRaise (X:Cx) (x:Str) (G:GK) (t:TA):TS:=λ _ σ H=>∃ C,X.mg x=some (.ref C)/\XC X.K C/\t σ H λ vs H1=>szl vs (G (.ref C) σ H1)
theorem jb (B:Bod X) (hc:X.calm=true) (ha:PA (X.exg G) (e₀ :: es) t) (hg:Gl X x:=by rfl) (hdb:(x == ("__debug__":Str))=false:=by decide)
  (he:starEach (e₀ :: es) X.env=(false,eval e₀ X.env) :: starEach es X.env:=by rfl) (hpl:(backTo cpos (starEach es X.env)).any (·.1)=false:=by rfl) :
  PS (X.exg G) (.Raise (some (.Call (.Name x np) (e₀ :: es) [] cpos)) none pos) (tRaise X x G t):=by
 intro pins s σ H D I h;obtain ⟨C,hm,xc,h⟩:=h;obtain ⟨tl,N,nm,q,bs,hdct,sn,sub,ab,col,dd,k0,k1,k2,k3,k5,mN,hC,hN,hni,T⟩:=zeS I.ok.mod.kin xc;refine wpAny_Raise_call_subT (C:=C) (nm:=nm) (q:=q) (N:=N) (bs:=bs) (bm:=tl) (hdct:=hdct) (sn:=sn) (sub:=sub) (ab:=ab) (col:=col) (dd:=dd) (k0:=k0) (k1:=k1) (k2:=k2) (k3:=k3) (k5:=k5)
  F.excBase_ValueError (mN:=mN) (T.hasType F.excBase_ValueError.hasBase) (I.ok.hd hc) (by rw [he];show (false || (backTo cpos (starEach es X.env)).any (·.1))=false;rw [hpl];rfl) hni (wb I hg hm ⟨rfl,?_⟩ hdb)
 have hA:=ha cpos pins s σ H _ I h;rw [he] at hA ⊢;refine Calls.evalArgs_plain (thn hA λ us s2 ⟨vs,H2,I2,r,g⟩=>?_);obtain ⟨hl,g⟩:=VE g;exact ⟨rfl,by rw [<- r.length];exact hl,I2.bk _ _ hC,hN.keeps I2.bk,T.keeps I2.bk,λ h' a hm=>Vz B I2.unwish hm g⟩
end
def zgj (a:Addr) (cls:Value):HO:=.ext λ h=>∃ o vs,h.get? a=some o/\o.cls=cls/\o.dict=none/\o.data=.fields vs
theorem Exc.obj {g h:Heap} {H:Hp} {pn:List (Addr × Obj)} {a:Addr} {cls:Value} (x:Exc g h H pn a cls):∃ o vs,h.get? a=some o/\o.cls=cls/\o.dict=none/\o.data=.fields vs:=by
 obtain ⟨oe,vs,_,_,_,h1,h2,h3,h4,_⟩:=x.ex;exact ⟨oe,vs,h1,h2,h3,h4⟩
section
variable {X:Cx} {pins:List (Addr × Obj)} {σ:St} {H:Hp} {s:Shared}
end
abbrev Cx.suite (X:Cx) (pn:List (Addr × Obj)) (a:Addr):Cx:={ X with pn:=pn,A:=X.A.mark (some (.ref a)),calm:=false,xe:=λ _ _=>False }
abbrev Cx.pinned (X:Cx) (pn:List (Addr × Obj)):Cx:={ X with pn:=pn }
section
variable {X:Cx} {pins:List (Addr × Obj)} {σ:St} {H:Hp} {s:Shared}
end
section
variable {X:Cx} {G:GK} {x n:Str} {np pos hpos:Pos} {i:Nat} {body suite:List Stmt} {b₀:Stmt} {tb:List (Addr × Obj)->GK->TS} {th:List (Addr × Obj)->Addr->TS}
end
structure FA (K:PySem.W.Frag) (mg:Str->Option Value) (x:Str) (st:Stmt) (ps:List Str):Prop where
 ex:∃ f fd,Fun K x x st f fd/\mg x=some (.ref f)/\Binds K fd ps []
theorem FA.cal {P:Program} {w:World} {K:PySem.W.Frag} {mg:Str->Option Value} {base:Heap} {x:Str} {st:Stmt} {ps:List Str} {k:Nat} {sp:Sp} (h:FA K mg x st ps) (ok:∀ {f fd},Fun K x x st f fd->FnOk P w K mg base (CXr P w) k f fd ps sp) :
  Cal P w K mg base x k ps [] sp:=by
 obtain ⟨f,fd,F,m,b⟩:=h.ex;exact ⟨f,fd,[],ok F,m,F.kp,b,.nil⟩
theorem zgi {K:PySem.W.Frag} {mg:Str->Option Value} {h:Heap} {x:Str} {st:Stmt} {ps:List Str} {f:Addr} {oc:Value} {od an:Option Addr} {osl:Array (Option Value)} {kV doc pm cdv ct:Value} (X:K.In h) (G:h.Ns mainGlobals mg)
  (a:PySem.W.nsIn K mainGlobals x=some (some (.ref f))) (l:K.lookup f=some ⟨oc,od,.func (PySem.W.fnOf x x (qd st) (zZ st) (zd st) .none kV doc pm an cdv ct),osl⟩)
  (c:PySem.W.codeIn K cdv x=true) (k:PySem.W.keepIn K (.ref f)=true)
  (hb:∀ (kV doc pm:Value) (an:Option Addr) (cdv ct:Value) (us:List Value),us.length=ps.length->bindArgs (PySem.W.fnOf x x (qd st) (zZ st) (zd st) .none kV doc pm an cdv ct) ⟨us,[]⟩=pure (ps.zip us)):FA K mg x st ps :=
 ⟨f,_,we l c k,cA X G a,(we l c k).binds hb⟩
theorem zb8 {P:Program} {w:World} {H:Hp} {s:Shared} {e:Value} {s':Shared} (h:CXr P w [] H s (λ _ _ _=>False) e s'):False:=by
 obtain ⟨_,_,_,_,_,_,_,_,_,z⟩:=h;exact z
end L2
namespace L2
open PySem PySem.Spec PySem.Calls PyProof.Rows
structure XI (K:PySem.W.Frag) (C:Addr):Prop where
 ga:PySem.W.findIn K (.ref C) "__getattribute__"=some (some (.builtin "BaseException.__getattribute__"))
 gt:PySem.W.findIn K (.ref C) "__getattr__"=some none
 cl:PySem.W.findIn K (.ref C) "__class__"=some (some (.builtin "object.__class__"))
 hd:PySem.W.hasDictIn K C=true
 gn:PySem.W.specialIn K (.builtin "object.__class__") "__get__"=some (some (.builtin "getset_descriptor.__get__"))
 tk:PySem.W.takesIn K (.builtin "object.__class__")=some true
 mo:mroIn K C (.type "object")=some true
 mb:PySem.W.subIn K (.ref C) (.type "BaseException")=some true
section
variable {prog:Program} {w:World} {A:Around} {E:Value->Shared->Prop} {s:Shared} {K:PySem.W.Frag} {a C:Addr} {o:Obj} {vs:Array Value}
theorem Vi {hp:Heap} (hx:hp.get? a=some o) (hc:o.cls=.ref C) (hd:o.dict=none) (hv:o.data=.fields vs):PySem.W.InstAt hp a o C none:=by
 refine ⟨hx,hc,?_,?_⟩
 ·obtain ⟨c,d,dt,sl⟩:=o;simp only at hv;subst hv
  rfl
 ·rw [hd]
  trivial
theorem zb6 {Q:Option Value->Shared->Prop} (X:K.In s.heap) (f:XI K C) (hx:s.heap.get? a=some o) (hc:o.cls=.ref C) (hd:o.dict=none) (hv:o.data=.fields vs)
  (h:Q (some (.ref C)) { s with toks:=s.toks + 1 }):wpAny (model prog w) A (getAttr? (.ref a) "__class__") Q E s:=by
 have I:=Vi hx hc hd hv;have hf:PySem.W.findObj K C none "__class__"=some (.bind (.builtin "getset_descriptor.__get__") (.builtin "object.__class__")):=by
   obtain ⟨cd,hcd,_⟩:=any_some f.hd;simp [PySem.W.findObj,hcd,f.cl,f.gn,f.tk]
 obtain ⟨hh,g,d,t,os⟩:=s;have T0:=I.type (M:=model prog w);have T1:=looks_findIn (M:=model prog w) X f.ga;have T2:=PySem.W.looks_find (M:=model prog w) X I hf;have T3:=looks_findIn (M:=model prog w) X f.gt;have T4:=PySem.W.looks_subIn (M:=model prog w) X f.mb;have f3:=F.attr_ValueError.ga.bind (.ref a);unfold getAttr? getAttrBy? getAttrBy;refine af (wpAny_mkText (af (eR (cY (af (T0.at (af (T1.at ?_))))))));dsimp only;have nga:(onTheHeap (Value.ref C) && Value.builtin "BaseException.__getattribute__" == Value.builtin "object.__getattribute__")=false:=by
  have z:(Value.builtin "BaseException.__getattribute__" == Value.builtin "object.__getattribute__")=false:=by decide +kernel
  rw [z,cu]
 rw [nga,aw aC];unfold getAttrByItsOwn
 repeat (any_goals (first|assumption|with_reducible refine T0.at ?_|with_reducible refine T3.at ?_|with_reducible refine T1.at ?_|wp_step))
 refine codeAny_call_builtin F.attr_ValueError.ga.plain F.entry_bexc_ga ?_;have hk:builtinKind "BaseException.__getattribute__"=some .slot:=by decide +kernel
 have hsp:splitId "BaseException.__getattribute__"=some ("BaseException","__getattribute__"):=by decide +kernel
 have hav:=F.args_bexc_ga (.ref a) (Value.str (Str.ofString "__class__") t);simp only [checkBuiltinCall,hk,hsp];refine af ?_;unfold isInstance
 repeat (first|with_reducible refine T2.at ?_|with_reducible refine T0.at ?_|with_reducible refine T4.at ?_|wp_step)
 refine PySem.W.class_get (s:=⟨hh,g,d,t + 1,os⟩) (ox:=o) (od:=none) X I f.mo ?_;refine aM ?_;refine PySem.W.handed_on rfl ?_;exact aM h
theorem zdj {vs:Array Value} (f:XI K C):PySem.W.KitX K (.ref a) (.ref C) (λ h=>∃ o vs,h.get? a=some o/\o.cls=.ref C/\o.dict=none/\o.data=.fields vs) where
 ty:=λ M h _ ⟨o,vs,e,c,d,v⟩=>(Vi e c d v).type
 it:=λ _ _ X _=>by
  obtain ⟨cd,hcd,_⟩:=any_some f.hd;unfold PySem.W.clsIn at hcd
  split at hcd
  ·rename_i c' d' cd' sl' ho;intro A' Q' E' s' k q;unfold isType loadHead;exact af (wpAny_loadPart (k _ _ (X _ _ ho)) (aM q))
  ·cases hcd
 ne:=λ h tp dd its n sl X htp=>by
  obtain ⟨cd,hcd,_⟩:=any_some f.hd;refine Bool.eq_false_iff.mpr λ q=>?_;have e:C=tp:=Value.ref.inj (bx.mp q);subst e;unfold PySem.W.clsIn at hcd
  split at hcd
  ·rename_i ho;have z:=(X _ _ ho).symm.trans htp;cases z
  ·cases hcd
 ca:=λ X ⟨o,vs,e,c,d,v⟩ k=>zb6 X f e c d v k
end
inductive TyX (K:PySem.W.Frag) (H:Hp):V->Value->Prop where
 | old {x:V} {t:Value} (h:TyOf K H x t):TyX K H x t
 | exc {a C:Addr} (h:H a=some (zgj a (.ref C))) (f:XI K C):TyX K H (.ref a) (.ref C)
def zba:List V->Option (List Value)
 | []=>some []
 | c :: r=>match zfJ c,zba r with
  | some u,some us=>some (u :: us)
  | _,_=>none
theorem zbb {c:V} {u v:Value} (h:zfJ c=some u) (r:RelV c v):v=u:=by
 cases c with
 | ty n=>cases r;exact aS h
 | ref a=>cases r;exact aS h
 | _=>cases h
theorem Vo:∀ {cs:List V} {us vs:List Value},zba cs=some us->Vals cs vs->vs=us
 | [],_,_,h,.nil=>aS h
 | c :: r,us,v :: vs,h,.cons rc rr=>by
  unfold zba at h
  split at h
  ·rename_i u us' h1 h2;cases h;rw [zbb h1 rc,Vo h2 rr]
  ·cases h
theorem zfs {X:Cx} {pins:List (Addr × Obj)} {σ:St} {H:Hp} {s:Shared} {x:V} {u t:Value} (I:Inv X pins σ H s) (rx:RelV x u) (ty:TyX X.K H x t) :
  ∃ Hx:Heap->Prop,PySem.W.KitX X.K u t Hx/\Hx s.heap/\u≠.builtin "__main__.__loader__#opaque":=by
 cases ty with
 | @exc a C ea f =>
  cases (show u=Value.ref a from rx);obtain ⟨p,_⟩:=(show ObjOk X.prog X.w H s.heap a (zgj a (.ref C)) from I.hok a _ ea);exact ⟨_,zdj (vs:=#[]) f,p,λ z=>nomatch z⟩
 | old ty =>
  cases ty with
  | non=>cases (show u=Value.none from rx);exact ⟨_,PySem.W.kitx_none,True.intro,λ z=>nomatch z⟩
  | bl y=>cases (show u=Value.bool y from rx);exact ⟨_,PySem.W.kitx_bool,True.intro,λ z=>nomatch z⟩
  | int i=>obtain ⟨t,q⟩:=(show ∃ t,u=Value.int i t from rx);cases q;exact ⟨_,PySem.W.kitx_int,True.intro,λ z=>nomatch z⟩
  | str y=>obtain ⟨t,q⟩:=(show ∃ t,u=Value.str y t from rx);cases q;exact ⟨_,PySem.W.kitx_str,True.intro,λ z=>nomatch z⟩
  | flt y=>obtain ⟨t,q⟩:=(show ∃ t,u=Value.float y t from rx);cases q;exact ⟨_,PySem.W.kitx_float,True.intro,λ z=>nomatch z⟩
  | @lst a xs ea =>
   cases (show u=Value.ref a from rx);obtain ⟨_,_,n,_,h1⟩:=(show ObjOk X.prog X.w H s.heap a (.lst xs) from I.hok a _ ea);exact ⟨_,PySem.W.kitx_list,⟨_,h1,rfl⟩,λ z=>nomatch z⟩
  | @frz a ob xs ea =>
   cases (show u=Value.ref a from rx);obtain ⟨_,_,_,n,_,h1⟩:=(show ObjOk X.prog X.w H s.heap a (.frz ob (.lst xs)) from I.hok a _ ea);exact ⟨_,PySem.W.kitx_list,⟨_,h1,rfl⟩,λ z=>nomatch z⟩
  | @tup a xs ea =>
   cases (show u=Value.ref a from rx);obtain ⟨_,_,_,p⟩:=(show ObjOk X.prog X.w H s.heap a (.tup xs) from I.hok a _ ea);obtain ⟨o,h1,h2,_⟩:=p;exact ⟨_,PySem.W.kitx_tuple,⟨o,h1,h2⟩,λ z=>nomatch z⟩
  | @dK a kvs ea =>
   cases (show u=Value.ref a from rx);obtain ⟨_,_,vs,_,p⟩:=(show ObjOk X.prog X.w H s.heap a (.dK kvs) from I.hok a _ ea);obtain ⟨o,es,ep,h1,h2,_⟩:=p;exact ⟨_,PySem.W.kitx_dict,⟨o,h1,h2.1⟩,λ z=>nomatch z⟩
  | @dT a kvs ea =>
   cases (show u=Value.ref a from rx);obtain ⟨_,_,xs,_,o,es,ep,h1,h2,_⟩:=(show ObjOk X.prog X.w H s.heap a (.dT kvs) from I.hok a _ ea);exact ⟨_,PySem.W.kitx_dict,⟨o,h1,h2.1⟩,λ z=>nomatch z⟩
  | @ins a C dx fs ea cl ha hn htk hm =>
   cases (show u=Value.ref a from rx);obtain ⟨mA,O,_⟩:=Qo I.hok ea;obtain ⟨od,J,_⟩:=O.look;exact ⟨_,PySem.W.kitx_own (cl.get _) cl.hd ha hn htk hm,J,λ z=>nomatch z⟩
def zcR (K:PySem.W.Frag):List V->Hp->VK->Prop:=λ xs H Q=>∃ x c t b,xs=[x,c]/\TyX K H x t/\((∃ u,zfJ c=some u/\PySem.W.kitOne K t u=some b)\/(∃ p cs us,c=.ref p/\H p=some (.tup cs)/\zba cs=some us/\PySem.W.kitAny K t us=some b))/\Q (.bl b) H
theorem jR {X:Cx}:CallR X (.builtin "isinstance") (zcR X.K):=by
 intro pins s σ H xs us Q I r h;obtain ⟨x,c,t,b,rfl,ty,hc,q⟩:=h;obtain ⟨v,v2,rfl,rx,rc⟩:=r.two;obtain ⟨Hx,Z,p,nx⟩:=zfs I rx ty;rcases hc with ⟨u,hu,e⟩|⟨pt,cs,us,rfl,hp,hu,e⟩
 ·obtain rfl:=zbb hu rc;exact PySem.W.kia_one Z I.kIn p e nx λ tk=>⟨.bl b,H,I.tok tk,rfl,q⟩
 ·cases rc;obtain ⟨_,its,rv,o,h1,h2,n,h3⟩:=(show ObjOk X.prog X.w H s.heap pt (.tup cs) from I.hok pt _ hp);obtain rfl:=Vo hu rv;obtain ⟨cl,dd,dt,sl⟩:=o;simp only at h2 h3;subst h2 h3;exact PySem.W.kia_tup Z I.kIn p h1 e nx λ tk=>⟨.bl b,H,I.tok tk,rfl,q⟩
structure FK (K:PySem.W.Frag) (C:Addr) (qual:Str) (st:Stmt) (ps:List Str):Prop where
 ex:∃ f fd,Fun K "__init__" qual st f fd/\Mk K C f/\Binds K fd ps []
structure FM (K:PySem.W.Frag) (C:Addr) (m qual:Str) (st:Stmt) (ps:List Str):Prop where
 ex:∃ f fd,Fun K m qual st f fd/\Meth K C m f/\Binds K fd ps []
theorem FK.cal {P:Program} {w:World} {K:PySem.W.Frag} {mg:Str->Option Value} {base:Heap} {x:Str} {C:Addr} {qual:Str} {st:Stmt} {ps:List Str} {k:Nat} {sp:Sp} (h:FK K C qual st ps) (gl:mg x=some (.ref C))
  (ok:∀ {f fd},Fun K "__init__" qual st f fd->FnOk P w K mg base (CXr P w) k f fd ps sp):KCal P w K mg base x C k ps [] sp:=by
 obtain ⟨f,fd,F,m,b⟩:=h.ex;exact ⟨gl,f,fd,[],ok F,m,b,.nil⟩
theorem FM.cal {P:Program} {w:World} {K:PySem.W.Frag} {mg:Str->Option Value} {base:Heap} {C:Addr} {m qual:Str} {st:Stmt} {ps:List Str} {k:Nat} {sp:Sp} (h:FM K C m qual st ps) (cl:Cls K C)
  (ok:∀ {f fd},Fun K m qual st f fd->FnOk P w K mg base (CXr P w) k f fd ps sp):MCal P w K mg base C m k ps [] sp:=by
 obtain ⟨f,fd,F,mm,b⟩:=h.ex;exact ⟨cl,f,fd,[],ok F,mm,b,.nil⟩
theorem zgf {K:PySem.W.Frag} {C:Addr} {qual:Str} {st:Stmt} {ps:List Str} {f:Addr} {oc:Value} {od an:Option Addr} {osl:Array (Option Value)} {kV doc pm cdv ct:Value} (mk:PySem.W.makesIn K C=true) (kc:PySem.W.keepIn K (.ref C)=true)
  (a:PySem.W.findIn K (.ref C) "__init__"=some (some (.ref f))) (i:PySem.W.isFn K (.ref f)=true) (l:K.lookup f=some ⟨oc,od,.func (PySem.W.fnOf "__init__" qual (qd st) (zZ st) (zd st) .none kV doc pm an cdv ct),osl⟩)
  (c:PySem.W.codeIn K cdv qual=true) (k:PySem.W.keepIn K (.ref f)=true)
  (hb:∀ (kV doc pm:Value) (an:Option Addr) (cdv ct:Value) (us:List Value),us.length=ps.length->bindArgs (PySem.W.fnOf "__init__" qual (qd st) (zZ st) (zd st) .none kV doc pm an cdv ct) ⟨us,[]⟩=pure (ps.zip us)):FK K C qual st ps :=
 ⟨f,_,we l c k,⟨mk,a,i,kc⟩,(we l c k).binds hb⟩
theorem zge {K:PySem.W.Frag} {C:Addr} {m qual:Str} {st:Stmt} {ps:List Str} {f:Addr} {oc:Value} {od an:Option Addr} {osl:Array (Option Value)} {kV doc pm cdv ct:Value}
  (a:PySem.W.findIn K (.ref C) m=some (some (.ref f))) (i:PySem.W.isFn K (.ref f)=true) (l:K.lookup f=some ⟨oc,od,.func (PySem.W.fnOf m qual (qd st) (zZ st) (zd st) .none kV doc pm an cdv ct),osl⟩)
  (c:PySem.W.codeIn K cdv qual=true) (k:PySem.W.keepIn K (.ref f)=true)
  (hb:∀ (kV doc pm:Value) (an:Option Addr) (cdv ct:Value) (us:List Value),us.length=ps.length->bindArgs (PySem.W.fnOf m qual (qd st) (zZ st) (zd st) .none kV doc pm an cdv ct) ⟨us,[]⟩=pure (ps.zip us)):FM K C m qual st ps :=
 ⟨f,_,we l c k,⟨a,i,k⟩,(we l c k).binds hb⟩
structure WI (K:PySem.W.Frag) (C:Addr):Prop where
 c:PySem.W.findIn K (.ref C) "__class__"=some (some (.builtin "object.__class__"))
 m:mroIn K C (.type "object")=some true
 g:PySem.W.specialIn K (.builtin "object.__class__") "__get__"=some (some (.builtin "getset_descriptor.__get__"))
 t:PySem.W.takesIn K (.builtin "object.__class__")=some true
theorem WI.ty {K:PySem.W.Frag} {H:Hp} {a C dx:Addr} {fs:List (Str × V)} (f:WI K C) (cl:Cls K C) (h:H a=some (.ins C dx fs)):TyX K H (.ref a) (.ref C):=.old (.ins h cl f.c f.g f.t f.m)
end L2
namespace L2
open PySem PySem.Spec PySem.Calls PyProof.Rows
section
variable {prog:Program} {w:World} {A:Around} {E:Value->Shared->Prop} {s:Shared}
end
section
variable {X:Cx} {a e:Expr} {ta:TA} {te:TE} {pos p kp:Pos}
theorem Zn:SlR X (ze8 X.K):=zdX
theorem wV:CallR X (.type "list") (λ xs H Q=>∃ p ys,xs=[.ref p]/\(SqL X.K H p ys\/SqT X.K H p ys)/\∀ l,H l=none->Q (.ref l) (upd H l (.lst ys))):=X5
end
end L2
namespace L2
open PySem PySem.Spec PySem.Calls PyProof.Rows
section
variable {X:Cx} {v v1 v2:Expr} {es:List Expr} {te:TE} {pos p:Pos}
def zfX (t u:TS):TS:=λ D σ H=>∃ M:St->Hp->Prop,t { D with nx:=M } σ H/\∀ σ' H',M σ' H'->u D σ' H'
theorem zK {st:Stmt} {rest:List Stmt} {t u:TS} (h1:PS X st t) (h2:PSs X rest u):PSs X (st :: rest) (zfX t u):=by
 intro pins s σ H D I ⟨M,ht,hu⟩;refine dS (thn (h1 pins s σ H _ I ht) λ f s1 q=>?_);cases f with
 | next=>exact let ⟨σ',H',I',q⟩:=q;h2 pins s1 σ' H' D I' (hu σ' H' q)
 | _=>exact q
def zeH (t u:TS):TS:=λ D σ H=>tSeq t u D σ H
theorem zg {st:Stmt} {rest:List Stmt} {t u:TS} (h1:PS X st t) (h2:PSs X rest u):PSs X (st :: rest) (zeH t u):=show PSs X (st :: rest) (tSeq t u) from zi h1 h2
structure Nx (N:St->Hp->Prop) (u:TS) (D:Ends):Prop where
 h:∀ σ H,u D σ H->N σ H
theorem nxt {t u:TS} {D:Ends} {σ:St} {H:Hp} (k:∀ N,Nx N u D->t { D with nx:=N } σ H):zeH t u D σ H:=k (u D) ⟨λ _ _ h=>h⟩
theorem useN {N:St->Hp->Prop} {u:TS} {D:Ends} {σ:St} {H:Hp} (n:Nx N u D) (q:u D σ H):N σ H:=n.h σ H q
theorem cut {t u:TS} {D:Ends} {σ:St} {H:Hp} (M:St->Hp->Prop) (h1:t { D with nx:=M } σ H) (h2:∀ σ' H',M σ' H'->u D σ' H'):zfX t u D σ H:=⟨M,h1,h2⟩
end
end L2
namespace L2
open PySem PySem.Spec PySem.Calls PyProof.Rows
section
variable {X:Cx} {k:Nat} {x m:Str} {p pos apos:Pos} {e o:Expr} {es:List Expr} {ta:TE} {t:TA}
theorem passF:zaA (CXr X.prog X.w) X (λ _ _ _=>False):=λ _ _ _ _ _ _ _ h=>let ⟨_,_,_,_,_,_,_,_,_,z⟩:=h;z.elim
def tClN (X:Cx) (k:Nat) (x:Str) (t:TA):TE:=λ σ H Q=>∃ ps dvs sp,Cal X.prog X.w X.K X.mg X.base x k ps dvs sp/\t σ H λ vs H1=>sp (vs ++ dvs) H1 Q (λ _ _ _=>False)
theorem ZG (hr:Room k X.A) (ha:PA X (e :: es) t) (hg:Gl X x:=by rfl) (hdb:(x == ("__debug__":Str))=false:=by decide)
  (he:starEach (e :: es) X.env=(false,eval e X.env) :: starEach es X.env:=by rfl) (hpl:(backTo pos (starEach es X.env)).any (·.1)=false:=by rfl) :
  PE X (.Call (.Name x p) (e :: es) [] pos) (tClN X k x t):=by
 intro pins s σ H Q I h;obtain ⟨ps,dvs,sp,⟨f,fd,ds,F,hm,hk,hb,hd⟩,h⟩:=h;refine bu (wb I hg hm ?_ hdb);refine dh (h₀:=X.base) I.ok.mod.kin hk (wu (ha pos pins s σ H _ I h) λ us s1 vs H1 I1 r q=>⟨I1.kIn,?_⟩) he hpl;exact zcM F hr hb hd passF I1 r q
def tMkN (X:Cx) (k:Nat) (x:Str) (t:TA):TE:=λ σ H Q=>∃ C ps dvs sp,KCal X.prog X.w X.K X.mg X.base x C k ps dvs sp/\t σ H λ vs H1=>∀ y dx,H1 y=none->H1 dx=none->dx≠y ->
 sp (.ref y :: (vs ++ dvs)) (upd (upd H1 dx (.own y)) y (.ins C dx [])) (λ v H2=>v=.non/\Q (.ref y) H2) (λ _ _ _=>False)
theorem zff (hr:Room (k + 1) X.A) (ha:PA X (e :: es) t) (hg:Gl X x:=by rfl) (hdb:(x == ("__debug__":Str))=false:=by decide)
  (he:starEach (e :: es) X.env=(false,eval e X.env) :: starEach es X.env:=by rfl) (hpl:(backTo pos (starEach es X.env)).any (·.1)=false:=by rfl) :
  PE X (.Call (.Name x p) (e :: es) [] pos) (tMkN X k x t):=by
 intro pins s σ H Q I h;obtain ⟨C,ps,dvs,sp,⟨hm,f,fd,ds,F,M,hb,hd⟩,h⟩:=h;refine bu (wb I hg hm ?_ hdb);refine dh (h₀:=X.base) I.ok.mod.kin M.kp (wu (ha pos pins s σ H _ I h) λ us s1 vs H1 I1 r q=>⟨I1.kIn,?_⟩) he hpl;exact zcL M F hr hb hd passF I1 r q
def tMthN (X:Cx) (k:Nat) (m:Str) (ta:TE) (t:TA):TE:=λ σ H Q=>ta σ H λ y H1=>∃ a C dx fs ps dvs sp,y=.ref a/\H1 a=some (.ins C dx fs)/\fs.lookup m=none /\
 MCal X.prog X.w X.K X.mg X.base C m k ps dvs sp/\t σ H1 λ vs H2=>sp (.ref a :: (vs ++ dvs)) H2 Q (λ _ _ _=>False)
theorem zcV {pl:Sem Bool} (hr:Room k X.A) (he:PE X o ta)
  (ht:eval (.Call (.Attribute o m apos) [] [] pos) X.env=(do
   let ov <- eval o X.env
   standAt apos.atName
   let (f,first) <- holding [ov] (getMethod ov m pl)
   callWith pos f first (backTo pos (starEach [] X.env)) (backToKw pos (keywordEach [] X.env))):=by rfl) :
  PE X (.Call (.Attribute o m apos) [] [] pos) (tMthN X k m ta tNil):=by
 intro pins s σ H Q I h;refine dG (pl:=pl) (thn (he pins s σ H _ I h) λ u s1 hz=>?_) ht;obtain ⟨x,H1,I1,rx,a,C,dx,fs,ps,dvs,sp,ex,ea,l,⟨c,f,fd,ds,F,hm,hb,hd⟩,q⟩:=hz;subst ex;obtain rfl:u=Value.ref a:=rx;refine vF I1 ea c hm l ?_;exact eK (first:=[.ref a]) I1.kIn hm.kp (zcM (us:=[.ref a]) (vs:=[.ref a]) F hr hb hd passF I1 (.cons rfl .nil) q)
end
def qT (cells:List (Str × Addr)):List (Str × NameKind)->List (Str × Addr)->List (Str × Addr)
 | [],cs=>cs
 | (n,k) :: r,cs=>if k=.free then qT cells r ((n,(cells.lookup n).getD 0) :: cs) else qT cells r cs
def zca (cells:List (Str × Addr)) (ns:List (Str × NameKind)):Prop:=∀ y∈ns,y.2=.free->∃ c,cells.lookup y.1=some c
theorem vj {scope:Scope} {env:Env} (h:zca env.cells scope.names):closureFor scope env=pure (qT env.cells scope.names []):=by
 simp only [closureFor];have key:∀ (ns:List (Str × NameKind)) (cs:List (Str × Addr)),zca env.cells ns ->
   (forIn ns cs λ x r=>if (x.2 == NameKind.free)=true then do let c <- cellOf env x.1;pure (ForInStep.yield ((x.1,c) :: r)) else pure (ForInStep.yield r):Sem (List (Str × Addr)))=pure (qT env.cells ns cs):=by
  intro ns
  induction ns with
  | nil=>intro cs _;rfl
  | cons y r ih =>
   intro cs hc;obtain ⟨n,k⟩:=y;have hr:zca env.cells r:=λ z hz=>hc z (aH _ hz);rw [forIn_cons];by_cases hk:k=.free
   ·subst hk;obtain ⟨c,e⟩:=hc (n,.free) cI rfl;have e':cellOf env n=pure c:=by unfold cellOf;simp only at e;rw [e]
    simp only [beq_self_eq_true,dA,e',pure_bind];rw [ih _ hr];simp only at e;simp [qT,e]
   ·have hb:(k == NameKind.free)=false:=by simpa using hk
    simp only [hb,dj,dJ,pure_bind];rw [ih _ hr];simp [qT,hk]
 have:=key scope.names [] h
 first
  | exact this
  | (simp only [bind_pure] at *;exact this)
theorem vH {cells:List (Str × Addr)} {x:Str} {c:Addr}:∀ {ns:List (Str × NameKind)} {cs:List (Str × Addr)},zca cells ns->(∀ c,cs.lookup x=some c->cells.lookup x=some c)->(qT cells ns cs).lookup x=some c->cells.lookup x=some c
 | [],_,_,hs,h=>hs c h
 | (n,k) :: r,cs,hc,hs,h=>by
  have hr:zca cells r:=λ z hz=>hc z (aH _ hz);unfold qT at h
  split at h
  ·rename_i hk;obtain ⟨d,e⟩:=hc (n,k) cI hk;refine vH hr (λ c' hc'=>?_) h;rw [cv] at hc'
   split at hc'
   ·rename_i hx;have hx:x=n:=by simpa using hx
    subst hx;simp only at e;rw [e] at hc' ⊢;exact hc'
   ·exact hs c' hc'
  ·exact vH hr hs h
theorem wN {cells:List (Str × Addr)} {x:Str}:∀ {ns:List (Str × NameKind)} {cs:List (Str × Addr)},(∃ c,cs.lookup x=some c)->∃ c,(qT cells ns cs).lookup x=some c
 | [],_,h=>h
 | (n,k) :: r,cs,h=>by
  unfold qT
  split
  ·refine wN ?_;rw [cv]
   split
   ·exact ⟨_,rfl⟩
   ·exact h
  ·exact wN h
theorem vG {cells:List (Str × Addr)} {x:Str}:∀ {ns:List (Str × NameKind)} {cs:List (Str × Addr)},(x,NameKind.free)∈ns->∃ c,(qT cells ns cs).lookup x=some c
 | [],_,h=>by simp at h
 | (n,k) :: r,cs,h=>by
  unfold qT;rcases ay.mp h with h|h
  ·cases h;rw [aA rfl];exact wN ⟨(cells.lookup x).getD 0,by rw [cv];simp⟩
  ·split <;> exact vG h
def zcO (scope osc:Scope):Scope :=
 { scope with names:=scope.names.map λ (n,k)=>if (k == .free && osc.kind == .function && osc.names.lookup n == some .cell) then (n,.cell) else (n,k) }
theorem V2 {scope osc:Scope} {x:Str} (hcell:∀ y∈scope.names,y.2≠.cell) (h:(zcO scope osc).names.lookup x=some .cell\/(zcO scope osc).names.lookup x=some .free):(x,NameKind.free)∈scope.names:=by
 have key:∀ k,(k=.cell\/k=.free)->(zcO scope osc).names.lookup x=some k->(x,NameKind.free)∈scope.names:=λ k hk hl=>by
  have hm:=bA hl;obtain ⟨⟨n,k'⟩,hm',e⟩:=aW.mp hm;simp only at e
  split at e
  ·rename_i hc;simp only [cy,bx] at hc;cases e;rw [<- hc.1.1];exact hm'
  ·cases e;rcases hk with rfl|rfl
   ·exact absurd rfl (hcell _ hm')
   ·exact hm'
 rcases h with h|h
 ·exact key _ (.inl rfl) h
 ·exact key _ (.inr rfl) h
def cxC (X:Cx) (N:List Str) (scope:Scope) (s:Shared) (H:Hp) (fp:List Addr) (pins:List (Addr × Obj)):Cx where
 prog:=X.prog
 w:=X.w
 K:=X.K
 mg:=X.mg
 base:=X.base
 A:=X.A
 N:=N
 s₀:=s
 H₀:=H
 env:=compEnvC scope (qT X.env.cells scope.names []) s.heap.objs.size X.env
 outer:=X.stack
 stack:=X.stack
 ex:=fp
 fn:=λ _=>false
 calm:=X.calm
 pn:=X.pn ++ pins
 xe:=λ _ _=>False
def stC (nv:Nat) (caps:List Nat) (σ:St):St:=List.replicate nv none ++ caps.map λ k=>(σ[k]?).getD none
structure CompOk (osc scope:Scope) (ON:List Str) (vars:List Str) (caps:List Nat):Prop where
 kind:scope.kind=.function
 cell:∀ y∈scope.names,y.2≠.cell
 loc:∀ y∈scope.names,y.2=.local->scope.names.lookup y.1=some .local
 free:∀ y∈scope.names,y.2=.free->osc.names.lookup y.1=some .cell\/osc.names.lookup y.1=some .free
 caps:∀ k∈caps,k < ON.length/\scope.names.lookup (ON.getD k Str.empty)=some .free
def za9 (osc scope:Scope) (ON:List Str) (caps:List Nat):Bool :=
 scope.kind == .function && scope.names.all (λ y=>y.2 != .cell) && scope.names.all (λ y=>y.2 != .local || scope.names.lookup y.1 == some .local) &&
 scope.names.all (λ y=>y.2 != .free || (osc.names.lookup y.1 == some .cell || osc.names.lookup y.1 == some .free)) && caps.all λ k=>decide (k < ON.length) && scope.names.lookup (ON.getD k Str.empty) == some .free
theorem Vm {osc scope:Scope} {ON vars:List Str} {caps:List Nat} (h:za9 osc scope ON caps=true):CompOk osc scope ON vars caps:=by
 simp only [za9,cy,cS,bx,bne_iff_ne,Bool.or_eq_true,cM] at h;obtain ⟨⟨⟨⟨h1,h2⟩,h3⟩,h4⟩,h5⟩:=h;refine ⟨h1,h2,λ y hy e=>(h3 y hy).resolve_left (λ z=>z e),λ y hy e=>(h4 y hy).resolve_left (λ z=>z e),λ k hk=>h5 k hk⟩
theorem QN {osc:Scope} {x:Str}:∀ {ns:List (Str × NameKind)},ns.lookup x=some .free ->
  (ns.map λ (n,k)=>if (k == NameKind.free && osc.kind == .function && osc.names.lookup n == some .cell) then (n,NameKind.cell) else (n,k)).lookup x=some .cell \/
  (ns.map λ (n,k)=>if (k == NameKind.free && osc.kind == .function && osc.names.lookup n == some .cell) then (n,NameKind.cell) else (n,k)).lookup x=some .free
 | [],h=>by simp at h
 | (n,k) :: r,h=>by
  have ih:=@QN osc x r;rw [dm];show List.lookup x ((if (k == NameKind.free && osc.kind == .function && osc.names.lookup n == some .cell)=true then (n,NameKind.cell) else (n,k)) :: _)=_\/List.lookup x ((if (k == NameKind.free && osc.kind == .function && osc.names.lookup n == some .cell)=true then (n,NameKind.cell) else (n,k)) :: _)=_
  cases hx:x == n with
  | true =>
   simp only [cv,hx] at h;cases h
   split
   ·exact .inl (by simp [cv,hx])
   ·exact .inr (by simp [cv,hx])
  | false =>
   simp only [cv,hx] at h
   split <;> (simp only [cv,hx];exact ih h)
section
variable {X:Cx} {pins:List (Addr × Obj)} {σ:St} {H:Hp} {s:Shared} {fp:List Addr} {N vars:List Str} {caps:List Nat} {scope osc:Scope}
theorem zdl (I:Inv X pins σ H s) (hosc:X.env.scope=osc) (C:CompOk osc scope X.N vars caps) (hN:N=vars ++ caps.map λ k=>X.N.getD k Str.empty)
  (hf:∀ b∈fp,ZP X pins H b) (hfo:∀ b∈fp,∃ o,s.heap.get? b=some o)
  {h':Heap} {tk:Nat} {mm:Str->Option Value} (hns:h'.Ns s.heap.objs.size mm) (hk:∀ b o,s.heap.get? b=some o->h'.get? b=some o) :
  Inv (cxC X N scope s H fp pins) [] (stC vars.length caps σ) H { s with heap:=h',toks:=tk }:=by
 have hkf:∀ y∈scope.names,y.2=.free->X.env.kindOf y.1=some .cell\/X.env.kindOf y.1=some .free:=λ y hy e=>by
  have z:=C.free y hy e;rw [<- hosc] at z;exact z
 have hcl:zca X.env.cells scope.names:=λ y hy e=>I.ok.has y.1 (hkf y hy e);have get:∀ x c,(qT X.env.cells scope.names []).lookup x=some c->X.env.cells.lookup x=some c:=λ x c h=>vH hcl (λ c h=>by simp at h) h;refine ⟨⟨I.ok.mod,C.kind,I.ok.glob,I.ok.blt,av _,λ x y c h1 h2=>I.ok.inj x y c (get x c h1) (get y c h2),λ x hx=>vG (V2 (osc:=X.env.scope) C.cell hx),λ _ _ h _=>Bool.noConfusion h,I.ok.hd,I.ok.frames,.inl rfl,
   λ b hb=>⟨?_,λ x c h=>(hf b hb).2.2.2.2.1 x c (get x c h)⟩,I.bs,bh I.ok.bsz I.sz,λ b o e hb=>?_,λ b hb z=>(ay.mp (I.stkSub b z)).elim (hf b hb).2.1 (hf b hb).2.2.1,I.stack,I.stkFree⟩,
  rfl,I.bare,Un.kept hk,⟨_,hns,λ i x v e1 e2 e3=>?_⟩,λ x c h=>?_,I.hok.fresh (av _),λ x c h=>I.freeC x c (get x c h),λ p hp=>?_,I.hok.kept hk,?_⟩
 ·obtain ⟨o,e⟩:=hfo b hb;exact aP (ax e)
 ·rcases (hf b hb).2.2.2.1 with z|z
  ·exact I.ok.noex b o e z
  ·exact absurd (aN (ax (I.ok.bs b o e).1) z) (cc _)
 ·have hi:¬ i < vars.length:=λ hi=>by
   unfold stC at e2;rw [aJ (by simpa using hi),d7] at e2
   split at e2 <;> cases e2
  have e1':(vars ++ caps.map λ k=>X.N.getD k Str.empty)[i]?=some x:=by rw [<- hN];exact e1
  unfold stC at e2;rw [aE (by simpa using hi),bj,ak] at e2;rw [aE (by omega),ak] at e1';cases ek:caps[i - vars.length]? with
  | none=>rw [ek] at e2;cases e2
  | some k =>
   rw [ek] at e1' e2;obtain ⟨hkl,hlk⟩:=C.caps k (ah ek);have ex:X.N.getD k Str.empty=x:=by simpa using e1'
   have es:σ[k]?.getD none=some v:=by simpa using e2
   have es':σ[k]?=some (some v):=by
    cases q:σ[k]? with
    | none=>rw [q] at es;cases es
    | some z=>rw [q] at es;simp only [b5] at es;rw [es]
   have eN:X.N[k]?=some x:=by
    rw [<- ex,ap,ad hkl];rfl
   rw [ex] at hlk;have hm:(x,NameKind.free)∈scope.names:=bA hlk;have hkx:=hkf _ hm rfl;obtain ⟨m,_,hl⟩:=I.loc;obtain ⟨u,r,L⟩:=hl k x v eN es' (hkx.elim (λ z=>.inr (.inl z)) λ z=>.inr (.inr z));refine ⟨u,r,.inr ⟨QN (osc:=X.env.scope) hlk,?_⟩⟩;obtain ⟨c',ec⟩:=vG (cells:=X.env.cells) (cs:=[]) hm;rcases L with ⟨z,_⟩|⟨_,c,ec2,o,ho,hd⟩
   ·rcases hkx with y|y <;> (simp only at y;rw [y] at z;cases z)
   ·have z:=get x c' ec;rw [ec2] at z;obtain rfl:c=c':=aS z;exact ⟨c,ec,o,hk _ _ ho,hd⟩
 ·obtain ⟨v,o,ho,hd⟩:=I.cell x c (get x c h);exact ⟨v,o,hk _ _ ho,hd⟩
 ·have hp':p∈X.pn ++ pins:=by simpa [cxC] using hp
  obtain ⟨e,n,ne,nf,d⟩:=I.pin p hp';exact ⟨hk _ _ e,n,aP (ax e),λ z=>(ay.mp (I.stkSub _ z)).elim ne nf,d⟩
 ·show (stC vars.length caps σ).length=N.length
  rw [hN];simp [stC]
theorem zal {σ':St} {H':Hp} {s':Shared} (I:Inv X pins σ H s) (hf:∀ b∈fp,ZP X pins H b) (I':Inv (cxC X N scope s H fp pins) [] σ' H' s'):Inv X pins σ H' s' :=
 I.call' (ch:=fp) I'.os I'.base I'.hok I'.bare λ b hb=>⟨(hf b hb).2.2.2.1,(hf b hb).2.1,(hf b hb).2.2.2.2.1,(hf b hb).2.2.2.2.2⟩
end
section
variable {prog:Program} {w:World} {A:Around} {R:Result->Shared->Prop} {s:Shared}
abbrev NoX:Value->Shared->Prop:=λ _ _=>False
theorem zb9 {elt target iter:Expr} {ifs:List Expr} {scope:Scope} {pos:Pos} {it acc:Value} {env:Env} (I:Nat->Shared->Prop)
  (turn:∀ n s,I n s->wpAny (model prog w) A (pyNext it) (λ r s₁=>match r with
   | none=>R (.ok .next) s₁
   | some v=>wpAny (model prog w) A (letOwnedTupleGo target it v) (λ _ s₁'=>wpAny (model prog w) A (assign target env v) (λ _ s₂ =>
     wpAny (model prog w) A (forIn ifs true λ c r=>if r=true then do let ok <- isTrue c env (eval c env);pure (ForInStep.yield ok) else pure (ForInStep.yield r)) (λ ok s₃ =>
      if ok=true then wpAny (model prog w) A (eval elt env) (λ x s₄ =>
       wpAny (model prog w) A (call (.builtin "list.append") [acc,x]) (λ _ s₅=>∃ m,m < n/\I m s₅) NoX s₄) NoX s₃
      else ∃ m,m < n/\I m s₃) NoX s₂) NoX s₁') NoX s₁) NoX s)
  (n:Nat) (h:I n s) :
  codeAny (model prog w) A (.compLoop (.ListComp elt [⟨target,iter,ifs,0⟩] scope pos) 0 it acc env) R s:=by
 refine codeAny_loop rfl I (λ n s hI=>?_) n h;show wpAny _ A ((compTurn (.ListComp elt [⟨target,iter,ifs,0⟩] scope pos) 0 it acc env).onRaise (λ x=>do noteFrame x env;theTreesLotGoes x)) _ _ s
 refine wpAny_noted ?_;rw [compTurn_list];refine af (eP (af (a9 (turn n s hI) (λ r s₁ h₁=>?_) λ _ _ h'=>h'.elim)));cases r with
 | none=>exact aM h₁
 | some v =>
  refine af (a9 h₁ (λ _ s₁' h₁'=>?_) λ _ _ h'=>h'.elim);refine af (a9 h₁' (λ _ s₂ h₂=>af (a9 h₂ (λ ok s₃ h₃=>?_) λ _ _ h'=>h'.elim)) λ _ _ h'=>h'.elim);cases ok with
  | false=>exact aM ⟨rfl,h₃⟩
  | true =>
   exact af (af (a9 h₃ (λ x s₄ h₄=>af (a9 h₄ (λ _ s₅ h₅=>aM (aM ⟨rfl,h₅⟩)) λ _ _ h'=>h'.elim)) λ _ _ h'=>h'.elim))
end
def zdP (X:Cx) (ifs:List Expr) (t:TT):Prop :=
 ∀ (pins:List (Addr × Obj)) (s:Shared) (σ:St) (H:Hp) (Q:Bool->Hp->Prop),Inv X pins σ H s->t σ H Q ->
  wpAny (model X.prog X.w) X.A (forIn ifs true λ c r=>if r=true then do let ok <- isTrue c X.env (eval c X.env);pure (ForInStep.yield ok) else pure (ForInStep.yield r)) (TP X pins σ Q) X.xe s
def tYes:TT:=λ _ H Q=>Q true H
theorem qc {X:Cx}:zdP X [] tYes:=λ _ _ _ H _ I h=>wpAny_tests_nil ⟨H,I,h⟩
theorem XG {X:Cx} {c:Expr} {t:TT} (h:PT X c t):zdP X [c] t:=λ pins s σ H Q I hw=>wpAny_tests_one (h pins s σ H Q I hw)
abbrev CB (α:Type):=Shared->Hp->List Addr->List (Addr × Obj)->α
def tLc (wi:TI) (nv:Nat) (caps:List Nat) (g:CB TG) (tt:CB TT) (te:CB TE):TE:=λ σ H Q=>wi σ H λ J H1=>∀ (s3:Shared) (H3:Hp) (fp:List Addr) (pns:List (Addr × Obj)) acc,H1 acc=none ->
 ∃ W:Nat->Nat->St->Hp->Prop,(∃ m,W 0 m (stC nv caps σ) (upd H1 acc (.lst [])))/\∀ i m σ' H',W i m σ' H' ->
  (J.stop i H'/\Q (.ref acc) H')\/(J.go i H'/\∃ N:St->Hp->Prop,(∀ σ'' H'',N σ'' H''->∃ m',m' < m/\W (i + 1) m' σ'' H'')/\∀ x H'',J.yld i H' x H''->g s3 H3 fp pns x σ' H'' λ σ2 H2=>tt s3 H3 fp pns σ2 H2 λ b H5 =>
   if b=true then te s3 H3 fp pns σ2 H5 λ y H4=>∃ ys,H4 acc=some (.lst ys)/\ys.length < sizeLine/\N σ2 (upd H4 acc (.lst (ys ++ [y]))) else N σ2 H5)
section
variable {X:Cx} {elt target iter:Expr} {ifs:List Expr} {scope osc:Scope} {pos:Pos} {wi:TI} {g:CB TG} {tt:CB TT} {te:CB TE} {N vars:List Str} {caps:List Nat}
theorem Jg {pins:List (Addr × Obj)} {σ:St} {H2:Hp} {s2:Shared} {it:Addr} {fp:List Addr} {tn:Nat->Heap->Prop} {J:It} {Q:VK} {RR:Value->Addr->Result->Shared->Prop} {E:Value->Shared->Prop}
  (hosc:X.env.scope=osc) (C:CompOk osc scope X.N vars caps) (hN:N=vars ++ caps.map λ k=>X.N.getD k Str.empty) (hc:X.calm=true)
  (hg:∀ s H fp pins,PG (cxC X N scope s H fp pins) target (g s H fp pins)) (ht:∀ s H fp pins,zdP (cxC X N scope s H fp pins) ifs (tt s H fp pins)) (he:∀ s H fp pins,PE (cxC X N scope s H fp pins) elt (te s H fp pins))
  (I2:Inv X pins σ H2 s2) (T:Turn X.prog X.w X.K target J fp it tn) (st2:tn 0 s2.heap) (hf:∀ b∈fp,ZP X pins H2 b)
  (h:∀ (s3:Shared) (H3:Hp) (fp:List Addr) (pns:List (Addr × Obj)) acc,H2 acc=none->∃ W:Nat->Nat->St->Hp->Prop,(∃ m,W 0 m (stC vars.length caps σ) (upd H2 acc (.lst [])))/\∀ i m σ' H',W i m σ' H' ->
   (J.stop i H'/\Q (.ref acc) H')\/(J.go i H'/\∃ N:St->Hp->Prop,(∀ σ'' H'',N σ'' H''->∃ m',m' < m/\W (i + 1) m' σ'' H'')/\∀ x H'',J.yld i H' x H''->g s3 H3 fp pns x σ' H'' λ σ2 H2=>tt s3 H3 fp pns σ2 H2 λ b H5 =>
    if b=true then te s3 H3 fp pns σ2 H5 λ y H4=>∃ ys,H4 acc=some (.lst ys)/\ys.length < sizeLine/\N σ2 (upd H4 acc (.lst (ys ++ [y]))) else N σ2 H5))
  (hRR:∀ acc C s' H' m,Inv X pins σ H' s'->Q (.ref acc) H'->s'.heap.Ns C m->H' C=none->C≠X.env.locals->X.s₀.heap.objs.size<=C->(∀ x c,X.env.cells.lookup x=some c->c≠C)->(∀ p∈X.pn ++ pins,p.1≠C)->RR (.ref acc) C (.ok .next) s') :
  wpAny (model X.prog X.w) X.A (newList []) (λ acc s₃=>wpAny (model X.prog X.w) X.A (newFunctionEnv scope X.env.globals (qT X.env.cells scope.names []) [] X.env.qual none .none (some X.env)) (λ cenv s₄ =>
   codeAny (model X.prog X.w) X.A (.compStart (.ListComp elt [⟨target,iter,ifs,0⟩] scope pos) 0 (.ref it) acc { cenv with scope:=relabel scope X.env }) (RR acc cenv.locals) s₄) E s₃) E s2:=by
 refine cV (wpAny_newFunctionEnv C.cell (by intro y hy;simp at hy) (λ h₁ hns₁ hsb₁=>?_) C.kind);obtain ⟨W,⟨m0,w0⟩,turn⟩:=h { s2 with heap:=s2.heap.push { cls:=.type "list",dict:=none,data:=.seq ([]:List Value).toArray } } (upd H2 s2.heap.objs.size (.lst [])) fp pins s2.heap.objs.size I2.fresh;have I3:Inv X pins σ (upd H2 s2.heap.objs.size (.lst [])) { s2 with heap:=s2.heap.push { cls:=.type "list",dict:=none,data:=.seq ([]:List Value).toArray } }:=I2.lnew (its:=[]) (t':=s2.toks) .nil (by decide);dsimp only at hns₁ hsb₁ ⊢;have hfo:∀ b∈fp,∃ o,s2.heap.get? b=some o:=λ b hb=>let ⟨o,e,_⟩:=T.obj _ _ st2 b hb;⟨o,e⟩
 have hf3:∀ b∈fp,ZP X pins (upd H2 s2.heap.objs.size (.lst [])) b:=λ b hb=>by
  refine ⟨?_,(hf b hb).2⟩;obtain ⟨o,e⟩:=hfo b hb;rw [upd_ne (aP (ax e))];exact (hf b hb).1
 generalize hs3:({ s2 with heap:=s2.heap.push { cls:=.type "list",dict:=none,data:=.seq ([]:List Value).toArray } }:Shared)=s3 at I3 turn;have eh:s2.heap.push { cls:=.type "list",dict:=none,data:=.seq ([]:List Value).toArray }=s3.heap:=by rw [<- hs3]
 have old:∀ b o,s2.heap.get? b=some o->s3.heap.get? b=some o:=λ b o e=>by rw [<- eh];exact ai _ e
 rw [eh] at hns₁ hsb₁ ⊢;have es:({ s2 with heap:=h₁,toks:=s2.toks + ([]:List (Str × Value)).length }:Shared)={ s3 with heap:=h₁,toks:=s2.toks }:=by rw [<- hs3];rfl
 rw [es];generalize hH3:upd H2 s2.heap.objs.size (.lst [])=H3 at *;have hk:∀ b o,s3.heap.get? b=some o->h₁.get? b=some o:=λ b o e=>hsb₁.extBut b o (aP (ax e)) (ai _ e);have I4:Inv (cxC X N scope s3 H3 fp pins) [] (stC vars.length caps σ) H3 { s3 with heap:=h₁,toks:=s2.toks }:=zdl I3 hosc C hN hf3 (λ b hb=>let ⟨o,e⟩:=hfo b hb;⟨o,old b o e⟩) hns₁ hk;have st4:tn 0 h₁:=T.keep _ _ _ st2 λ b hb o e=>hk b o (old b o e);have stat:∀ {H':Hp},(∀ b∈fp,H' b=none)->∀ b∈fp,ZP (cxC X N scope s3 H3 fp pins) [] H' b:=λ hn b hb =>
  ⟨hn b hb,(I4.ok.exf b hb).1,I4.ok.exfs b hb,.inl hb,(I4.ok.exf b hb).2,λ p hp=>(hf b hb).2.2.2.2.2 p (by simpa [cxC] using hp)⟩
 have loop:∀ s4:Shared,s4={ s3 with heap:=h₁,toks:=s2.toks } ->
   codeAny (model X.prog X.w) X.A (.compLoop (.ListComp elt [⟨target,iter,ifs,0⟩] scope pos) 0 (.ref it) (.ref s2.heap.objs.size) (cxC X N scope s3 H3 fp pins).env) (RR (.ref s2.heap.objs.size) s3.heap.objs.size) s4:=by
  rintro s4 rfl;refine zb9 (λ n s'=>∃ i σ' H',Inv (cxC X N scope s3 H3 fp pins) [] σ' H' s'/\tn i s'.heap/\(∀ b∈fp,H' b=none)/\W i n σ' H') ?_ m0 ⟨0,_,H3,I4,st4,λ b hb=>(hf3 b hb).1,w0⟩;rintro n s5 ⟨i,σ5,H5,I5,st5,fr5,w5⟩;rcases turn i n σ5 H5 w5 with ⟨stop,qn⟩|⟨go,NN,hNN,step⟩
  ·refine thn (T.done (cxC X N scope s3 H3 fp pins) rfl rfl rfl hc i [] s5 σ5 H5 NoX I5 (stat fr5) st5 stop) λ r s6 ⟨hr,I6⟩=>?_;subst hr;obtain ⟨m,hn,_⟩:=I6.loc;have hlt:∀ b o,s3.heap.get? b=some o->b≠s3.heap.objs.size:=λ b o e=>aP (ax e);obtain ⟨m3,⟨oL,_,_,hoL,_⟩,_⟩:=I3.loc;refine hRR _ _ s6 H5 m (zal I3 hf3 I6) qn hn I6.free (λ z=>hlt _ _ hoL z.symm) I3.sz (λ x c ec z=>?_) λ p hp z=>hlt _ _ (I3.pin p hp).1 z;obtain ⟨v,o,ho,_⟩:=I3.cell x c ec;exact hlt _ _ ho z
  ·refine thn (T.item (cxC X N scope s3 H3 fp pins) rfl rfl rfl hc i [] s5 σ5 H5 NoX I5 (stat fr5) st5 go) λ r s6 ⟨u,hr,h6⟩=>?_;subst hr;refine thn h6 λ _ s7 ⟨x,H7,I7,r7,y7,st7,fr7⟩=>?_;have I7':=I7.pinned (stat fr7) (T.obj _ _ st7);have again:∀ {σ8:St} {H8:Hp} {s8:Shared},Inv (cxC X N scope s3 H3 fp pins) ([] ++ QP fp s7.heap) σ8 H8 s8->NN σ8 H8->∃ m,m < n/\∃ i σ' H',Inv (cxC X N scope s3 H3 fp pins) [] σ' H' s8/\tn i s8.heap/\(∀ b∈fp,H' b=none)/\W i m σ' H':=λ {σ8 H8 s8} I8 n8=>by
    obtain ⟨m',hm,w8⟩:=hNN σ8 H8 n8;refine ⟨m',hm,i + 1,σ8,H8,I8.unpinned,T.keep _ _ _ st7 λ b hb o e=>(I8.pin (b,o) (aT _ (aT _ (wa hb e)))).1,λ b hb=>?_,w8⟩;obtain ⟨o,e,d⟩:=T.obj _ _ st7 b hb;exact (I8.pin (b,o) (aT _ (aT _ (wa hb e)))).2.1
   refine thn (hg s3 H3 fp pins _ s7 σ5 H7 x u _ I7' r7 (step x H7 y7)) λ _ s8 ⟨σ8,H8,I8,q8⟩=>?_;refine thn (ht s3 H3 fp pins _ s8 σ8 H8 _ I8 q8) λ b s9 ⟨H9,I9,q9⟩=>?_;cases b with
   | false=>exact again I9 q9
   | true =>
    refine qY (he s3 H3 fp pins _ s9 σ8 H9 _ I9 q9) λ v s10 y H10 I10 r10 qq_=>?_;obtain ⟨ys,ea,hz,q10⟩:=qq_;refine thn (zz (X:=cxC X N scope s3 H3 fp pins) _ s10 σ8 H10 (.ref s2.heap.objs.size) [y] (.ref s2.heap.objs.size) [v] (λ _ H'=>NN σ8 H') I10 rfl (.cons r10 .nil) ⟨_,ys,y,rfl,rfl,ea,hz,q10⟩) λ _ s11 ⟨_,H11,I11,_,q11⟩=>?_;exact again I11 q11
 exact codeAny_compStart_list (loop _ rfl) (T.self X.A 0 _ _ _ st4 (loop _ rfl))
theorem jG {ON:List Str} (hosc:X.env.scope=osc) (hON:X.N=ON) (hB:za9 osc scope ON caps=true) (hN:N=vars ++ caps.map λ k=>ON.getD k Str.empty) (hc:X.calm=true) (hi:PI X target iter wi)
  (hg:∀ s H fp pins,PG (cxC X N scope s H fp pins) target (g s H fp pins)) (ht:∀ s H fp pins,zdP (cxC X N scope s H fp pins) ifs (tt s H fp pins)) (he:∀ s H fp pins,PE (cxC X N scope s H fp pins) elt (te s H fp pins))
  (hs:∀ x,foldedSetIterable iter X.env x=pure x:=by intro _;rfl):PE X (.ListComp elt [⟨target,iter,ifs,0⟩] scope pos) (tLc wi vars.length caps g tt te):=by
 subst hON;intro pins s σ H Q I h;have C:CompOk osc scope X.N vars caps:=Vm hB;have hclos:closureFor scope X.env=pure (qT X.env.cells scope.names []):=vj λ y hy e=>I.ok.has y.1 (by have z:=C.free y hy e;rw [<- hosc] at z;exact z);rw [eval_ListComp];refine eQ (use:=none) rfl hs hclos C.kind C.loc (thn (hi pins s σ H _ I h) λ v s1 h1=>thn h1 λ itv s2 h2=>?_);obtain ⟨it,fp,tn,J,H2,e,I2,T,st2,f2,hw⟩:=h2;subst e;refine Jg (N:=N) (RR:=λ acc Cc=>compPost (model X.prog X.w) X.A X.xe none (EP X pins σ Q) acc Cc) hosc C hN hc hg ht he I2 T st2 f2 hw λ acc Cc s' H' m I' q hn hC hL hsz hcc hpp=>?_;refine ⟨m,hn,λ h' hs'=>⟨.ref acc,H',?_,rfl,q⟩⟩;exact I'.turned (t':=s'.toks) (it:=Cc) (λ b o hb e=>(hs'.2 b hb).trans e) hC (λ z=>hL z) (.inr hsz) hcc hpp
theorem ZS {ON:List Str} {i:Nat} {x:Str} {pos' spos:Pos} (hNd:X.N.Nodup) (hix:X.N[i]?=some x) (hx:Loc X.env.scope x)
  (hosc:X.env.scope=osc) (hON:X.N=ON) (hB:za9 osc scope ON caps=true) (hN:N=vars ++ caps.map λ k=>ON.getD k Str.empty) (hc:X.calm=true) (hi:PI X target iter wi)
  (hg:∀ s H fp pins,PG (cxC X N scope s H fp pins) target (g s H fp pins)) (ht:∀ s H fp pins,zdP (cxC X N scope s H fp pins) ifs (tt s H fp pins)) (he:∀ s H fp pins,PE (cxC X N scope s H fp pins) elt (te s H fp pins))
  (hsw:swapsWith (.ListComp elt [⟨target,iter,ifs,0⟩] scope pos) (some (.Name x pos')) spos.line X.env=pure true:=by rfl)
  (hf:X.fn x=true\/X.env.scope.names.lookup x=some .local:=by walk_at "p")
  (hs:∀ x,foldedSetIterable iter X.env x=pure x:=by intro _;rfl):PS X (.Assign [.Name x pos'] (.ListComp elt [⟨target,iter,ifs,0⟩] scope pos) spos) (tAsg (tLc wi vars.length caps g tt te) (gName i)):=by
 subst hON;intro pins s σ H D I h;have C:CompOk osc scope X.N vars caps:=Vm hB;have hclos:closureFor scope X.env=pure (qT X.env.cells scope.names []):=vj λ y hy e=>I.ok.has y.1 (by have z:=C.free y hy e;rw [<- hosc] at z;exact z);rw [exec_Assign_Name_used _ _ _ _ hsw];refine af (eP (af ?_));show wpAny _ X.A (do let _ <- comprehension (.ListComp elt [⟨target,iter,ifs,0⟩] scope pos) scope X.env _ (newList []) false (eval iter X.env) (some (assign (.Name x pos') X.env))) _ _ s
 refine af (a9 (eQ (use:=some (assign (.Name x pos') X.env)) (Q:=λ _ s'=>SP X pins D .next s') rfl hs hclos C.kind C.loc (thn (hi pins s σ H _ I h) λ v s1 h1=>thn h1 λ itv s2 h2=>?_)) (λ _ s' hq=>aM (aM hq)) λ _ _ e=>e);obtain ⟨it,fp,tn,J,H2,e,I2,T,st2,f2,hw⟩:=h2;subst e;refine Jg (N:=N) (Q:=λ v H1=>gName i v σ H1 D.nx) (RR:=λ acc Cc=>compPost (model X.prog X.w) X.A X.xe (some (assign (.Name x pos') X.env)) (λ _ s'=>SP X pins D .next s') acc Cc) hosc C hN hc hg ht he I2 T st2 f2 hw λ acc Cc s' H' m I' q hn hC hL hsz hcc hpp=>?_;refine wpAny_assign_Name (JO I' hNd hix hx (v:=.ref acc) rfl (λ s3 I3 ⟨a,sb,ha⟩=>?_) hf);have hne:Cc≠a:=λ z=>by
  rcases ha with e|e
  ·exact hL (z.trans e)
  ·exact hcc x a e z.symm
 refine ⟨m,hn.sameBut sb hne,λ h' hs'=>⟨_,H',?_,q⟩⟩;exact I3.turned (t':=s3.toks) (it:=Cc) (λ b o hb e=>(hs'.2 b hb).trans e) hC (λ z=>hL z) (.inr hsz) hcc hpp
end
end L2
namespace L2
open PySem PySem.Spec PySem.Calls PyProof.Rows
section
variable {X:Cx} {pins:List (Addr × Obj)} {σ:St} {H:Hp} {s:Shared} {h':Heap} {ch:List Addr}
theorem Inv.turnNew {T:Addr} {o:HO} {t':Nat} (I:Inv X pins σ H s) (hch:∀ b∈ch,ZP X pins H b) (hT:s.heap.objs.size<=T) (keep:∀ b o,b ∉ ch->s.heap.get? b=some o->h'.get? b=some o)
  (new:ObjOk X.prog X.w (upd H T o) h' T o):Inv X pins σ (upd H T o) { s with heap:=h',toks:=t' }:=by
 have hn:H T=none:=I.hok.fresh hT;have lt:∀ b u,s.heap.get? b=some u->b≠T:=λ b u e=>aP (aN (ax e) hT);have nch:∀ b u,H b=some u->b ∉ ch:=λ b u e z=>by rw [(hch b z).1] at e;cases e
 refine I.step (g':=s.gens) (d':=s.drawn) (ch:=ch) (λ b hb=>⟨(hch b hb).2.2.2.1,(hch b hb).2.1,(hch b hb).2.2.2.2.1,(hch b hb).2.2.2.2.2⟩) (λ b o _ _ hc e _=>keep b o hc e) (λ b o _ _ hc e _=>⟨o.slots,keep b o hc e⟩)
  (λ b o _ e n=>by rw [upd_ne (lt b o e)];exact n) (λ b o hc e=>⟨o,keep b o hc e⟩) (λ b xs e=>by rw [upd_ne (ne_of_none e hn)];exact e) (λ b o u e=>by rw [upd_ne (ne_of_none e hn)];exact e)
  (λ b ps e=>⟨#[],by rw [upd_ne (ne_of_none e hn),e];simp⟩) (λ m hm=>?_) (λ b u e=>?_) I.bare
 ·obtain ⟨o,es,ep,ho,r⟩:=hm;exact ⟨o,es,ep,keep _ o (λ z=>(hch _ z).2.1 rfl) ho,r⟩
 ·by_cases hb:b=T
  ·subst hb;rw [upd_same] at e;cases e;exact new
  ·rw [upd_ne hb] at e;refine (I.hok b u e).stay (λ c v hc q=>keep c v ?_ q) (λ c q=>by rw [upd_ne (ne_of_none q hn)];exact q) λ c xs q=>by rw [upd_ne (ne_of_none q hn)];exact q
   rcases hc with z|z
   ·rw [z];exact nch b u e
   ·exact nch c _ z
theorem Inv.turnL {t':Nat} (I:Inv X pins σ H s) (hch:∀ b∈ch,ZP X pins H b) (keep:∀ b o,b ∉ ch->s.heap.get? b=some o->h'.get? b=some o):Inv X pins σ H { s with heap:=h',toks:=t' }:=by
 have nch:∀ b u,H b=some u->b ∉ ch:=λ b u e z=>by rw [(hch b z).1] at e;cases e
 refine I.step (g':=s.gens) (d':=s.drawn) (ch:=ch) (λ b hb=>⟨(hch b hb).2.2.2.1,(hch b hb).2.1,(hch b hb).2.2.2.2.1,(hch b hb).2.2.2.2.2⟩) (λ b o _ _ hc e _=>keep b o hc e) (λ b o _ _ hc e _=>⟨o.slots,keep b o hc e⟩)
  (λ _ _ _ _ n=>n) (λ b o hc e=>⟨o,keep b o hc e⟩) (λ _ _ e=>e) (λ _ _ _ e=>e) (λ b ps e=>⟨#[],by rw [e];simp⟩) (λ m hm=>?_) (λ b u e=>?_) I.bare
 ·obtain ⟨o,es,ep,ho,r⟩:=hm;exact ⟨o,es,ep,keep _ o (λ z=>(hch _ z).2.1 rfl) ho,r⟩
 ·refine (I.hok b u e).stay (λ c v hc q=>keep c v ?_ q) (λ _ q=>q) λ _ _ q=>q;rcases hc with z|z
  ·rw [z];exact nch b u e
  ·exact nch c _ z
end
def Ite (K:PySem.W.Frag) (a:Addr):It :=
 ⟨λ i H=>∃ xs x,SqL K H a xs/\xs[i]?=some x,λ i H v H'=>∃ t x,H t=none/\v=.ref t/\(∀ xs,SqL K H a xs->xs[i]?=some x)/\H'=upd H t (.tup [.int i,x]),λ i H=>∃ xs,SqL K H a xs/\xs.length<=i⟩
theorem zbk {P:Program} {w:World} {K:PySem.W.Frag} {elts:List Expr} {x1} {pos:Pos} (a e it:Addr) (hne:e≠it) :
  Turn P w K (.Tuple elts x1 pos) (Ite K a) [e,it] e (λ i h=>(∃ old,IsEnum h e it i old)/\h.IsListIter it a i) where
 mem:=by simp
 obj:=λ i h st b hb=>by
  obtain ⟨⟨old,he⟩,o,ho,c,d⟩:=st;rcases ay.mp hb with rfl|hb
  ·exact ⟨_,he,λ v z=>by cases z⟩
  ·obtain rfl:b=it:=by simpa using hb
   exact ⟨o,ho,λ v z=>by rw [d] at z;cases z⟩
 keep:=λ i h h' st k=>by
  obtain ⟨⟨old,he⟩,hi⟩:=st;exact ⟨⟨old,k e (by simp) _ he⟩,hi.at λ o z=>k it (by simp) o z⟩
 item:=by
  intro X hP hw hK hc i pins s σ H E I hf st hg;subst hP hw hK;obtain ⟨⟨old,he⟩,hi⟩:=st;obtain ⟨xs,x,hq,hx⟩:=hg;obtain ⟨its,rv,p,hz⟩:=I.list hq;obtain ⟨u,hu,ru⟩:=rv.get hx;refine wpAny_pyNext_enum_item he hi p.isList (x:=u) (by simpa using hu) hne λ h' he' hi' hT hsz hk=>?_;refine ⟨_,rfl,?_⟩;have I1:Inv X pins σ (upd H s.heap.objs.size (.tup [.int i,x])) { s with heap:=h',toks:=s.toks + 1 }:=I.turnNew hf (av _) (λ b o hb q=>hk b o (λ z=>hb (by simp [z])) (λ z=>hb (by simp [z])) q)
   ⟨by show 2<=sizeLine;decide,[.int i s.toks,u],.cons ⟨_,rfl⟩ (.cons ru .nil),⟨_,hT,rfl,_,rfl⟩⟩
  have hn:H s.heap.objs.size=none:=I.hok.fresh (av _);have ne:∀ b∈[e,it],b≠s.heap.objs.size:=λ b hb=>by
   rcases ay.mp hb with rfl|hb
   ·exact aP (ax he)
   ·obtain rfl:b=it:=by simpa using hb
    obtain ⟨o,ho,_⟩:=hi;exact aP (ax ho)
  have fr:∀ b∈[e,it],(upd H s.heap.objs.size (.tup [.int i,x])) b=none:=λ b hb=>by rw [upd_ne (ne b hb)];exact (hf b hb).1
  refine wpAny_letOwnedTupleGo_enum he' λ h'' he'' hs''=>?_;refine ⟨.ref s.heap.objs.size,_,I1.turnL (t':=s.toks + 1) (ch:=[e]) (λ b hb=>?_) (λ b o hb q=>(hs''.2 b (λ z=>hb (by simp [z]))).trans q),rfl,
   ⟨s.heap.objs.size,x,hn,rfl,λ ys hy=>by rw [I.list_inj hy hq];exact hx,rfl⟩,⟨⟨u,?_⟩,hi'.extBut hs''.extBut (aX hne)⟩,fr⟩
  ·obtain rfl:b=e:=by simpa using hb
   exact ⟨fr b (by simp),(hf b (by simp)).2⟩
  ·exact he''
 done:=by
  intro X hP hw hK hc i pins s σ H E I hf st hg;subst hP hw hK;obtain ⟨⟨old,he⟩,hi⟩:=st;obtain ⟨xs,hq,hx⟩:=hg;obtain ⟨its,rv,p,hz⟩:=I.list hq;have hl:=rv.length;exact wpAny_pyNext_enum_end (I.ok.hd hc) he hi p.isList (by simp;omega) λ h' eb=>⟨rfl,I.turnL (t':=s.toks) hf λ b o hb q=>eb b o (λ z=>hb (by simp [z])) q⟩
 self:=λ _ _ _ _ _ st h=>by
  obtain ⟨⟨old,he⟩,_⟩:=st;exact wpAny_pyIter_enum he h
theorem X9:bootBuiltins "enumerate"=some (.type "enumerate"):=by decide +kernel
theorem zfK:bootBuiltins "zip"=some (.type "zip"):=by decide +kernel
def iEnum (X:Cx) (ta:TA):TI:=λ σ H R=>X.mg "enumerate"=none/\ta σ H λ vs H1=>∃ a xs,vs=[.ref a]/\H1 a=some (.lst xs)/\R (Ite X.K a) H1
theorem qu {X:Cx} {a:Expr} {elts:List Expr} {x1} {tp p pos:Pos} {ta:TA} (ha:PA X [a] ta) (hg:Gl X "enumerate":=by rfl)
  (hs:starEach [a] X.env=(false,eval a X.env) :: starEach [] X.env:=by rfl) (hpl:(backTo pos (starEach [] X.env)).any (·.1)=false:=by rfl) :
  PI X (.Tuple elts x1 tp) (.Call (.Name "enumerate" p) [a] [] pos) (iEnum X ta):=by
 intro pins s σ H R I h;refine bu (wc I hg h.1 X9 ?_);refine aU (wu (ha pos pins s σ H _ I h.2) λ us s1 vs H1 I1 r1 q1=>?_) hs hpl;obtain ⟨l,xs,rfl,hq,hR⟩:=q1;obtain ⟨u,rfl,rx⟩:=ZR r1;cases rx;obtain ⟨hz,its,n,rv,hl,e⟩:=I1.lstM hq;refine call_enumerate_1 e λ h' he hi hsz hk=>wpAny_pyIter_enum he ?_;refine ⟨s1.heap.objs.size + 1,[s1.heap.objs.size + 1,s1.heap.objs.size],_,_,H1,rfl,I1.kept (t':=s1.toks) hk,zbk l _ _ (Nat.succ_ne_self _),⟨⟨_,he⟩,hi⟩,λ b hb=>?_,hR⟩;rcases ay.mp hb with rfl|hb
 ·exact I1.fpOk (bX _) (I1.hok.fresh (bX _))
 ·obtain rfl:b=s1.heap.objs.size:=by simpa using hb
  exact I1.fpOk (av _) (I1.hok.fresh (av _))
def ItAt (b:Bool) (h:Heap) (it a:Addr) (i:Nat):Prop:=if b=true then h.IsListIter it a i else h.IsTupleIter it a i
def SqAt (b:Bool) (h:Heap) (a:Addr) (items:Array Value):Prop:=if b=true then h.IsList a items else h.IsTuple a items
def ZK (b:Bool):String:=if b=true then "list_iterator" else "tuple_iterator"
theorem ItAt.at' {b:Bool} {h h':Heap} {it a:Addr} {i:Nat} (x:ItAt b h it a i) (hk:∀ o,h.get? it=some o->h'.get? it=some o):ItAt b h' it a i:=by
 cases b <;> exact let ⟨o,ho,r⟩:=x;⟨o,hk o ho,r⟩
theorem ItAt.obj {b:Bool} {h:Heap} {it a:Addr} {i:Nat} (x:ItAt b h it a i):∃ o,h.get? it=some o/\∀ v,o.data≠.cell v:=by
 cases b <;> exact let ⟨o,ho,_,hd⟩:=x;⟨o,ho,λ v z=>by rw [hd] at z;cases z⟩
theorem SqAt.at' {b:Bool} {h h':Heap} {a:Addr} {items:Array Value} (x:SqAt b h a items) (hk:∀ o,h.get? a=some o->h'.get? a=some o):SqAt b h' a items:=by
 cases b <;> exact let ⟨o,ho,r⟩:=x;⟨o,hk o ho,r⟩
section
variable {prog:Program} {w:World} {A:Around} {E:Value->Shared->Prop} {s:Shared}
theorem vY {it t:Addr} {i:Nat} {items} {x:Value} {Q:Value->Shared->Prop} (hit:s.heap.IsTupleIter it t i) (ht:s.heap.IsTuple t items) (hx:items[i]?=some x)
  (hQ:∀ h',h'.IsTupleIter it t (i + 1)->Heap.SameBut it s.heap h'->Q x { s with heap:=h' }):wpAny (model prog w) A (Builtin.SmallTypes.nextOf (.ref it)) Q E s:=by
 obtain ⟨o,ho,hc,hd⟩:=id hit;obtain ⟨ol,hol,_,nl,hdl⟩:=ht;unfold Builtin.SmallTypes.nextOf;refine af (cw (name:=Str.ofString "__next__") hit.typeIs cf
  (c9 cf hit.typeIs eD ?_ (eu _)))
 show wpAny _ _ (field (.ref it) 0 >>= _) _ _ s
 refine af (bc ho hd (x:=.ref t) rfl ?_);show wpAny _ _ (if (Value.ref t == Value.none)=true then _ else _) _ _ s
 rw [aw (show ¬ ((Value.ref t == Value.none)=true) from aC)];show wpAny _ _ (field (.ref it) 1 >>= _) _ _ s
 refine af (bc ho hd (x:=.int i 0) rfl ?_);show wpAny _ _ (seqItems? (.ref t) >>= _) _ _ s
 refine af (bJ hol hdl ?_);simp only [aO,hx];refine af (cQ ho hd (by simp) (aM ⟨x,rfl,aM (hQ _ ?_ (Heap.SameBut.update ..))⟩));exact ⟨_,bM _ ho (cG (bK hd _)),(Obj.cls_mapFields ..).trans hc,by
  rw [bK hd];simp [rawInt]⟩
theorem ZH {it t:Addr} {i:Nat} {items} {Q:Value->Shared->Prop} (hh:A.handled=none) (hit:s.heap.IsTupleIter it t i) (ht:s.heap.IsTuple t items) (hx:items[i]?=none)
  (hE:∀ h' e,Heap.ExtBut it s.heap h'->(∃ o,h'.get? e=some o/\o.cls=.type "StopIteration")->E (.ref e) { s with heap:=h' }) :
  wpAny (model prog w) A (Builtin.SmallTypes.nextOf (.ref it)) Q E s:=by
 obtain ⟨o,ho,hc,hd⟩:=id hit;obtain ⟨ol,hol,_,nl,hdl⟩:=ht;unfold Builtin.SmallTypes.nextOf;refine af (cw (name:=Str.ofString "__next__") hit.typeIs cf
  (c9 cf hit.typeIs eD ?_ (eu _)))
 show wpAny _ _ (field (.ref it) 0 >>= _) _ _ s
 refine af (bc ho hd (x:=.ref t) rfl ?_);show wpAny _ _ (if (Value.ref t == Value.none)=true then _ else _) _ _ s
 rw [aw (show ¬ ((Value.ref t == Value.none)=true) from aC)];show wpAny _ _ (field (.ref it) 1 >>= _) _ _ s
 refine af (bc ho hd (x:=.int i 0) rfl ?_);show wpAny _ _ (seqItems? (.ref t) >>= _) _ _ s
 refine af (bJ hol hdl ?_);simp only [aO,hx];refine af (wpAny_rule (af (cQ ho hd (by simp) ?_)));show wpAny _ _ (newExc (.type "StopIteration") [] >>= _) _ _ _
 refine af ?_;simp only [newExc,newTuple];refine af (cV ?_ (by size_fits));refine af (m:=firstArgMember _ _) (wpAny_of_eq (a:=Value.none) (by first|rfl|(simp only [firstArgMember];rfl)) ?_);refine cV ?_ (by size_fits);simp only [raiseNew];refine af (wpAny_handled ?_)
 first|rw [show A.in1.handled=none from hh] | rw [hh]
 refine af (aM (wpAny_throw ?_));exact hE _ _ (((Heap.SameBut.update ..).extBut.push _).push _) ⟨_,aD _ rfl,rfl⟩
theorem wF {b:Bool} {it t:Addr} {i:Nat} {items} {x:Value} {Q:Value->Shared->Prop} (hit:ItAt b s.heap it t i) (ht:SqAt b s.heap t items) (hx:items[i]?=some x)
  (hQ:∀ h',ItAt b h' it t (i + 1)->Heap.SameBut it s.heap h'->Q x { s with heap:=h' }):wpAny (model prog w) A (Builtin.SmallTypes.nextOf (.ref it)) Q E s:=by
 cases b
 ·exact vY hit ht hx hQ
 ·exact wpAny_nextOf_list_item hit ht hx hQ
theorem QX {b:Bool} {it t:Addr} {i:Nat} {items} {Q:Value->Shared->Prop} (hh:A.handled=none) (hit:ItAt b s.heap it t i) (ht:SqAt b s.heap t items) (hx:items[i]?=none)
  (hE:∀ h' e,Heap.ExtBut it s.heap h'->(∃ o,h'.get? e=some o/\o.cls=.type "StopIteration")->E (.ref e) { s with heap:=h' }) :
  wpAny (model prog w) A (Builtin.SmallTypes.nextOf (.ref it)) Q E s:=by
 cases b
 ·exact ZH hh hit ht hx hE
 ·exact wpAny_nextOf_list_end hh hit ht hx hE
theorem JW {b:Bool} {t:Addr} {items} {Q:Value->Shared->Prop} (ht:SqAt b s.heap t items)
  (hQ:Q (.ref s.heap.objs.size) { s with heap:=s.heap.push { cls:=.type (ZK b),data:=.fields #[.ref t,.int 0 0] } }):wpAny (model prog w) A (pyIter (.ref t)) Q E s:=by
 cases b
 ·exact wpAny_pyIter_tuple ht hQ
 ·exact dI ht hQ
theorem zcm {b1 b2:Bool} {z TI TO i1 i2 l1 l2:Addr} {k1 k2:Nat} {xs ys:Array Value} {x y a b:Value} {Q:Value->Shared->Prop} (D:ZipApart z TI TO i1 i2 l1 l2)
  (hz:IsZip s.heap z TI TO .none) (hTI:IsPair s.heap TI (.ref i1) (.ref i2)) (hTO:IsPair s.heap TO a b)
  (h1:ItAt b1 s.heap i1 l1 k1) (h2:ItAt b2 s.heap i2 l2 k2) (hl1:SqAt b1 s.heap l1 xs) (hl2:SqAt b2 s.heap l2 ys) (hx:xs[k1]?=some x) (hy:ys[k2]?=some y)
  (hQ:∀ h',IsZip h' z TI TO (rawInt s.heap.objs.size)->IsPair h' TO x y->ItAt b1 h' i1 l1 (k1 + 1)->ItAt b2 h' i2 l2 (k2 + 1)->IsPair h' s.heap.objs.size x y->h'.objs.size=s.heap.objs.size + 1 ->
   (∀ c o,c≠z->c≠TO->c≠i1->c≠i2->s.heap.get? c=some o->h'.get? c=some o)->Q (.ref s.heap.objs.size) { s with heap:=h' }) :
  wpAny (model prog w) A (Builtin.«zip.__next__» ⟨[.ref z],[]⟩) (λ fin s'=>∃ v,fin=.done (.ret v)/\Q v s') E s:=by
 show wpAny _ _ (field (.ref z) 2 >>= _) _ _ _
 refine af (bc hz rfl (x:=.bool false) rfl ?_);show wpAny _ _ (field (.ref z) 3 >>= _) _ _ _
 refine af (bc hz rfl (x:=.ref TI) rfl ?_);refine af (bJ hTI rfl ?_);show wpAny _ _ (Builtin.SmallTypes.ownedTupleIsFree (.ref z) >>= _) _ _ _
 refine af ?_;unfold Builtin.SmallTypes.ownedTupleIsFree;refine af (bc hz rfl (x:=.none) rfl (aM ?_));simp only [dA];refine af (wpAny_rule ?_);refine af (bc hz rfl (x:=.ref TO) rfl ?_);refine af (bU hz (by simp) λ h₁ hz₁ hs₁=>?_);replace hz₁:IsZip h₁ z TI TO .ellipsis:=hz₁;refine af ?_;simp only [List.zipIdx_cons,List.zipIdx_nil,forIn_cons,List.forIn_nil];refine af (af (dE ?_));show wpAny _ _ (Builtin.SmallTypes.nextOf (.ref i1) >>= _) _ _ _
 refine af (wF (h1.at' λ o e=>hs₁.extBut _ _ D.i1z e) (hl1.at' λ o e=>hs₁.extBut _ _ D.l1z e) hx λ h₂ h1₂ hs₂=>aM ?_);have hTO₂:IsPair h₂ TO a b:=hs₂.extBut _ _ D.TOi1 (hs₁.extBut _ _ D.TOz hTO);refine af (bJ hTO₂ rfl ?_);refine af (dr hTO₂ λ h₃ hTO₃ hs₃=>?_);replace hTO₃:IsPair h₃ TO x b:=hTO₃;refine af (dY (aM ?_));refine af (af (dE ?_));show wpAny _ _ (Builtin.SmallTypes.nextOf (.ref i2) >>= _) _ _ _
 refine af (wF (h2.at' λ o e=>hs₃.extBut _ _ D.TOi2.symm (hs₂.extBut _ _ D.i12.symm (hs₁.extBut _ _ D.i2z e)))
  (hl2.at' λ o e=>hs₃.extBut _ _ D.l2TO (hs₂.extBut _ _ D.l2i1 (hs₁.extBut _ _ D.l2z e))) hy λ h₄ h2₄ hs₄=>aM ?_)
 have hTO₄:IsPair h₄ TO x b:=hs₄.extBut _ _ D.TOi2 hTO₃;refine af (bJ hTO₄ rfl ?_);refine af (dr hTO₄ λ h₅ hTO₅ hs₅=>?_);replace hTO₅:IsPair h₅ TO x y:=hTO₅;refine af (dY (aM (aM ?_)));refine af (bJ hTO₅ rfl ?_);refine af (wpAny_newTuple ?_);have hsz:h₅.objs.size=s.heap.objs.size:=by rw [hs₅.1,hs₄.1,hs₃.1,hs₂.1,hs₁.1]
 have hz₅:IsZip h₅ z TI TO .ellipsis:=hs₅.extBut _ _ D.TOz.symm (hs₄.extBut _ _ D.i2z.symm (hs₃.extBut _ _ D.TOz.symm (hs₂.extBut _ _ D.i1z.symm hz₁)));have hk₅:∀ c o,c≠z->c≠TO->c≠i1->c≠i2->s.heap.get? c=some o->h₅.get? c=some o:=λ c o c1 c2 c3 c4 e =>
  hs₅.extBut _ _ c2 (hs₄.extBut _ _ c4 (hs₃.extBut _ _ c2 (hs₂.extBut _ _ c3 (hs₁.extBut _ _ c1 e))))
 have h1₅:ItAt b1 h₅ i1 l1 (k1 + 1):=h1₂.at' λ o e=>hs₅.extBut _ _ D.TOi1.symm (hs₄.extBut _ _ D.i12 (hs₃.extBut _ _ D.TOi1.symm e));have h2₅:ItAt b2 h₅ i2 l2 (k2 + 1):=h2₄.at' λ o e=>hs₅.extBut _ _ D.TOi2.symm e;have hzlt:z < h₅.objs.size:=ax hz₅;show wpAny _ _ (Builtin.SmallTypes.ownedTupleHandOut (.ref z) (.ref h₅.objs.size) >>= _) _ _ _
 refine af ?_;unfold Builtin.SmallTypes.ownedTupleHandOut;have hz₆:IsZip (h₅.push { cls:=.type "tuple",data:=.seq #[x,y] }) z TI TO .ellipsis:=ai _ hz₅;refine af (bU hz₆ (by simp) λ h₇ hz₇ hs₇=>?_);replace hz₇:IsZip h₇ z TI TO (rawInt h₅.objs.size):=hz₇;refine bU hz₇ (by simp) λ h₈ hz₈ hs₈=>?_;replace hz₈:IsZip h₈ z TI TO (rawInt h₅.objs.size):=hz₈;have up:∀ c o,c≠z->h₅.get? c=some o->h₈.get? c=some o:=λ c o c1 e=>hs₈.extBut _ _ c1 (hs₇.extBut _ _ c1 (ai _ e));have hT₈:IsPair h₈ h₅.objs.size x y:=hs₈.extBut _ _ (ck hzlt) (hs₇.extBut _ _ (ck hzlt) (aD _ rfl));have hz8:h₈.objs.size=h₅.objs.size + 1:=by rw [hs₈.1,hs₇.1,bB]
 rw [hsz] at hz₈ hT₈ hz8;refine aM ⟨_,rfl,?_⟩;show Q (.ref h₅.objs.size) _
 rw [hsz];exact hQ h₈ hz₈ (up _ _ D.TOz hTO₅) (h1₅.at' λ o e=>up _ o D.i1z e) (h2₅.at' λ o e=>up _ o D.i2z e) hT₈ hz8 λ c o c1 c2 c3 c4 e=>up c o c1 (hk₅ c o c1 c2 c3 c4 e)
theorem zdQ {b1 b2:Bool} {z TI TO i1 i2 l1 l2:Addr} {k1 k2:Nat} {xs ys:Array Value} {a b:Value} {Q:Fin->Shared->Prop} (hh:A.handled=none) (D:ZipApart z TI TO i1 i2 l1 l2)
  (hz:IsZip s.heap z TI TO .none) (hTI:IsPair s.heap TI (.ref i1) (.ref i2)) (hTO:IsPair s.heap TO a b)
  (h1:ItAt b1 s.heap i1 l1 k1) (h2:ItAt b2 s.heap i2 l2 k2) (hl1:SqAt b1 s.heap l1 xs) (hl2:SqAt b2 s.heap l2 ys) (hend:xs[k1]?=none\/ys[k2]?=none)
  (hE:∀ h' e,(∀ c o,c≠z->c≠TO->c≠i1->c≠i2->s.heap.get? c=some o->h'.get? c=some o)->(∃ o,h'.get? e=some o/\o.cls=.type "StopIteration")->E (.ref e) { s with heap:=h' }) :
  wpAny (model prog w) A (Builtin.«zip.__next__» ⟨[.ref z],[]⟩) Q E s:=by
 show wpAny _ _ (field (.ref z) 2 >>= _) _ _ _
 refine af (bc hz rfl (x:=.bool false) rfl ?_);show wpAny _ _ (field (.ref z) 3 >>= _) _ _ _
 refine af (bc hz rfl (x:=.ref TI) rfl ?_);refine af (bJ hTI rfl ?_);show wpAny _ _ (Builtin.SmallTypes.ownedTupleIsFree (.ref z) >>= _) _ _ _
 refine af ?_;unfold Builtin.SmallTypes.ownedTupleIsFree;refine af (bc hz rfl (x:=.none) rfl (aM ?_));simp only [dA];refine af (wpAny_rule ?_);refine af (bc hz rfl (x:=.ref TO) rfl ?_);refine af (bU hz (by simp) λ h₁ hz₁ hs₁=>?_);replace hz₁:IsZip h₁ z TI TO .ellipsis:=hz₁;refine af ?_;simp only [List.zipIdx_cons,List.zipIdx_nil,forIn_cons,List.forIn_nil];refine af (af (dE ?_));show wpAny _ _ (Builtin.SmallTypes.nextOf (.ref i1) >>= _) _ _ _
 cases hx:xs[k1]? with
 | none =>
  refine af (QX hh (h1.at' λ o e=>hs₁.extBut _ _ D.i1z e) (hl1.at' λ o e=>hs₁.extBut _ _ D.l1z e) hx λ h₂ e hs₂ he=>?_);obtain ⟨oe,hoe,hce⟩:=he;have hz₂:IsZip h₂ z TI TO .ellipsis:=hs₂ _ _ D.i1z.symm hz₁;have hez:e≠z:=λ x=>by subst x;rw [hz₂] at hoe;cases hoe;simp at hce
  refine bU hz₂ (by simp) λ h₃ _ hs₃=>hE h₃ e (λ c o c1 _ c3 _ x=>hs₃.extBut _ _ c1 (hs₂ _ _ c3 (hs₁.extBut _ _ c1 x))) ⟨oe,hs₃.extBut _ _ hez hoe,hce⟩
 | some x =>
  have hy:ys[k2]?=none:=by rcases hend with h|h;rw [hx] at h;cases h;exact h
  refine af (wF (h1.at' λ o e=>hs₁.extBut _ _ D.i1z e) (hl1.at' λ o e=>hs₁.extBut _ _ D.l1z e) hx λ h₂ h1₂ hs₂=>aM ?_);have hTO₂:IsPair h₂ TO a b:=hs₂.extBut _ _ D.TOi1 (hs₁.extBut _ _ D.TOz hTO);refine af (bJ hTO₂ rfl ?_);refine af (dr hTO₂ λ h₃ hTO₃ hs₃=>?_);refine af (dY (aM ?_));refine af (af (dE ?_));show wpAny _ _ (Builtin.SmallTypes.nextOf (.ref i2) >>= _) _ _ _
  refine af (QX hh (h2.at' λ o e=>hs₃.extBut _ _ D.TOi2.symm (hs₂.extBut _ _ D.i12.symm (hs₁.extBut _ _ D.i2z e)))
   (hl2.at' λ o e=>hs₃.extBut _ _ D.l2TO (hs₂.extBut _ _ D.l2i1 (hs₁.extBut _ _ D.l2z e))) hy λ h₄ e hs₄ he=>?_)
  obtain ⟨oe,hoe,hce⟩:=he;have hz₄:IsZip h₄ z TI TO .ellipsis:=hs₄ _ _ D.i2z.symm (hs₃.extBut _ _ D.TOz.symm (hs₂.extBut _ _ D.i1z.symm hz₁));have hez:e≠z:=λ x=>by subst x;rw [hz₄] at hoe;cases hoe;simp at hce
  refine bU hz₄ (by simp) λ h₅ _ hs₅=>hE h₅ e (λ c o c1 c2 c3 c4 x=>hs₅.extBut _ _ c1 (hs₄ _ _ c4 (hs₃.extBut _ _ c2 (hs₂.extBut _ _ c3 (hs₁.extBut _ _ c1 x))))) ⟨oe,hs₅.extBut _ _ hez hoe,hce⟩
abbrev zH1 (h:Heap) (b1:Bool) (l1:Addr):Heap:=h.push { cls:=.type (ZK b1),data:=.fields #[.ref l1,.int 0 0] }
abbrev zH2 (h:Heap) (b1 b2:Bool) (l1 l2:Addr):Heap:=(zH1 h b1 l1).push { cls:=.type (ZK b2),data:=.fields #[.ref l2,.int 0 0] }
noncomputable abbrev zH3 (h:Heap) (b1 b2:Bool) (l1 l2:Addr):Heap:=(zH2 h b1 b2 l1 l2).push { cls:=.type "tuple",data:=.seq #[.ref h.objs.size,.ref (zH1 h b1 l1).objs.size] }
noncomputable abbrev zH4 (h:Heap) (b1 b2:Bool) (l1 l2:Addr):Heap:=(zH3 h b1 b2 l1 l2).push { cls:=.type "tuple",data:=.seq #[.none,.none] }
noncomputable abbrev zH5 (h:Heap) (b1 b2:Bool) (l1 l2:Addr):Heap:=(zH4 h b1 b2 l1 l2).push { cls:=.type "zip",data:=.fields #[.none,.bool false,.bool false,.ref (zH2 h b1 b2 l1 l2).objs.size,.ref (zH3 h b1 b2 l1 l2).objs.size] }
end
theorem zbS {b1 b2:Bool} (l1 l2:Addr) (xs ys:Array Value) :
  Meets (Builtin.«zip.__new__» ⟨[.type "zip",.ref l1,.ref l2],[]⟩) (λ _ R s=>SqAt b1 s.heap l1 xs/\SqAt b2 s.heap l2 ys /\
   R (.ok (.ret (.ref (zH4 s.heap b1 b2 l1 l2).objs.size))) { s with heap:=zH5 s.heap b1 b2 l1 l2 }) :=
 .of_wp λ prog w A R s h=>by
  obtain ⟨hp,g,d,tk,os⟩:=s;obtain ⟨hl1,hl2,h⟩:=h;have hsub:=sub_zip;have hL1:SqAt b1 (Shared.heap ⟨hp,g,d,tk,os⟩) l1 xs:=hl1;have hL2:SqAt b2 (Shared.heap ⟨hp.push { cls:=.type (ZK b1),data:=.fields #[.ref l1,.int 0 0] },g,d,tk,os⟩) l2 ys:=hl2.at' λ o e=>ai _ e
  wp_walk using JW hL1,JW hL2
  exact ⟨_,rfl,h⟩
section
variable {prog:Program} {w:World} {A:Around} {E:Value->Shared->Prop} {s:Shared}
theorem ItAt.new {b:Bool} {h:Heap} {it l:Addr} (e:h.get? it=some { cls:=.type (ZK b),data:=.fields #[.ref l,.int 0 0] }):ItAt b h it l 0:=by
 cases b <;> exact ⟨_,e,rfl,rfl⟩
theorem zdC {b1 b2:Bool} {l1 l2:Addr} {xs ys:Array Value} {Q:Value->Shared->Prop} (hl1:SqAt b1 s.heap l1 xs) (hl2:SqAt b2 s.heap l2 ys)
  (h:∀ h',IsZip h' (s.heap.objs.size + 4) (s.heap.objs.size + 2) (s.heap.objs.size + 3) .none->IsPair h' (s.heap.objs.size + 2) (.ref s.heap.objs.size) (.ref (s.heap.objs.size + 1)) ->
   IsPair h' (s.heap.objs.size + 3) .none .none->ItAt b1 h' s.heap.objs.size l1 0->ItAt b2 h' (s.heap.objs.size + 1) l2 0->h'.objs.size=s.heap.objs.size + 5 ->
   (∀ c o,s.heap.get? c=some o->h'.get? c=some o)->Q (.ref (s.heap.objs.size + 4)) { s with heap:=h' }) :
  wpAny (model prog w) A (call (.type "zip") [.ref l1,.ref l2]) Q E s:=by
 refine callType_new F.called_zip (by decide) (F.typeCall_zip_2 _ _) (F.newCall_zip_2 _ _) (λ obj=>F.args_object_init_3 obj _ _) F.entry_zip_new
  (zbS (b1:=b1) (b2:=b2) l1 l2 xs ys) ⟨hl1,hl2,?_⟩
 have z1:(zH1 s.heap b1 l1).objs.size=s.heap.objs.size + 1:=bB ..;have z2:(zH2 s.heap b1 b2 l1 l2).objs.size=s.heap.objs.size + 2:=by rw [bB,z1]
 have z3:(zH3 s.heap b1 b2 l1 l2).objs.size=s.heap.objs.size + 3:=by rw [bB,z2]
 have z4:(zH4 s.heap b1 b2 l1 l2).objs.size=s.heap.objs.size + 4:=by rw [bB,z3]
 have z5:(zH5 s.heap b1 b2 l1 l2).objs.size=s.heap.objs.size + 5:=by rw [bB,z4]
 have g5:(zH5 s.heap b1 b2 l1 l2).get? (zH4 s.heap b1 b2 l1 l2).objs.size=some _:=aD _ rfl;have g4:(zH5 s.heap b1 b2 l1 l2).get? (zH3 s.heap b1 b2 l1 l2).objs.size=some _:=ai _ (aD _ rfl);have g3:(zH5 s.heap b1 b2 l1 l2).get? (zH2 s.heap b1 b2 l1 l2).objs.size=some _:=ai _ (ai _ (aD _ rfl));have g2:(zH5 s.heap b1 b2 l1 l2).get? (zH1 s.heap b1 l1).objs.size=some _:=ai _ (ai _ (ai _ (aD _ rfl)));have g1:(zH5 s.heap b1 b2 l1 l2).get? s.heap.objs.size=some _:=ai _ (ai _ (ai _ (ai _ (aD _ rfl))));show _/\_
 rw [z2,z3,z4] at g5;rw [z1,z2] at g3;rw [z3] at g4;rw [z1] at g2;rw [z4];exact ⟨⟨_,g5,rfl⟩,h _ g5 g3 g4 (ItAt.new g1) (ItAt.new g2) z5 λ c o x =>
  ai _ (ai _ (ai _ (ai _ (ai _ x))))⟩
end
def SqB (b:Bool) (K:PySem.W.Frag) (H:Hp) (a:Addr) (xs:List V):Prop:=if b=true then SqL K H a xs else SqT K H a xs
theorem Inv.sqB {X:Cx} {pins:List (Addr × Obj)} {σ:St} {H:Hp} {s:Shared} {b:Bool} {a:Addr} {xs:List V} (I:Inv X pins σ H s) (h:SqB b X.K H a xs):∃ its:List Value,Vals xs its/\SqAt b s.heap a its.toArray:=by
 cases b
 ·obtain ⟨its,r,p,_⟩:=I.tuple (show SqT X.K H a xs from h);exact ⟨its,r,p⟩
 ·obtain ⟨its,r,p,_⟩:=I.list (show SqL X.K H a xs from h);exact ⟨its,r,p.isList⟩
theorem Inv.sqB_inj {X:Cx} {pins:List (Addr × Obj)} {σ:St} {H:Hp} {s:Shared} {b:Bool} {a:Addr} {xs ys:List V} (I:Inv X pins σ H s) (h1:SqB b X.K H a xs) (h2:SqB b X.K H a ys):xs=ys:=by
 cases b
 ·exact I.tuple_inj (show SqT X.K H a xs from h1) (show SqT X.K H a ys from h2)
 ·exact I.list_inj (show SqL X.K H a xs from h1) (show SqL X.K H a ys from h2)
def Itz (K:PySem.W.Frag) (b1 b2:Bool) (a1 a2:Addr):It :=
 ⟨λ i H=>∃ xs ys x y,SqB b1 K H a1 xs/\SqB b2 K H a2 ys/\xs[i]?=some x/\ys[i]?=some y,
   λ i H v H'=>∃ t x y,H t=none/\v=.ref t/\(∀ xs,SqB b1 K H a1 xs->xs[i]?=some x)/\(∀ ys,SqB b2 K H a2 ys->ys[i]?=some y)/\H'=upd H t (.tup [x,y]),
   λ i H=>∃ xs ys,SqB b1 K H a1 xs/\SqB b2 K H a2 ys/\(xs.length<=i\/ys.length<=i)⟩
theorem SqB.there {X:Cx} {pins:List (Addr × Obj)} {σ:St} {H:Hp} {s:Shared} {b:Bool} {a:Addr} {xs:List V} (I:Inv X pins σ H s) (h:SqB b X.K H a xs):∃ o,s.heap.get? a=some o/\(o.cls=.type "list"\/o.cls=.type "tuple")/\∃ its n,o.data=.seq its n:=by
 obtain ⟨its,_,p⟩:=I.sqB h;cases b
 ·obtain ⟨o,e,c,n,d⟩:=p;exact ⟨o,e,.inr c,_,n,d⟩
 ·obtain ⟨o,e,c,n,d⟩:=p;exact ⟨o,e,.inl c,_,n,d⟩
theorem zcr {P:Program} {w:World} {K:PySem.W.Frag} {elts:List Expr} {x1} {pos:Pos} {b1 b2:Bool} (z TI TO i1 i2 l1 l2:Addr) (D:ZipApart z TI TO i1 i2 l1 l2) :
  Turn P w K (.Tuple elts x1 pos) (Itz K b1 b2 l1 l2) [z,TI,TO,i1,i2] z (λ i h=>IsZip h z TI TO .none/\IsPair h TI (.ref i1) (.ref i2)/\(∃ a b,IsPair h TO a b)/\ItAt b1 h i1 l1 i/\ItAt b2 h i2 l2 i) where
 mem:=by simp
 obj:=λ i h st b hb=>by
  obtain ⟨hz,hTI,⟨a,b',hTO⟩,h1,h2⟩:=st;simp only [ay,be,bR] at hb;rcases hb with rfl|rfl|rfl|rfl|rfl
  ·exact ⟨_,hz,λ v z=>by cases z⟩
  ·exact ⟨_,hTI,λ v z=>by cases z⟩
  ·exact ⟨_,hTO,λ v z=>by cases z⟩
  ·exact h1.obj
  ·exact h2.obj
 keep:=λ i h h' st k=>by
  obtain ⟨hz,hTI,⟨a,b',hTO⟩,h1,h2⟩:=st;exact ⟨k z (by simp) _ hz,k TI (by simp) _ hTI,⟨a,b',k TO (by simp) _ hTO⟩,h1.at' λ o e=>k i1 (by simp) o e,h2.at' λ o e=>k i2 (by simp) o e⟩
 item:=by
  intro X hP hw hK hc i pins s σ H E I hf st hg;subst hP hw hK;obtain ⟨hz,hTI,⟨a,b',hTO⟩,h1,h2⟩:=st;obtain ⟨xs,ys,x,y,q1,q2,hx,hy⟩:=hg;obtain ⟨its1,r1,p1⟩:=I.sqB q1;obtain ⟨its2,r2,p2⟩:=I.sqB q2;obtain ⟨u1,hu1,ru1⟩:=r1.get hx;obtain ⟨u2,hu2,ru2⟩:=r2.get hy;have hT:s.TypeIs (.ref z) "zip":=⟨_,hz,rfl⟩;unfold pyNext;refine af (eR (cw (name:=Str.ofString "__next__") hT dg (c9 dg hT F.entry_zip_next
   (zcm D hz hTI hTO h1 h2 p1 p2 (x:=u1) (y:=u2) (by simpa using hu1) (by simpa using hu2) λ h' a1 a2 a3 a4 a5 a6 hk=>aM ?_) (F.args_zip_next_1 _))))
  refine ⟨_,rfl,?_⟩;have I1:Inv X pins σ (upd H s.heap.objs.size (.tup [x,y])) { s with heap:=h' }:=I.turnNew (t':=s.toks) hf (av _) (λ b o hb q=>hk b o (λ z=>hb (by simp [z])) (λ z=>hb (by simp [z])) (λ z=>hb (by simp [z])) (λ z=>hb (by simp [z])) q)
   ⟨by show 2<=sizeLine;decide,[u1,u2],.cons ru1 (.cons ru2 .nil),⟨_,a5,rfl,_,rfl⟩⟩
  have hn:H s.heap.objs.size=none:=I.hok.fresh (av _);have ne:∀ b∈[z,TI,TO,i1,i2],b≠s.heap.objs.size:=λ b hb=>by
   have:∃ o,s.heap.get? b=some o:=by
    simp only [ay,be,bR] at hb;rcases hb with rfl|rfl|rfl|rfl|rfl
    ·exact ⟨_,hz⟩
    ·exact ⟨_,hTI⟩
    ·exact ⟨_,hTO⟩
    ·exact let ⟨o,e,_⟩:=h1.obj;⟨o,e⟩
    ·exact let ⟨o,e,_⟩:=h2.obj;⟨o,e⟩
   obtain ⟨o,e⟩:=this;exact aP (ax e)
  have fr:∀ b∈[z,TI,TO,i1,i2],(upd H s.heap.objs.size (.tup [x,y])) b=none:=λ b hb=>by rw [upd_ne (ne b hb)];exact (hf b hb).1
  have hTI':IsPair h' TI (.ref i1) (.ref i2):=hk _ _ D.TIz D.TITO D.TIi1 D.TIi2 hTI;refine wpAny_letOwnedTupleGo_zip a1 λ h'' hz'' hs''=>?_;refine ⟨.ref s.heap.objs.size,_,I1.turnL (t':=s.toks) (ch:=[z]) (λ b hb=>?_) (λ b o hb q=>(hs''.2 b (λ z=>hb (by simp [z]))).trans q),rfl,
   ⟨s.heap.objs.size,x,y,hn,rfl,λ zs hy=>by rw [I.sqB_inj hy q1];exact hx,λ zs hz=>by rw [I.sqB_inj hz q2];exact hy,rfl⟩,
   ⟨hz'',hs''.extBut _ _ D.TIz hTI',⟨_,_,hs''.extBut _ _ D.TOz a2⟩,a3.at' λ o e=>hs''.extBut _ _ D.i1z e,a4.at' λ o e=>hs''.extBut _ _ D.i2z e⟩,fr⟩
  obtain rfl:b=z:=by simpa using hb
  exact ⟨fr b (by simp),(hf b (by simp)).2⟩
 done:=by
  intro X hP hw hK hc i pins s σ H E I hf st hg;subst hP hw hK;obtain ⟨hz,hTI,⟨a,b',hTO⟩,h1,h2⟩:=st;obtain ⟨xs,ys,q1,q2,hx⟩:=hg;obtain ⟨its1,r1,p1⟩:=I.sqB q1;obtain ⟨its2,r2,p2⟩:=I.sqB q2;have e1:=r1.length;have e2:=r2.length;have hT:s.TypeIs (.ref z) "zip":=⟨_,hz,rfl⟩;have hend:its1.toArray[i]?=none\/its2.toArray[i]?=none:=by
   rcases hx with h|h
   ·exact .inl (by simp;omega)
   ·exact .inr (by simp;omega)
  unfold pyNext;refine af (eR (cw (name:=Str.ofString "__next__") hT dg
   (c9 dg hT F.entry_zip_next (zdQ (I.ok.hd hc) D hz hTI hTO h1 h2 p1 p2 hend λ h' e hk he=>?_) (F.args_zip_next_1 _))))
  obtain ⟨o,ho,hcl⟩:=he;refine af (wpAny_isInstance (T:="StopIteration") (b:=true) ⟨o,ho,hcl⟩ isSubtype_stop ?_);exact aM ⟨rfl,I.turnL (t':=s.toks) hf λ b o hb q=>hk b o (λ z=>hb (by simp [z])) (λ z=>hb (by simp [z])) (λ z=>hb (by simp [z])) (λ z=>hb (by simp [z])) q⟩
 self:=λ _ _ _ _ _ st h=>wpAny_pyIter_zip st.1 h
theorem zbi (n l1 l2:Nat) (h1:l1 < n) (h2:l2 < n):ZipApart (n + 4) (n + 2) (n + 3) n (n + 1) l1 l2:=by
 constructor <;> (show (_:Nat)≠_) <;> omega
def iZip (X:Cx) (ta:TA):TI:=λ σ H R=>X.mg "zip"=none/\ta σ H λ vs H1=>∃ b1 b2 l1 l2 xs ys,vs=[.ref l1,.ref l2]/\SqB b1 X.K H1 l1 xs/\SqB b2 X.K H1 l2 ys/\R (Itz X.K b1 b2 l1 l2) H1
theorem QQ {X:Cx} {a b:Expr} {elts:List Expr} {x1} {tp p pos:Pos} {ta:TA} (ha:PA X [a,b] ta) (hg:Gl X "zip":=by rfl)
  (hs:starEach [a,b] X.env=(false,eval a X.env) :: starEach [b] X.env:=by rfl) (hpl:(backTo pos (starEach [b] X.env)).any (·.1)=false:=by rfl) :
  PI X (.Tuple elts x1 tp) (.Call (.Name "zip" p) [a,b] [] pos) (iZip X ta):=by
 intro pins s σ H R I h;refine bu (wc I hg h.1 zfK ?_);refine aU (wu (ha pos pins s σ H _ I h.2) λ us s1 vs H1 I1 r1 q1=>?_) hs hpl;obtain ⟨b1,b2,l1,l2,xs,ys,rfl,q1,q2,hR⟩:=q1;obtain ⟨u1,u2,rfl,rx,ry⟩:=zeG r1;cases rx;cases ry;obtain ⟨its1,rv1,p1⟩:=I1.sqB q1;obtain ⟨its2,rv2,p2⟩:=I1.sqB q2;obtain ⟨o1,e1,_⟩:=SqB.there I1 q1;obtain ⟨o2,e2,_⟩:=SqB.there I1 q2;have n1:=ax e1;have n2:=ax e2;refine zdC p1 p2 λ h' hz hTI hTO h1 h2 hsz hk=>wpAny_pyIter_zip hz ?_;refine ⟨s1.heap.objs.size + 4,[s1.heap.objs.size + 4,s1.heap.objs.size + 2,s1.heap.objs.size + 3,s1.heap.objs.size,s1.heap.objs.size + 1],_,_,H1,rfl,I1.kept (t':=s1.toks) hk,
  zcr _ _ _ _ _ l1 l2 (zbi _ _ _ n1 n2),⟨hz,hTI,⟨_,_,hTO⟩,h1,h2⟩,λ b hb=>?_,hR⟩
 have ge:s1.heap.objs.size<=b:=by
  simp only [ay,be,bR] at hb;rcases hb with rfl|rfl|rfl|rfl|rfl
  ·exact cR _ _
  ·exact cR _ _
  ·exact cR _ _
  ·exact av _
  ·exact cR _ _
 exact I1.fpOk ge (I1.hok.fresh ge)
section
variable {K:PySem.W.Frag} {σ:St} {H:Hp}
theorem Ze {a:Addr} {xs:List V} {DN:St->Hp->Prop} {B:(St->Hp->Prop)->V->St->Hp->Prop} (Pv:Nat->St->Hp->Prop) (h0:Pv 0 σ H) (hl:∀ i σ H,i<=xs.length->Pv i σ H->SqL K H a xs)
  (hs:∀ i x t σ H,xs[i]?=some x->H t=none->Pv i σ H->B (Pv (i + 1)) (.ref t) σ (upd H t (.tup [.int i,x]))) (hd:∀ σ H,Pv xs.length σ H->DN σ H) :
  ∃ W:Nat->Nat->St->Hp->Prop,(∃ m,W 0 m σ H)/\∀ i m σ H,W i m σ H ->
   ((Ite K a).stop i H/\DN σ H)\/((Ite K a).go i H/\∃ N:St->Hp->Prop,(∀ σ' H',N σ' H'->∃ m',m' < m/\W (i + 1) m' σ' H')/\∀ x H',(Ite K a).yld i H x H'->B N x σ H'):=by
 refine ⟨λ i m σ H=>m=xs.length - i/\i<=xs.length/\Pv i σ H,⟨xs.length,by simp,cj _,h0⟩,?_⟩;rintro i m σ H ⟨rfl,hi,p⟩;have q:=hl i σ H hi p;by_cases hlt:i < xs.length
 ·refine .inr ⟨⟨xs,xs[i],q,by simp [hlt]⟩,Pv (i + 1),λ σ' H' p'=>⟨xs.length - (i + 1),by omega,rfl,hlt,p'⟩,λ v H' y=>?_⟩;obtain ⟨t,x,ht,rfl,hx,rfl⟩:=y;exact hs i x t σ _ (hx xs q) ht p
 ·have e:i=xs.length:=by omega
  subst e;exact .inl ⟨⟨xs,q,av _⟩,hd σ H p⟩
theorem Vh {b1 b2:Bool} {a1 a2:Addr} {xs ys:List V} {DN:St->Hp->Prop} {B:(St->Hp->Prop)->V->St->Hp->Prop} (Pv:Nat->St->Hp->Prop) (h0:Pv 0 σ H) (hl:∀ i σ H,i<=min xs.length ys.length->Pv i σ H->SqB b1 K H a1 xs/\SqB b2 K H a2 ys)
  (hs:∀ i x y t σ H,xs[i]?=some x->ys[i]?=some y->H t=none->Pv i σ H->B (Pv (i + 1)) (.ref t) σ (upd H t (.tup [x,y]))) (hd:∀ σ H,Pv (min xs.length ys.length) σ H->DN σ H) :
  ∃ W:Nat->Nat->St->Hp->Prop,(∃ m,W 0 m σ H)/\∀ i m σ H,W i m σ H ->
   ((Itz K b1 b2 a1 a2).stop i H/\DN σ H)\/((Itz K b1 b2 a1 a2).go i H/\∃ N:St->Hp->Prop,(∀ σ' H',N σ' H'->∃ m',m' < m/\W (i + 1) m' σ' H')/\∀ x H',(Itz K b1 b2 a1 a2).yld i H x H'->B N x σ H'):=by
 refine ⟨λ i m σ H=>m=min xs.length ys.length - i/\i<=min xs.length ys.length/\Pv i σ H,⟨min xs.length ys.length,by simp,cj _,h0⟩,?_⟩;rintro i m σ H ⟨rfl,hi,p⟩;obtain ⟨q1,q2⟩:=hl i σ H hi p;by_cases hlt:i < min xs.length ys.length
 ·have l1:i < xs.length:=by omega
  have l2:i < ys.length:=by omega
  refine .inr ⟨⟨xs,ys,xs[i],ys[i],q1,q2,by simp [l1],by simp [l2]⟩,Pv (i + 1),λ σ' H' p'=>⟨min xs.length ys.length - (i + 1),by omega,rfl,hlt,p'⟩,λ v H' y=>?_⟩;obtain ⟨t,x,y,ht,rfl,hx,hy,rfl⟩:=y;exact hs i x y t σ _ (hx xs q1) (hy ys q2) ht p
 ·have e:i=min xs.length ys.length:=by omega
  subst e;exact .inl ⟨⟨xs,ys,q1,q2,by omega⟩,hd σ H p⟩
end
section
variable {X:Cx} {N:List Str} {scope:Scope} {s:Shared} {H:Hp} {fp:List Addr} {pins:List (Addr × Obj)}
theorem cxC_K:(cxC X N scope s H fp pins).K=X.K:=rfl
theorem cxC_mg:(cxC X N scope s H fp pins).mg=X.mg:=rfl
theorem cxC_prog:(cxC X N scope s H fp pins).prog=X.prog:=rfl
theorem cxC_w:(cxC X N scope s H fp pins).w=X.w:=rfl
theorem cxC_base:(cxC X N scope s H fp pins).base=X.base:=rfl
end
end L2
namespace L2
open PySem PySem.Spec PySem.Calls PyProof.Rows
structure BCal (P:Program) (w:World) (K:PySem.W.Frag) (mg:Str->Option Value) (base:Heap) (x m:Str) (k:Nat) (ps:List Str) (dvs:List V) (sp:Sp):Prop where
 ex:∃ C f fd ds,mg x=some (.ref C)/\PySem.W.specialIn K (.ref C) "__getattribute__"=some (some (.builtin "type.__getattribute__"))/\readsIn K C (.type "type")=true /\
  findCls K (.ref C) (.type "type") m=some (.val (.ref f))/\PySem.W.handedIn (.ref f)=true/\FnOk P w K mg base (CXr P w) k f fd ps sp/\PySem.W.keepIn K (.ref f)=true/\Binds K fd ps ds/\Vals dvs ds
theorem BCal.mono {P:Program} {w:World} {K:PySem.W.Frag} {mg:Str->Option Value} {base:Heap} {x m:Str} {j k:Nat} {ps:List Str} {dvs:List V} {sp:Sp} (c:BCal P w K mg base x m j ps dvs sp) (h:j<=k:=by decide):BCal P w K mg base x m k ps dvs sp:=by
 obtain ⟨C,f,fd,ds,a,b,c,d,e,g,r⟩:=c.ex;exact ⟨C,f,fd,ds,a,b,c,d,e,g.mono h,r⟩
section
variable {X:Cx} {G:GK} {k:Nat} {x m:Str} {p pos apos:Pos} {e:Expr} {es:List Expr} {t:TA}
def tBase (X:Cx) (k:Nat) (x m:Str) (G:GK) (t:TA):TE:=λ σ H Q=>∃ ps dvs sp,BCal X.prog X.w X.K X.mg X.base x m k ps dvs sp/\t σ H λ vs H1=>sp (vs ++ dvs) H1 Q (λ cls _ H'=>G cls σ H')
theorem wT {pl:Sem Bool} (B:Bod X) (hr:Room k X.A) (ha:PA (X.exg G) (e :: es) t) (hg:Gl X x:=by rfl) (hdb:(x == ("__debug__":Str))=false:=by decide)
  (hst:starEach (e :: es) X.env=(false,eval e X.env) :: starEach es X.env:=by rfl) (hpl:(backTo pos (starEach es X.env)).any (·.1)=false:=by rfl)
  (ht:eval (.Call (.Attribute (.Name x p) m apos) (e :: es) [] pos) X.env=(do
   let ov <- eval (.Name x p) X.env
   standAt apos.atName
   let (f,first) <- holding [ov] (getMethod ov m pl)
   callWith pos f first (backTo pos (starEach (e :: es) X.env)) (backToKw pos (keywordEach [] X.env))):=by rfl) :
  PE (X.exg G) (.Call (.Attribute (.Name x p) m apos) (e :: es) [] pos) (tBase X k x m G t):=by
 intro pins s σ H Q I h;obtain ⟨ps,dvs,sp,⟨C,f,fd,ds,hm,hga,hrd,hfc,hhd,F,hk,hb,hd⟩,h⟩:=h;refine dG (pl:=pl) (wb I hg hm ?_ hdb) ht;refine PySem.W.method_cls I.kIn hga (PySem.W.cls_value I.kIn hrd hfc hhd ?_);have I0:=I.tok (s.toks + 1);refine dh (first:=[]) (h₀:=X.base) I.ok.mod.kin hk (wu (ha pos pins _ σ H _ I0 h) λ us s1 vs H1 I1 r q=>⟨I1.kIn,?_⟩) hst hpl;exact Qk B F hr hb hd I1 r q
end
structure FB (K:PySem.W.Frag) (mg:Str->Option Value) (x m qual:Str) (st:Stmt) (ps:List Str):Prop where
 ex:∃ C f fd,mg x=some (.ref C)/\PySem.W.specialIn K (.ref C) "__getattribute__"=some (some (.builtin "type.__getattribute__"))/\readsIn K C (.type "type")=true /\
  findCls K (.ref C) (.type "type") m=some (.val (.ref f))/\Fun K m qual st f fd/\PySem.W.keepIn K (.ref f)=true/\Binds K fd ps []
theorem FB.cal {P:Program} {w:World} {K:PySem.W.Frag} {mg:Str->Option Value} {base:Heap} {x m qual:Str} {st:Stmt} {ps:List Str} {k:Nat} {sp:Sp} (h:FB K mg x m qual st ps)
  (ok:∀ {f fd},Fun K m qual st f fd->FnOk P w K mg base (CXr P w) k f fd ps sp):BCal P w K mg base x m k ps [] sp:=by
 obtain ⟨C,f,fd,a,b,c,d,F,kp,bi⟩:=h.ex;exact ⟨C,f,fd,[],a,b,c,d,rfl,ok F,kp,bi,.nil⟩
theorem zgg {K:PySem.W.Frag} {mg:Str->Option Value} {C:Addr} {x m qual:Str} {st:Stmt} {ps:List Str} {f:Addr} {oc:Value} {od an:Option Addr} {osl:Array (Option Value)} {kV doc pm cdv ct:Value} (gl:mg x=some (.ref C))
  (ga:PySem.W.specialIn K (.ref C) "__getattribute__"=some (some (.builtin "type.__getattribute__"))) (rd:readsIn K C (.type "type")=true) (fc:findCls K (.ref C) (.type "type") m=some (.val (.ref f)))
  (l:K.lookup f=some ⟨oc,od,.func (PySem.W.fnOf m qual (qd st) (zZ st) (zd st) .none kV doc pm an cdv ct),osl⟩)
  (c:PySem.W.codeIn K cdv qual=true) (k:PySem.W.keepIn K (.ref f)=true)
  (hb:∀ (kV doc pm:Value) (an:Option Addr) (cdv ct:Value) (us:List Value),us.length=ps.length->bindArgs (PySem.W.fnOf m qual (qd st) (zZ st) (zd st) .none kV doc pm an cdv ct) ⟨us,[]⟩=pure (ps.zip us)):FB K mg x m qual st ps :=
 ⟨C,f,_,gl,ga,rd,fc,we l c k,k,(we l c k).binds hb⟩
section
variable {X:Cx} {a b:Expr} {ta:TA} {p pos lp lpos:Pos}
def rgL (lo:Int) (n:Nat):List V:=(List.range n).map λ (i:Nat)=>V.int (lo + (i:Int))
theorem VB {lo:Int} {n:Nat} {acc:Array Value} (h:ItemsOf (λ i v=>∃ t,v=.int (lo + i * 1) t) acc n):Vals (rgL lo n) acc.toList:=by
 have key:∀ (k:Nat) (l:List Value) (m:Nat),l.length=m->(∀ i v,l[i]?=some v->∃ t,v=Value.int (lo + ((k + i:Nat):Int)) t)->Vals ((List.range' k m).map λ (i:Nat)=>V.int (lo + (i:Int))) l:=by
  intro k l
  induction l generalizing k with
  | nil=>intro m hm _;simp at hm;subst hm;exact .nil
  | cons x r ih =>
   intro m hm hv;obtain ⟨m,rfl⟩:∃ m',m=m' + 1:=⟨r.length,by simpa using hm.symm⟩;rw [List.range'_succ,dm];refine .cons ?_ (ih (k + 1) m (by simpa using hm) λ i v e=>?_)
   ·obtain ⟨t,e⟩:=hv 0 x rfl;exact ⟨t,by simpa using e⟩
   ·obtain ⟨t,e'⟩:=hv (i + 1) v (by simpa using e);exact ⟨t,by rw [e'];congr 2;omega⟩
 have:=key 0 acc.toList n (by simpa using h.1) λ i v e=>by
  obtain ⟨t,e'⟩:=h.2 i v (by simpa using e);exact ⟨t,by rw [e'];simp⟩
 rw [rgL,List.range_eq_range'];exact this
def tRg1 (X:Cx) (ta:TA):TE:=λ σ H Q=>X.mg "range"=none/\ta σ H λ vs H1=>lq vs λ v=>iq v λ j=>∀ p,H1 p=none->Q (.ref p) (upd H1 p (.rng 0 j))
theorem zfe (ha:PA X [a] ta) (hg:Gl X "range":=by rfl) (hs:starEach [a] X.env=[(false,eval a X.env)]:=by rfl):PE X (.Call (.Name "range" p) [a] [] pos) (tRg1 X ta):=by
 intro pins s σ H Q I h;refine Call_ (wc I hg h.1 boot_range (aU (wu (ha pos pins s σ H _ I h.2) λ us s1 vs H1 I1 r1 q1=>?_) hs rfl));obtain ⟨j,e,q⟩:=zfq q1;subst e;cases r1 with
 | cons r rr =>
  cases rr;obtain ⟨t,rfl⟩:=r;exact call_range_1 ⟨.ref _,_,I1.laid (o:=.rng 0 j) (λ b o e=>ai _ e) (av _) ⟨_,_,_,aD _ rfl⟩,rfl,q _ I1.fresh⟩
theorem VZ {lo:Int} {n:Nat}:(rgL lo n).length=n:=by simp [rgL]
theorem zdK (hc:X.calm=true):CallR X (.type "list") (λ xs H Q=>∃ p lo hi,xs=[.ref p]/\H p=some (.rng lo hi)/\(-(2 ^ 62)<=lo/\lo < 2 ^ 62/\-(2 ^ 62)<=hi/\hi < 2 ^ 62/\(hi - lo).toNat<=1000)/\∀ l,H l=none->Q (.ref l) (upd H l (.lst (rgL lo (hi - lo).toNat)))):=by
 intro pins s σ H xs us Q I r h;obtain ⟨p,lo,hi,rfl,hq,⟨h1,h2,h3,h4,h5⟩,q⟩:=h;obtain ⟨u,rfl,rx⟩:=ZR r;cases rx;obtain ⟨t,u,v,e⟩:=I.hok p _ hq;refine call_list_range (n:=(hi - lo).toNat) (I.ok.hd hc) e (small_one h1 h2 h3 h4) (by rw [rangeSize_one];split <;> omega) (by omega) λ h' tk acc' c' hk hS hit=>?_;exact ⟨.ref _,_,I.laid (o:=.lst (rgL lo (hi - lo).toNat)) (t':=tk) hk (av _) ⟨by rw [VZ];exact bL (zh h5),acc'.toList,c',VB hit,by simpa using hS⟩,rfl,q _ I.fresh⟩
end
end L2
namespace L2
open PySem PySem.Spec PyProof.Rows
def Itd (lo:Int) (n:Nat):It:=⟨λ i _=>i < n,λ i H x H'=>H'=H/\x=.int (lo - i),λ i _=>n<=i⟩
theorem zbl {P:Program} {w:World} {K:PySem.W.Frag} {tg:Expr} (it:Addr) (lo:Int) (n:Nat):Turn P w K tg (Itd lo n) [it] it (λ i h=>IsRangeIter h it (lo + (i:Nat) * (-1)) ((n:Int) - (i:Nat)) (-1)) where
 mem:=by simp
 obj:=λ i h st b hb=>by
  have e:b=it:=by simpa using hb
  subst e;exact ⟨_,st,λ v z=>by
   have z':Data.fields _=Data.cell v:=z;cases z'⟩
 keep:=λ i h h' st k=>k it (by simp) _ st
 item:=by
  intro X hP hw hK hc i pins s σ H E I hf st hg;subst hP hw hK;obtain ⟨f0,f1,f2,f3,f4,f5⟩:=hf it (by simp);have W:=Walks.range (prog:=X.prog) (w:=X.w) (I.ok.hd hc) it lo (-1) n;refine W.item i s _ _ hg st λ v h' tk hv st' kk=>?_;obtain ⟨t,rfl⟩:=hv;have I1:Inv X pins σ H { s with heap:=h',toks:=tk }:=I.turned (λ b o hb e=>kk b o (by simpa using hb) e) f0 f1 f3 f4 f5;refine ⟨_,rfl,zaU (s:={ s with heap:=h',toks:=tk }) (n:="range_iterator") st' rfl rfl (by decide) ⟨.int (lo - i),H,I1,⟨t,?_⟩,⟨rfl,rfl⟩,st',λ b hb=>(hf b hb).1⟩⟩
  congr 1;omega
 done:=by
  intro X hP hw hK hc i pins s σ H E I hf st hg;subst hP hw hK;obtain ⟨f0,f1,f2,f3,f4,f5⟩:=hf it (by simp);exact wpAny_pyNext_range_end (I.ok.hd hc) st (by have:n<=i:=hg;omega) λ h' eb=>⟨rfl,I.turned (t':=s.toks) (λ b o hb e=>eb b o hb e) f0 f1 f3 f4 f5⟩
 self:=λ _ _ _ _ _ st h=>wpAny_pyIter_rangeiter st h
theorem wD (a b:Int):Builtin.Range.rangeSize a b (-1)=((a - b).toNat:Int):=by
 unfold Builtin.Range.rangeSize;rw [aw (by decide),show (- (-1:Int))=1 from rfl,Int.ediv_one]
 split <;> omega
theorem VJ {a b:Int} (ha:-(2 ^ 62)<=a) (ha':a < 2 ^ 62) (hb:-(2 ^ 62)<=b) (hb':b < 2 ^ 62):Builtin.Range.small a b (-1)=true:=by
 unfold Builtin.Range.small;rw [wD];simp only [Builtin.Range.rangeFitsLong,cy,Bool.or_eq_true,cM,bx,show ¬ ((-1:Int) > 0) by decide,dJ];omega
section
variable {X:Cx} {tg:Expr}
theorem zeu {pins:List (Addr × Obj)} {σ:St} {H:Hp} {s:Shared} {R:It->Hp->Prop} {E:Value->Shared->Prop} {lo hi:Int} {t u v:Tok} {tk:Nat} (I:Inv X pins σ H s) (h1:-(2 ^ 62)<=lo) (h2:lo < 2 ^ 62) (h3:-(2 ^ 62)<=hi) (h4:hi < 2 ^ 62)
  (q:R (Itd lo (lo - hi).toNat) H):wpAny (model X.prog X.w) X.A (pyIter (.ref s.heap.objs.size)) (PIE X pins σ tg R) E { s with heap:=s.heap.push { cls:=.type "range",data:=.fields #[.int lo t,.int hi u,.int (-1) v] },toks:=tk }:=by
 refine wpAny_pyIter_range (IsRange.new ..) (VJ h1 h2 h3 h4) ?_;have I1:Inv X pins σ H { s with heap:=s.heap.push { cls:=.type "range",data:=.fields #[.int lo t,.int hi u,.int (-1) v] },toks:=tk }:=I.kept λ b o e=>ai _ e;refine ⟨(s.heap.push { cls:=.type "range",data:=.fields #[.int lo t,.int hi u,.int (-1) v] }).objs.size,[(s.heap.push { cls:=.type "range",data:=.fields #[.int lo t,.int hi u,.int (-1) v] }).objs.size],_,_,H,rfl,
  I1.kept (t':=tk) λ b o e=>ai _ e,zbl _ lo (lo - hi).toNat,?_,λ b hb=>?_,q⟩
 ·have e1:lo + ((0:Nat):Int) * (-1)=lo:=by simp
  have e2:(((lo - hi).toNat:Nat):Int) - ((0:Nat):Int)=Builtin.Range.rangeSize lo hi (-1):=by rw [wD];omega
  show IsRangeIter _ _ (lo + ((0:Nat):Int) * (-1)) ((((lo - hi).toNat:Nat):Int) - ((0:Nat):Int)) (-1)
  rw [e1,e2];exact aD _ rfl
 ·have e:b=(s.heap.push { cls:=.type "range",data:=.fields #[.int lo t,.int hi u,.int (-1) v] }).objs.size:=by simpa using hb
  subst e;exact I1.fpOk (av _) (I1.hok.fresh (av _))
def iRng3 (X:Cx) (ta:TA):TI:=λ σ H R=>X.mg "range"=none/\ta σ H λ vs H1=>∃ i j:Int,vs=[.int i,.int j,.int (-1)]/\(-1000<=i/\i < 1000/\-1000<=j/\j < 1000)/\R (Itd i (i - j).toNat) H1
theorem zfc {a b c:Expr} {ta:TA} {p pos:Pos} (ha:PA X [a,b,c] ta) (hg:Gl X "range":=by rfl) (hs:starEach [a,b,c] X.env=[(false,eval a X.env),(false,eval b X.env),(false,eval c X.env)]:=by rfl) (hs2:starEach [b,c] X.env=[(false,eval b X.env),(false,eval c X.env)]:=by rfl) :
  PI X tg (.Call (.Name "range" p) [a,b,c] [] pos) (iRng3 X ta):=by
 intro pins s σ H R I h;refine Call_ (wc I hg h.1 boot_range (aU (wu (ha pos pins s σ H _ I h.2) λ us s1 vs H1 I1 r1 q1=>?_) (by rw [hs,hs2]) (by rw [hs2];rfl)));obtain ⟨i,j,e,⟨q1,q2,q3,q4⟩,q⟩:=q1;subst e;cases r1 with
 | cons r rr =>
  cases rr with
  | cons r' rr =>
   cases rr with
   | cons r'' rr =>
    cases rr;obtain ⟨t,rfl⟩:=r;obtain ⟨t',rfl⟩:=r';obtain ⟨t'',rfl⟩:=r'';exact call_range_3 (by decide) (zeu I1 (by omega) (by omega) (by omega) (by omega) q) (Or.inl (ee (by omega)))
theorem zgd {K:PySem.W.Frag} {σ:St} {H:Hp} {lo:Int} {n:Nat} {DN:St->Hp->Prop} {B:(St->Hp->Prop)->V->St->Hp->Prop} (Pv:Nat->St->Hp->Prop) (h0:Pv 0 σ H)
  (hs:∀ i σ H,i < n->Pv i σ H->B (Pv (i + 1)) (.int (lo - i)) σ H) (hd:∀ σ H,Pv n σ H->DN σ H) :
  ∃ W:Nat->Nat->St->Hp->Prop,(∃ m,W 0 m σ H)/\∀ i m σ H,W i m σ H ->
   ((Itd lo n).stop i H/\DN σ H)\/((Itd lo n).go i H/\∃ N:St->Hp->Prop,(∀ σ' H',N σ' H'->∃ m',m' < m/\W (i + 1) m' σ' H')/\∀ x H',(Itd lo n).yld i H x H'->B N x σ H'):=by
 refine ⟨λ i m σ H=>m=n - i/\i<=n/\Pv i σ H,⟨n,by simp,cj _,h0⟩,?_⟩;rintro i m σ H ⟨rfl,hi,p⟩;by_cases hlt:i < n
 ·refine .inr ⟨hlt,Pv (i + 1),λ σ' H' p'=>⟨n - (i + 1),by omega,rfl,hlt,p'⟩,λ x H' y=>?_⟩;obtain ⟨e,y⟩:=y;subst e y;exact hs i σ _ hlt p
 ·have e:i=n:=by omega
  subst e;exact .inl ⟨av _,hd σ H p⟩
end
end L2
namespace L2
open PySem PySem.Spec PyProof.Rows
section
variable {X:Cx} {tg:Expr}
theorem zfN (hc:X.calm=true):CallR X (.builtin "all") (λ xs H Q=>∃ p,∃ bs:List Bool,xs=[.ref p]/\H p=some (.lst (bs.map V.bl))/\Q (.bl (bs.all id)) H):=by
 intro pins s σ H xs us Q I r h;obtain ⟨p,bs,rfl,hp,q⟩:=h;obtain ⟨u,rfl,rx⟩:=ZR r;cases rx;obtain ⟨its,rv,hl,hz⟩:=I.list (SqL.of (K:=X.K) hp);have hl':=hl.isList;have hlt:p < s.heap.objs.size:=by obtain ⟨_,e,_⟩:=hl';exact ax e
 have hlen:its.length=bs.length:=by have:=rv.length;rw [ae] at this;exact this.symm
 refine call_all_walk (dI hl' ?_);refine ⟨s.heap.objs.size,[s.heap.objs.size,p],[s.heap.objs.size],its.toArray.size,_,_,λ i=>(bs[i]?).getD true,rfl,Walks.list (A:=X.A.in1) (I.ok.hd hc) _ p (aP hlt) its.toArray,
  ⟨⟨_,aD _ rfl,rfl,rfl⟩,hl'.push _⟩,λ i v s' Q' E' hP hQ=>?_,λ h' tk hk=>?_⟩
 ·have hP:its[i]?=some v:=by simpa using hP
  have hib:i < bs.length:=by rw [<- hlen];exact (aa.mp hP).1
  obtain ⟨u,hu,ru⟩:=rv.get (i:=i) (x:=.bl bs[i]) (by rw [ak,ad hib];rfl);rw [hu] at hP;cases hP;cases ru;have e:(bs[i]?).getD true=bs[i]:=by rw [ad hib];rfl
  simp only [e] at hQ;exact cB hQ
 ·have e:((List.range its.toArray.size).all λ i=>(bs[i]?).getD true)=bs.all id:=by
   rw [au,hlen];cases hb:bs.all id with
   | true =>
    rw [cS] at hb ⊢;intro i hi;have hi:=cm.mp hi;rw [ad hi];exact hb _ (getElem_mem hi)
   | false =>
    rw [List.all_eq_false] at hb ⊢;obtain ⟨b,hbm,hbf⟩:=hb;obtain ⟨i,hi,rfl⟩:=List.getElem_of_mem hbm;exact ⟨i,cm.mpr hi,by rw [ad hi];exact hbf⟩
  rw [e];refine ⟨.bl (bs.all id),H,I.kept (t':=tk) (λ b o eb=>hk b o (λ hm=>?_) (ai _ eb)),rfl,q⟩;rw [ar.mp hm] at eb;exact cc _ (ax eb)
end
end L2
namespace L2
open PySem PySem.Spec PySem.Calls PyProof.Rows
theorem vK:∀ {us:List Value} {ns:List Int},IntsAre us ns->Vals (ns.map V.int) us
 | _,_,.nil=>.nil
 | _,_,.cons n t h=>.cons ⟨t,rfl⟩ (vK h)
section
variable {X:Cx}
theorem zch:CallR X (.builtin "sorted") (λ xs H Q=>∃ p,∃ ns:List Int,xs=[.ref p]/\SqL X.K H p (ns.map V.int)/\ns.length < 64 /\
  ∀ (ms:List Int) l,ms.Perm ns->ms.Pairwise (·<=·)->H l=none->Q (.ref l) (upd H l (.lst (ms.map V.int)))):=by
 intro pins s σ H xs us Q I r h;obtain ⟨p,ns,rfl,hp,h64,q⟩:=h;obtain ⟨u,rfl,rx⟩:=ZR r;cases rx;obtain ⟨its,rv,hl,hz⟩:=I.list hp;have hlen:its.length=ns.length:=by have:=rv.length;rw [ae] at this;exact this.symm
 refine sorted_ints hl.isList (zam rv) (by omega) λ out ms a1 a2 a3=>?_;obtain ⟨e,he⟩:=sortedAll_at s.heap its out;exact ⟨.ref _,_,I.laid (a:=s.heap.objs.size + 1) (o:=.lst (ms.map V.int)) (t':=s.toks) (λ b o h=>sortedAll_old h) (bX _) ⟨by rw [ae,a2.length_eq];exact bL (zh (by omega)),out.toList,e,vK a1,by simpa using he⟩,rfl,q ms _ a2 a3 (I.hok.fresh (bX _))⟩
end
structure FunD (K:PySem.W.Frag) (x qual:Str) (st:Stmt) (f:Addr) (fd:FuncData):Prop where
 ex:∃ (oc:Value) (od:Option Addr) (dV kV doc pm:Value) (an:Option Addr) (cdv ct:Value) (osl:Array (Option Value)),
  fd=PySem.W.fnOf x qual (qd st) (zZ st) (zd st) dV kV doc pm an cdv ct/\K.lookup f=some ⟨oc,od,.func fd,osl⟩/\PySem.W.codeIn K cdv qual=true
 kp:PySem.W.keepIn K (.ref f)=true
section
variable {P:Program} {w:World} {K:PySem.W.Frag} {mg:Str->Option Value} {base:Heap}
theorem FunD.okx {x qual:Str} {st:Stmt} {f:Addr} {fd:FuncData} {N ps:List Str} {k:Nat} {sp:Sp} (F:FunD K x qual st f fd) (S:FnScope N ps (zd st)) (len:∀ vs H Q E,sp vs H Q E->vs.length=ps.length)
  (hbody:∀ (cdv:Value) (A:Around) (outer:List Env) (s:Shared) (H:Hp) (vs:List V) (Q:VK) (E:XK),Room k (A.deeper (envOfC qual (zd st) s.heap.objs.size f cdv))->sp vs H Q E ->
   ∃ t,PSs ((cxR P w K mg base N qual (zd st) f cdv A outer s H E).exg λ cls _ H'=>E cls none H') (zZ st) t/\t { nx:=λ _ H'=>Q .non H',rt:=Q } (start N vs) H):FnOk P w K mg base (CXr P w) (k + 1) f fd ps sp:=by
 obtain ⟨oc,od,dV,kV,doc,pm,an,cdv,ct,osl,rfl,lk,hcd⟩:=F.ex;refine zdu lk hcd S len λ A outer s H vs Q E hr hsp=>?_;obtain ⟨t,h,q⟩:=hbody cdv A outer s H vs Q E hr hsp;refine ⟨t,λ pins s σ H' D I hw=>?_,q⟩;refine a9 (h pins s σ H' D (I.wish _) hw) (λ _ _ z=>z.unwish) λ e s' z=>?_;refine af (a9 (show wpAny _ _ _ _ _ _ from z) (λ _ s1 y1=>a9 y1 (λ _ s'' y=>?_) λ _ _ y=>y.elim) λ _ _ y=>y.elim);obtain ⟨a,cls,σ2,H2,rfl,J,xx,g⟩:=y;exact ⟨a,cls,H2,rfl,J.os,J.bare,J.base,J.hok,xx.less (λ p hp=>absurd hp (by simp)),g⟩
structure FD (K:PySem.W.Frag) (mg:Str->Option Value) (x:Str) (st:Stmt) (ps:List Str) (dvs:List V):Prop where
 ex:∃ f fd ds,FunD K x x st f fd/\mg x=some (.ref f)/\Binds K fd ps []/\Binds K fd ps ds/\Vals dvs ds
theorem FD.cal {x:Str} {st:Stmt} {ps:List Str} {dvs:List V} {k:Nat} {sp:Sp} (h:FD K mg x st ps dvs) (ok:∀ {f fd},FunD K x x st f fd->FnOk P w K mg base (CXr P w) k f fd ps sp) :
  Cal P w K mg base x k ps [] sp:=by
 obtain ⟨f,fd,_,F,m,b,_⟩:=h.ex;exact ⟨f,fd,[],ok F,m,F.kp,b,.nil⟩
end
end L2
namespace L2
open PySem PySem.Spec PySem.Calls PyProof.Rows
theorem zae:typeLookup (.type "list_reverseiterator") "__len__"=pure none:=by rw [typeLookup_type,builtinLookup_eq_fast];kernel_rfl
theorem zdc:typeLookup (.type "list_reverseiterator") "__length_hint__"=pure (some (.builtin "list_reverseiterator.__length_hint__")):=by rw [typeLookup_type,builtinLookup_eq_fast];kernel_rfl
theorem Xn:isSubtype (.type "list_reverseiterator") (.type "list_reverseiterator")=pure true:=by rw [isSubtype_type];kernel_rfl
section
variable {prog:Program} {w:World} {A:Around} {E:Value->Shared->Prop} {s:Shared} {R:Result->Shared->Prop}
theorem zdo {D l:Addr} {i:Int} {Q:Bool->Shared->Prop} (hit:s.heap.IsRevIter D l i) (h:Q false s):wpAny (model prog w) A (Builtin.List.listLengthHint (.ref D)) Q E s:=by
 unfold Builtin.List.listLengthHint;refine af (wpAny_specialOf hit.typeIs zae ?_);show wpAny _ _ (specialOf (Value.ref D) (Str.ofString "__length_hint__") >>= _) _ _ _
 refine af (wpAny_specialOf hit.typeIs zdc ?_);generalize hid:("list_reverseiterator.__length_hint__":String)=id0
 wp_delta
 rw [show splitId id0=some ("list_reverseiterator","__length_hint__") from by subst hid;decide +kernel];subst hid;refine af (wpAny_isInstance (T:="list_reverseiterator") (b:=true) hit.typeIs Xn ?_);refine dc (λ hab=>absurd hab (by decide)) (λ _=>?_);refine dc (λ _=>?_) (λ hab=>absurd (by decide +kernel) hab);exact dc (λ hab=>absurd hab (by decide +kernel)) (λ _=>aM h)
theorem zat {D l:Addr} {items:Array Value} (hh:A.handled=none) (hne:l≠D) (hn:items.size<=sizeLine) (S:Addr) (res:Value) (c₀:Nat) (hit:s.heap.IsRevIter D l ((items.size:Int) - 1)) (hl:s.heap.IsList l items) (hSD:S≠D) (hSl:S≠l)
  (hS:s.heap.get? S=some { cls:=.type "list",data:=.seq #[] c₀ })
  (hR:∀ h' tk acc' c',(∀ b o,b≠S->b≠D->s.heap.get? b=some o->h'.get? b=some o)->h'.get? S=some { cls:=.type "list",dict:=none,data:=.seq acc' c',slots:=#[] }->ItemsOf (λ i v=>items[items.size - 1 - i]?=some v) acc' items.size->R (.ok (.ret res)) { s with heap:=h',toks:=tk }) :
  wpAny (model prog w) A.in1 (Builtin.List.listExtendWith (.ref S) (.ref D) res)
   (λ fin s'=>match fin with | .done f=>R (.ok f) s' | .again c'=>c'.quiet=true/\codeAny (model prog w) A c' R s') (λ e s'=>R (.error e) s') s:=by
 have W:=(Walks.listRev (prog:=prog) (w:=w) (A:=A.in1) hh D l hne items).toS;have hSf:S ∉ [D,l]:=λ hm=>by
  rcases ay.mp hm with e|hm
  ·exact hSD e
  ·exact hSl (ar.mp hm)
 unfold Builtin.List.listExtendWith;refine af (wpAny_typeOf hit.typeIs ?_);have h1:Builtin.List.listSameRef (.ref S) (.ref D)=false:=by simp [Builtin.List.listSameRef,hSD]
 have h2:(Value.type "list_reverseiterator" == Value.type "list")=false:=by decide
 have h3:(Value.type "list_reverseiterator" == Value.type "tuple")=false:=by decide
 simp only [h1,h2,h3,Bool.or_false,dj,dJ];refine af (wpAny_pyIter_revIter hit ?_);refine af (cY (zdo hit ?_));refine dc (λ hab=>absurd hab (by decide)) (λ _=>aM ⟨plainId_quiet F.plain_extend_loop _,?_⟩);have hit0:s.heap.IsRevIter D l ((items.size:Int) - 1 - ((0:Nat):Int)):=by simpa using hit
 refine codeAny_extend_loopS W hn S hSf res items.size 0 _ #[] c₀ rfl (cj _) ⟨cj _,hit0,hl⟩ hS (ItemsOf.nil _) λ s' acc' c' hm hS' hacc=>?_;rw [Moved.eq_with hm];refine hR s'.heap s'.toks acc' c' (λ b o hb hd e=>hm.heap b o (λ hmem=>?_) e) hS' hacc;rcases ay.mp hmem with e'|hmem
 ·exact hb e'
 ·exact hd (ar.mp hmem)
theorem JJ {D l:Addr} {items:Array Value} (hh:A.handled=none) (hne:l≠D) (hn:items.size<=sizeLine) (S:Addr) (hit:s.heap.IsRevIter D l ((items.size:Int) - 1)) (hl:s.heap.IsList l items) (hSD:S≠D) (hSl:S≠l)
  (hS:s.heap.get? S=some { cls:=.type "list",data:=.seq #[] })
  (hR:∀ h' tk acc' c',(∀ b o,b≠S->b≠D->s.heap.get? b=some o->h'.get? b=some o)->h'.get? S=some { cls:=.type "list",dict:=none,data:=.seq acc' c',slots:=#[] }->ItemsOf (λ i v=>items[items.size - 1 - i]?=some v) acc' items.size->R (.ok (.ret .none)) { s with heap:=h',toks:=tk }) :
  wpAny (model prog w) A.in1 (Builtin.«list.__init__» ⟨[.ref S,.ref D],[]⟩)
   (λ fin s'=>match fin with | .done f=>R (.ok f) s' | .again c'=>c'.quiet=true/\codeAny (model prog w) A c' R s') (λ e s'=>R (.error e) s') s:=by
 show wpAny _ A.in1 (do let old <- Builtin.List.listItems (.ref S);Builtin.List.listUpdate (.ref S) (λ _=>#[]);letGo old.toList.reverse;Builtin.List.listExtendWith (.ref S) (.ref D) .none) _ _ s
 refine af ?_;unfold Builtin.List.listItems;refine af (bJ hS rfl (aM ?_));show wpAny _ A.in1 (updateSeq S (λ _=>#[]) >>= λ _=>letGo (#[]:Array Value).toList.reverse >>= λ _=>Builtin.List.listExtendWith (.ref S) (.ref D) .none) _ _ s
 refine af (wpAny_updateSeq hS rfl ?_);have hS₂:=bM (Obj.mapSeq (λ _=>(#[]:Array Value))) hS rfl;have oth:∀ b o,b≠S->s.heap.get? b=some o->(s.heap.update S (Obj.mapSeq (λ _=>(#[]:Array Value)))).get? b=some o :=
  λ b o hb e=>(a8 _ _ (aX hb)).trans e
 refine af (dY ?_);refine zat (items:=items) (l:=l) hh hne hn S .none _ (hit.at λ o e=>oth _ _ (aX hSD) e) (hl.at λ o e=>oth _ _ (aX hSl) e) hSD hSl hS₂ λ h' tk acc' c' hk hS' hacc=>?_;exact hR h' tk acc' c' (λ b o hb hd e=>hk b o hb hd (oth b o hb e)) hS' hacc
theorem JL {D l:Addr} {items:Array Value} {Q:Value->Shared->Prop} (hh:A.handled=none) (hne:l≠D) (hn:items.size<=sizeLine) (hit:s.heap.IsRevIter D l ((items.size:Int) - 1)) (hl:s.heap.IsList l items)
  (hQ:∀ h' tk acc' c',(∀ b o,b≠D->s.heap.get? b=some o->h'.get? b=some o)->h'.get? s.heap.objs.size=some { cls:=.type "list",dict:=none,data:=.seq acc' c',slots:=#[] }->ItemsOf (λ i v=>items[items.size - 1 - i]?=some v) acc' items.size->Q (.ref s.heap.objs.size) { s with heap:=h',toks:=tk }) :
  wpAny (model prog w) A (call (.type "list") [.ref D]) Q E s:=by
 have hlD:D < s.heap.objs.size:=by obtain ⟨o,e,_⟩:=hit;exact ax e
 have hll:l < s.heap.objs.size:=by obtain ⟨o,e,_⟩:=hl;exact ax e
 refine callType_codes (Q₁:=λ obj s₁=>obj=.ref s.heap.objs.size/\s₁={ s with heap:=s.heap.push { cls:=.type "list",data:=.seq #[] } }) F.called_list (F.typeCall_list_1 _) F.entry_list_init
  (code_list_new _ ⟨rfl,rfl⟩) λ obj s₁ h₁=>?_
 obtain ⟨rfl,rfl⟩:=h₁;have hS:(s.heap.push { cls:=.type "list",data:=.seq #[] }).get? s.heap.objs.size=some { cls:=.type "list",data:=.seq #[] }:=aD _ rfl;refine ⟨⟨_,hS,rfl⟩,F.args_list_init_2 _ _,JJ (A:=A.in1) (l:=l) hh hne hn _ (hit.at λ o e=>ai _ e) (hl.at λ o e=>ai _ e) (ck hlD) (ck hll) hS λ h' tk acc' c' hk hS' hacc=>?_⟩;exact ⟨rfl,hQ h' tk acc' c' (λ b o hb e=>hk b o (aP (ax e)) hb (ai _ e)) hS' hacc⟩
end
section
variable {X:Cx} {a:Expr} {ta:TA} {p p2 pos pos2:Pos}
theorem zcp {xs:List V} {its:List Value} {acc:Array Value} (r:Vals xs its) (h:ItemsOf (λ i v=>its.toArray[its.toArray.size - 1 - i]?=some v) acc its.toArray.size):Vals xs.reverse acc.toList:=by
 have e:acc.toList=its.reverse:=by
  apply dH;intro i;have hsz:acc.toList.length=its.length:=by simpa using h.1
  by_cases hi:i < its.length
  ·have hi':i < acc.toList.length:=by omega
   rw [ad hi',dQ hi];have:=h.2 i (acc.toList[i]) (by rw [<- eE,ad hi']);simp at this;exact this.symm
  ·rw [br (by omega),br (by simp;omega)]
 rw [e];exact r.reverse
def zfW (X:Cx) (ta:TA):TE:=λ σ H Q=>X.mg "list"=none/\X.mg "reversed"=none/\ta σ H λ vs H1=>∃ l xs,vs=[.ref l]/\SqL X.K H1 l xs/\∀ q,H1 q=none->Q (.ref q) (upd H1 q (.lst xs.reverse))
theorem Vx:bootBuiltins "reversed"=some (.type "reversed"):=by decide +kernel
theorem zeb (hc:X.calm=true) (ha:PA X [a] ta) (hg:Gl X "list":=by rfl) (hg2:Gl X "reversed":=by rfl)
  (hs:starEach [Expr.Call (.Name "reversed" p2) [a] [] pos2] X.env=[(false,eval (Expr.Call (.Name "reversed" p2) [a] [] pos2) X.env)]:=by rfl) (hs2:starEach [a] X.env=[(false,eval a X.env)]:=by rfl) :
  PE X (.Call (.Name "list" p) [.Call (.Name "reversed" p2) [a] [] pos2] [] pos) (zfW X ta):=by
 intro pins s σ H Q I h;refine Call_ (wc I hg h.1 xr (aU ?_ hs rfl));rw [hs];refine Calls.spliced_cons (Call_ (wc I hg2 h.2.1 Vx (aU (wu (ha pos2 pins s σ H _ I h.2.2) λ us s1 vs H1 I1 r1 q1=>?_) hs2 rfl)));obtain ⟨l,xs,e,hq,q⟩:=q1;subst e;obtain ⟨u,rfl,rx⟩:=ZR r1;cases rx;obtain ⟨its,rv,hl,hz⟩:=I1.list hq;have hll:l < s1.heap.objs.size:=by obtain ⟨o,e,_⟩:=hl.isList;exact ax e
 have hlen:=rv.length;refine call_reversed_list hl.isList ?_;refine Calls.spliced_nil ?_;refine JL (l:=l) (items:=its.toArray) (I1.ok.hd hc) (aP hll) (by rw [au,<- hlen];exact hz) ⟨_,aD _ rfl,rfl,rfl⟩ (hl.isList.push _) λ h' tk acc' c' hk hS hit=>?_;refine ⟨.ref _,_,I1.laid (o:=.lst xs.reverse) (t':=tk) (λ b o e=>hk b o (aP (ax e)) (ai _ e)) ?_ ⟨?_,acc'.toList,c',zcp rv hit,by simpa using hS⟩,rfl,q _ (I1.hok.fresh ?_)⟩
 ·simp only [bB];exact bX _
 ·rw [dq];exact hz
 ·simp only [bB];exact bX _
end
section
variable {X:Cx}
end
end L2
namespace L2
open PySem PySem.Spec PyProof.Rows
inductive D where
 | non|bl (b:Bool)|int (i:Int)|str (x:Str)|lst (xs:List D)|tup (xs:List D)|ob (C:Addr) (fs:List (Str × D))
inductive Rep (H:Hp) (p:Addr->Prop):V->D->Prop where
 | non:Rep H p .non .non
 | bl {b:Bool}:Rep H p (.bl b) (.bl b)
 | int {i:Int}:Rep H p (.int i) (.int i)
 | str {x:Str}:Rep H p (.str x) (.str x)
 | lst {l:Addr} {vs:List V} {ds:List D}:p l->H l=some (.lst vs)->vs.length=ds.length->(∀ (i:Nat) v d,vs[i]?=some v->ds[i]?=some d->Rep H p v d)->Rep H p (.ref l) (.lst ds)
 | tup {l:Addr} {vs:List V} {ds:List D}:p l->H l=some (.tup vs)->vs.length=ds.length->(∀ (i:Nat) v d,vs[i]?=some v->ds[i]?=some d->Rep H p v d)->Rep H p (.ref l) (.tup ds)
 | ob {l C dx:Addr} {fs:List (Str × V)} {ds:List (Str × D)}:p l->H l=some (.ins C dx fs)->fs.map (·.1)=ds.map (·.1)->(∀ (i:Nat) f g,fs[i]?=some f->ds[i]?=some g->Rep H p f.2 g.2)->Rep H p (.ref l) (.ob C ds)
theorem Rep.keep {H H':Hp} {p q:Addr->Prop} (s:∀ b o,p b->H b=some o->q b/\H' b=some o) {v:V} {d:D} (h:Rep H p v d):Rep H' q v d:=by
 induction h with
 | non=>exact .non
 | bl=>exact .bl
 | int=>exact .int
 | str=>exact .str
 | lst pl hl e _ ih=>exact .lst (s _ _ pl hl).1 (s _ _ pl hl).2 e ih
 | tup pl hl e _ ih=>exact .tup (s _ _ pl hl).1 (s _ _ pl hl).2 e ih
 | ob pl hl e _ ih=>exact .ob (s _ _ pl hl).1 (s _ _ pl hl).2 e ih
structure Reps (H:Hp) (p:Addr->Prop) (vs:List V) (ds:List D):Prop where
 len:vs.length=ds.length
 g:∀ (i:Nat) v d,vs[i]?=some v->ds[i]?=some d->Rep H p v d
section
variable {H H':Hp} {p q:Addr->Prop} {vs us:List V} {ds es:List D} {v:V} {d:D}
theorem Reps.keep (s:∀ b o,p b->H b=some o->q b/\H' b=some o) (h:Reps H p vs ds):Reps H' q vs ds:=⟨h.len,λ i v d a b=>(h.g i v d a b).keep s⟩
theorem Reps.nil:Reps H p [] []:=⟨rfl,λ i v d h=>by simp at h⟩
theorem Reps.cons (h:Rep H p v d) (k:Reps H p vs ds):Reps H p (v :: vs) (d :: ds):=⟨by simp [k.len],λ i u e a b=>by
 cases i with
 | zero =>
  have a:v=u:=by simpa using a
  have b:d=e:=by simpa using b
  rw [<- a,<- b];exact h
 | succ i=>exact k.g i u e (by simpa using a) (by simpa using b)⟩
theorem Reps.one (h:Rep H p v d):Reps H p [v] [d]:=.cons h .nil
theorem Reps.append (h:Reps H p vs ds) (k:Reps H p us es):Reps H p (vs ++ us) (ds ++ es):=by
 refine ⟨by rw [aQ,aQ,h.len,k.len],λ i v r e1 e2=>?_⟩;by_cases hi:i < vs.length
 ·rw [aJ hi] at e1;rw [aJ (by rw [<- h.len];exact hi)] at e2;exact h.g i v r e1 e2
 ·rw [aE (by omega)] at e1;rw [aE (by rw [<- h.len];omega),<- h.len] at e2;exact k.g _ v r e1 e2
theorem Reps.at (h:Reps H p vs ds) {i:Nat} (e:vs[i]?=some v):∃ d,ds[i]?=some d/\Rep H p v d:=by
 have hi:=(aa.mp e).1;have e2:ds[i]?=some (ds[i]'(by rw [<- h.len];exact hi)):=ad _;exact ⟨_,e2,h.g i v _ e e2⟩
theorem Reps.of (h:Reps H p vs ds) {i:Nat} (e:ds[i]?=some d):∃ v,vs[i]?=some v/\Rep H p v d:=by
 have hi:=(aa.mp e).1;have e2:vs[i]?=some (vs[i]'(by rw [h.len];exact hi)):=ad _;exact ⟨_,e2,h.g i _ d e2 e⟩
theorem Reps.take (h:Reps H p vs ds) (n:Nat):Reps H p (vs.take n) (ds.take n):=⟨by rw [aI,aI,h.len],λ i v d a b=>by
 rw [List.getElem?_take] at a b;by_cases hn:i < n
 ·rw [aA hn] at a b;exact h.g i v d a b
 ·rw [aw hn] at a;cases a⟩
theorem Reps.drop (h:Reps H p vs ds) (n:Nat):Reps H p (vs.drop n) (ds.drop n):=⟨by rw [cU,cU,h.len],λ i v d a b=>by
 rw [List.getElem?_drop] at a b;exact h.g _ v d a b⟩
theorem Reps.reverse (h:Reps H p vs ds):Reps H p vs.reverse ds.reverse:=⟨by rw [dq,dq,h.len],λ i v d a b=>by
 have hi:i < vs.length:=by have:=(aa.mp a).1;rw [dq] at this;exact this
 rw [dQ hi] at a;rw [dQ (by rw [<- h.len];exact hi),<- h.len] at b;exact h.g _ v d a b⟩
theorem Reps.mk' {l:Addr} (h:Reps H p vs ds) (pl:p l) (e:H l=some (.lst vs)):Rep H p (.ref l) (.lst ds):=.lst pl e h.len h.g
theorem Reps.mkT {l:Addr} (h:Reps H p vs ds) (pl:p l) (e:H l=some (.tup vs)):Rep H p (.ref l) (.tup ds):=.tup pl e h.len h.g
theorem Rep.lst' (h:Rep H p v (.lst ds)):∃ l us,v=.ref l/\p l/\H l=some (.lst us)/\Reps H p us ds:=by
 cases h with|lst a b c e=>exact ⟨_,_,rfl,a,b,c,e⟩
theorem Rep.tup' (h:Rep H p v (.tup ds)):∃ l us,v=.ref l/\p l/\H l=some (.tup us)/\Reps H p us ds:=by
 cases h with|tup a b c e=>exact ⟨_,_,rfl,a,b,c,e⟩
theorem vC {f:Str}:∀ {fs:List (Str × V)} {gs:List (Str × D)},fs.map (·.1)=gs.map (·.1)->(∀ (i:Nat) x y,fs[i]?=some x->gs[i]?=some y->Rep H p x.2 y.2) ->
  (∀ d,gs.lookup f=some d->∃ u,fs.lookup f=some u/\Rep H p u d)/\(gs.lookup f=none->fs.lookup f=none)
 | [],[],_,_=>⟨λ d h=>by simp at h,λ _=>rfl⟩
 | [],_ :: _,e,_=>by simp at e
 | _ :: _,[],e,_=>by simp at e
 | (a,u) :: fs,(b,c) :: gs,e,r=>by
  have e1:a=b:=by simpa using (List.cons.inj e).1
  subst e1;have ih:=vC (f:=f) (fs:=fs) (gs:=gs) (List.cons.inj e).2 λ i x y hx hy=>r (i + 1) x y (by simpa using hx) (by simpa using hy);by_cases hf:f=a
  ·have hb:(f == a)=true:=bx.mpr hf;refine ⟨λ d h=>?_,λ h=>?_⟩
   ·simp only [List.lookup,hb] at h ⊢;cases h;exact ⟨_,rfl,r 0 (a,u) (a,c) rfl rfl⟩
   ·simp only [List.lookup,hb] at h;cases h
  ·have hb:(f == a)=false:=a7.mpr hf;simp only [List.lookup,hb];exact ih
theorem Rep.ob' {C:Addr} {gs:List (Str × D)} (h:Rep H p v (.ob C gs)):∃ l dx fs,v=.ref l/\p l/\H l=some (.ins C dx fs)/\(∀ f d,gs.lookup f=some d->∃ u,fs.lookup f=some u/\Rep H p u d)/\(∀ f,gs.lookup f=none->fs.lookup f=none):=by
 cases h with|ob a b c e=>exact ⟨_,_,_,rfl,a,b,λ f=>(vC c e).1,λ f=>(vC c e).2⟩
abbrev D.ints (ns:List Int):D:=.lst (ns.map D.int)
theorem reps_ints:∀ {ns:List Int},Reps H p (ns.map V.int) (ns.map D.int)
 | []=>.nil
 | _ :: _=>.cons .int reps_ints
theorem Qn:∀ {ns:List Int} {vs:List V},Reps H p vs (ns.map D.int)->vs=ns.map V.int
 | [],[],_=>rfl
 | [],_ :: _,h=>by have:=h.len;simp at this
 | _ :: _,[],h=>by have:=h.len;simp at this
 | n :: ns,v :: vs,h=>by
  have h1:=h.g 0 v (.int n) rfl rfl;have h2:Reps H p vs (ns.map D.int):=⟨by have:=h.len;simpa using this,λ i u d a b=>h.g (i + 1) u d (by simpa using a) (by simpa using b)⟩;cases h1;rw [dm,Qn h2]
theorem Rep.ints' {ns:List Int} (h:Rep H p v (.ints ns)):∃ l,v=.ref l/\p l/\H l=some (.lst (ns.map V.int)):=by
 obtain ⟨l,us,e,a,b,c⟩:=h.lst';rw [Qn c] at b;exact ⟨l,e,a,b⟩
theorem qe {l:Addr} {ns:List Int} (pl:p l) (e:H l=some (.lst (ns.map V.int))):Rep H p (.ref l) (.ints ns):=reps_ints.mk' pl e
end
def Off (ms:List Addr):Addr->Prop:=λ b=>b ∉ ms
def Fr (ms:List Addr) (H H':Hp):Prop:=∀ b o,b ∉ ms->H b=some o->H' b=some o
section
variable {H H' H2:Hp} {ms ns:List Addr} {x:Addr} {o:HO} {v:V} {d:D} {vs:List V} {ds:List D}
theorem Fr.refl:Fr ms H H:=λ _ _ _ h=>h
theorem Fr.trans (a:Fr ms H H') (b:Fr ms H' H2):Fr ms H H2:=λ c o n h=>b c o n (a c o n h)
theorem Fr.more (a:Fr ms H H') (s:∀ b,b∈ms->b∈ns):Fr ns H H':=λ b o n h=>a b o (λ z=>n (s b z)) h
theorem Same.fr (a:Same H H'):Fr ms H H':=λ b o _ h=>a b o h
theorem qj (h:x∈ms):Fr ms H (upd H x o):=λ b u n hb=>by
 rw [upd_ne (λ z=>n (by rw [z];exact h))];exact hb
theorem zaq (h:H x=none):Fr ms H (upd H x o):=(same_upd' h).fr where
 same_upd' {H:Hp} {x:Addr} {o:HO} (h:H x=none):Same H (upd H x o):=λ b u hb=>by rw [upd_ne (ne_of_none hb h)];exact hb
theorem Fr.same (a:Fr ms H H') (h:∀ m∈ms,H m=none):Same H H':=λ b o hb=>a b o (λ z=>by rw [h b z] at hb;cases hb) hb
theorem Rep.fr (h:Rep H (Off ms) v d) (s:Fr ms H H'):Rep H' (Off ms) v d:=h.keep λ b o pb hb=>⟨pb,s b o pb hb⟩
theorem Reps.fr (h:Reps H (Off ms) vs ds) (s:Fr ms H H'):Reps H' (Off ms) vs ds:=h.keep λ b o pb hb=>⟨pb,s b o pb hb⟩
theorem Rep.more (h:Rep H (Off ms) v d) (s:∀ b,b∈ns->b∈ms\/H b=none):Rep H (Off ns) v d:=h.keep λ b o pb hb=>⟨λ z=>(s b z).elim pb (λ q=>by rw [q] at hb;cases hb),hb⟩
theorem Reps.more (h:Reps H (Off ms) vs ds) (s:∀ b,b∈ns->b∈ms\/H b=none):Reps H (Off ns) vs ds:=h.keep λ b o pb hb=>⟨λ z=>(s b z).elim pb (λ q=>by rw [q] at hb;cases hb),hb⟩
theorem Rep.same (h:Rep H (Off ms) v d) (s:Same H H'):Rep H' (Off ms) v d:=h.fr s.fr
theorem Reps.same (h:Reps H (Off ms) vs ds) (s:Same H H'):Reps H' (Off ms) vs ds:=h.fr s.fr
theorem Rep.ahead (h:Rep H (Off []) v d) (s:Same H H') (n:∀ m∈ms,H m=none):Rep H' (Off ms) v d:=h.keep λ b o _ hb=>⟨(λ z=>nomatch (n b z).symm.trans hb),s b o hb⟩
theorem Reps.ahead (h:Reps H (Off []) vs ds) (s:Same H H') (n:∀ m∈ms,H m=none):Reps H' (Off ms) vs ds:=h.keep λ b o _ hb=>⟨(λ z=>nomatch (n b z).symm.trans hb),s b o hb⟩
theorem Rep.all {p:Addr->Prop} (h:Rep H p v d):Rep H (Off []) v d:=h.keep λ b o _ hb=>⟨(λ z=>nomatch z),hb⟩
theorem Reps.all {p:Addr->Prop} (h:Reps H p vs ds):Reps H (Off []) vs ds:=h.keep λ b o _ hb=>⟨(λ z=>nomatch z),hb⟩
end
theorem fd_small {i j:Int} (h1:0 < j) (h2:j < 1000000):CFd i j:=fd_ok h1 (aN (show j.natAbs < 2 ^ 20 by omega) (Nat.pow_le_pow_right (by decide) (by decide)))
theorem QO {α:Type} {xs:List α} {k:Int} (h0:0<=k) (h1:k < xs.length):seqIndex? k xs.length=some k.toNat:=by
 unfold seqIndex?;have:¬ k < 0:=by omega
 simp [this,h0,h1]
theorem qB {K:PySem.W.Frag} {H H':Hp} {l:Addr} {xs:List V} (s:Same H H') (h:SqL K H l xs):SqL K H' l xs:=s.seq h
def del (H:Hp) (x:Addr):Hp:=λ b=>if b=x then none else H b
section
variable {K:PySem.W.Frag} {H:Hp} {Q:VK} {p:Addr->Prop} {v:V} {d:D} {ds:List D} {f:Str}
theorem zd7 {C:Addr} {gs:List (Str × D)} {R:V->Prop} (h:Rep H p v (.ob C gs)) (c:Cls K C) (n:NoAttr K C f) (e:gs.lookup f=some d) (q:∀ u,Rep H p u d->R u) :
  ∃ a C dx fs u,v=.ref a/\H a=some (.ins C dx fs)/\Cls K C/\NoAttr K C f/\fs.lookup f=some u/\R u:=by
 obtain ⟨l,dx,fs,rfl,_,a,b,_⟩:=h.ob';obtain ⟨u,e1,r⟩:=b f d e;exact ⟨l,C,dx,fs,u,rfl,a,c,n,e1,q u r⟩
theorem zeR {vs:List V} {i:Int} (h:Reps H p vs ds) (e:atI ds i=some d):∃ u,atI vs i=some u/\Rep H p u d:=by
 unfold atI at e ⊢;rw [h.len];cases z:ixN ds.length i with
 | none=>rw [z] at e;cases e
 | some j=>rw [z] at e;exact h.of (i:=j) e
end
theorem qM {H H':Hp} {p:Addr->Prop} {v:V} {d:D} (h:Rep H p v d) (s:Same H H'):Rep H' p v d:=h.keep λ b o pb hb=>⟨pb,s b o hb⟩
end L2
namespace L2
open PySem PySem.Spec PyProof.Rows
section
variable {X:Cx}
def zf5 (K:PySem.W.Frag):R2:=λ x y H Q=>∃ p xs i v,x=.ref p/\y=.int i/\SqL K H p xs/\0<=i/\atI xs i=some v/\Q v H
theorem Vg:zgo X (zf5 X.K):=by
 intro pins s σ H x y v u Q I rx ry h;obtain ⟨p,xs,i,z,rfl,rfl,hq,h0,he,q⟩:=h;cases rx;obtain ⟨t,rfl⟩:=ry;obtain ⟨its,r,pl,hz⟩:=I.list hq;obtain ⟨j,h1,h2,h3,h4,h5⟩:=Qs he;obtain ⟨w,ew,rw'⟩:=r.get h2;have hl:=r.length;have hn:=vD;have hj:i.toNat=j:=by
  rw [d5 h0 h5] at h1;exact aS h1
 exact wpAny_getItem_list pl.isList h0 (by omega) (by rw [hj];simpa using ew) ⟨z,H,I,rw',q⟩
end
inductive Hard:D->Prop where
 | non:Hard .non
 | bl {b:Bool}:Hard (.bl b)
 | int {i:Int}:Hard (.int i)
 | str {x:Str}:Hard (.str x)
 | tup {ds:List D}:(∀ (i:Nat) d,ds[i]?=some d->Hard d)->Hard (.tup ds)
theorem Rep.hard {H:Hp} {p q:Addr->Prop} {v:V} {d:D} (h:Rep H p v d) (hd:Hard d) (k:∀ b xs,p b->H b=some (.tup xs)->q b):Rep H q v d:=by
 induction h with
 | non=>exact .non
 | bl=>exact .bl
 | int=>exact .int
 | str=>exact .str
 | lst pl hl e _ ih=>cases hd
 | tup pl hl e _ ih =>
  cases hd with
  | tup hd=>exact .tup (k _ _ pl hl) hl e λ i v d a b=>ih i v d a b (hd i d b)
 | ob pl hl e _ ih=>cases hd
theorem zc4 {as:List Addr} (nd:as.Nodup) {i j:Nat} {b:Addr} (h1:as[i]?=some b) (h2:as[j]?=some b):i=j:=by
 obtain ⟨hi,e1⟩:=aa.mp h1;obtain ⟨hj,e2⟩:=aa.mp h2;have P:=List.pairwise_iff_getElem.mp nd;rcases Nat.lt_trichotomy i j with h|h|h
 ·exact absurd (e1.trans e2.symm) (P i j hi hj h)
 ·exact h
 ·exact absurd (e2.trans e1.symm) (P j i hj hi h)
structure NL (H:Hp) (p:Addr->Prop) (G:Addr) (as:List Addr) (xss:List (List D)):Prop where
 out:H G=some (.lst (as.map V.ref))
 len:as.length=xss.length
 nd:as.Nodup
 nG:G ∉ as
 g:∀ (i:Nat) b xs,as[i]?=some b->xss[i]?=some xs->∃ vs,H b=some (.lst vs)/\Reps H p vs xs
section
variable {H H':Hp} {p q:Addr->Prop} {G:Addr} {as:List Addr} {xss:List (List D)}
theorem NL.keep (h:NL H p G as xss) (s:∀ b o,(b=G\/b∈as\/p b)->H b=some o->H' b=some o) (sp:∀ b,p b->H b≠none->q b):NL H' q G as xss:=by
 refine ⟨s _ _ (.inl rfl) h.out,h.len,h.nd,h.nG,λ i b xs e1 e2=>?_⟩;obtain ⟨vs,h1,h2⟩:=h.g i b xs e1 e2;exact ⟨vs,s _ _ (.inr (.inl (ah e1))) h1,h2.keep λ c o pc hc=>⟨sp c pc (by rw [hc];intro z;cases z),s c o (.inr (.inr pc)) hc⟩⟩
theorem NL.same (h:NL H p G as xss) (s:Same H H'):NL H' p G as xss:=h.keep (λ b o _ hb=>s b o hb) λ _ hp _=>hp
theorem NL.at (h:NL H p G as xss) {i:Nat} {xs:List D} (e:xss[i]?=some xs):∃ b vs,as[i]?=some b/\H b=some (.lst vs)/\Reps H p vs xs:=by
 have hi:=(aa.mp e).1;have e2:as[i]?=some (as[i]'(by rw [h.len];exact hi)):=ad _;obtain ⟨vs,h1,h2⟩:=h.g i _ xs e2 e;exact ⟨_,vs,e2,h1,h2⟩
theorem V8 {H:Hp} {p:Addr->Prop} {G:Addr} (h:H G=some (.lst [])):NL H p G [] []:=⟨h,rfl,List.nodup_nil,by simp,λ i b xs e=>by simp at e⟩
theorem NL.rep (h:NL H p G as xss):Rep H (Off []) (.ref G) (.lst (xss.map D.lst)):=by
 refine .lst (λ z=>nomatch z) h.out (by rw [ae,ae,h.len]) λ i v d e1 e2=>?_;rw [ak,aq] at e1 e2;obtain ⟨b,e1,rfl⟩:=e1;obtain ⟨xs,e2,rfl⟩:=e2;obtain ⟨vs,h1,h2⟩:=h.g i b xs e1 e2;exact h2.all.mk' (λ z=>nomatch z) h1
theorem NL.put {i:Nat} {b:Addr} {vs:List V} {ys:List D} (h:NL H p G as xss) (e:as[i]?=some b) (np:¬ p b) (r:Reps H p vs ys):NL (upd H b (.lst vs)) p G as (xss.set i ys):=by
 have hb:=ah e;have nG:G≠b:=λ z=>h.nG (by rw [z];exact hb);have rk:∀ {us:List V} {zs:List D},Reps H p us zs->Reps (upd H b (.lst vs)) p us zs:=λ r=>r.keep λ c o pc hc=>⟨pc,by rw [upd_ne (λ z=>np (by rw [<- z];exact pc))];exact hc⟩;refine ⟨by rw [upd_ne nG];exact h.out,by rw [bT,h.len],h.nd,h.nG,λ j c xs e1 e2=>?_⟩;by_cases hj:j=i
 ·subst hj;rw [e] at e1;cases e1;have hl:j < xss.length:=by rw [<- h.len];exact (aa.mp e).1
  rw [ba hl] at e2;cases e2;exact ⟨vs,upd_same,rk r⟩
 ·rw [bg (aX hj)] at e2;have nc:c≠b:=λ z=>by
   subst z;exact hj (zc4 h.nd e1 e)
  obtain ⟨us,h1,h2⟩:=h.g j c xs e1 e2;exact ⟨us,by rw [upd_ne nc];exact h1,rk h2⟩
theorem NL.push {b:Addr} {vs:List V} {ys:List D} (h:NL H p G as xss) (hb:H b=some (.lst vs)) (nb:b ∉ as) (nG:b≠G) (np:¬ p G) (r:Reps H p vs ys):NL (upd H G (.lst (as.map V.ref ++ [.ref b]))) p G (as ++ [b]) (xss ++ [ys]):=by
 have rk:∀ {us:List V} {zs:List D},Reps H p us zs->Reps (upd H G (.lst (as.map V.ref ++ [.ref b]))) p us zs:=λ r=>r.keep λ c o pc hc=>⟨pc,by rw [upd_ne (λ z=>np (by rw [<- z];exact pc))];exact hc⟩;refine ⟨by rw [upd_same,aV];rfl,by simp [h.len],?_,?_,λ j c xs e1 e2=>?_⟩
 ·rw [nodup_append];refine ⟨h.nd,by simp,?_⟩;intro x hx y hy z;rw [ar.mp hy] at z;exact nb (by rw [<- z];exact hx)
 ·intro z;rcases az.mp z with z|z
  ·exact h.nG z
  ·exact nG (ar.mp z).symm
 ·by_cases hj:j < as.length
  ·rw [aJ hj] at e1;rw [aJ (by rw [<- h.len];exact hj)] at e2;obtain ⟨us,h1,h2⟩:=h.g j c xs e1 e2;have nc:c≠G:=λ z=>h.nG (by rw [<- z];exact ah e1);exact ⟨us,by rw [upd_ne nc];exact h1,rk h2⟩
  ·rw [aE (by omega)] at e1;rw [aE (by rw [<- h.len];omega),<- h.len] at e2;have hj0:j - as.length=0:=by have:=(aa.mp e1).1;simp at this;omega
   rw [hj0] at e1 e2;have e1:b=c:=by simpa using e1
   have e2:ys=xs:=by simpa using e2
   subst e1 e2;exact ⟨vs,by rw [upd_ne nG];exact hb,rk r⟩
end
def zR (H:Hp):Addr->Prop:=λ b=>∃ xs,H b=some (.tup xs)
theorem NL.tup {H H':Hp} {G:Addr} {as:List Addr} {xss:List (List D)} (h:NL H (zR H) G as xss) (s:∀ b o,(b=G\/b∈as\/zR H b)->H b=some o->H' b=some o):NL H' (zR H') G as xss :=
 h.keep s λ b hb _=>by
  obtain ⟨xs,hx⟩:=hb;exact ⟨xs,s b _ (.inr (.inr ⟨xs,hx⟩)) hx⟩
theorem NL.isl {H:Hp} {G:Addr} {as:List Addr} {p:Addr->Prop} {xss:List (List D)} (h:NL H p G as xss) {b:Addr} (hb:b∈G :: as):∃ vs,H b=some (.lst vs):=by
 rcases ay.mp hb with rfl|hb
 ·exact ⟨_,h.out⟩
 ·obtain ⟨j,hj⟩:=bD hb;obtain ⟨vs,h1,_⟩:=h.g j b _ hj (ad (by rw [<- h.len];exact (aa.mp hj).1));exact ⟨vs,h1⟩
theorem uc {P:Program} {w:World} {K:PySem.W.Frag} {mg:Str->Option Value} {base:Heap} {x:Str} {k:Nat} {G:List V->Sp->Prop} {ps:List Str} {dvs:List V} {sp:Sp} (c:Cal P w K mg base x k ps dvs sp) (h:G dvs sp):∃ ps dvs sp,Cal P w K mg base x k ps dvs sp/\G dvs sp:=⟨ps,dvs,sp,c,h⟩
theorem un2 {K:PySem.W.Frag} {H:Hp} {t:Addr} {x y:V} {G:V->V->Prop} (h:H t=some (.tup [x,y])) (q:G x y):∃ a xs,V.ref t=.ref a/\SqT K H a xs/\xs.length=2/\∃ v r,xs=v :: r/\∃ v' r',r=v' :: r'/\r'=[]/\G v v':=⟨t,_,rfl,SqT.of h,rfl,x,_,rfl,y,_,rfl,rfl,q⟩
theorem ra {K:PySem.W.Frag} {H:Hp} {a C dx:Addr} {fs:List (Str × V)} {v:V} {f:Str} {G:V->Prop} (h:H a=some (.ins C dx fs)) (c:Cls K C) (n:NoAttr K C f) (e:fs.lookup f=some v) (q:G v):∃ a' C dx fs v,V.ref a=.ref a'/\H a'=some (.ins C dx fs)/\Cls K C/\NoAttr K C f/\fs.lookup f=some v/\G v:=⟨a,C,dx,fs,v,rfl,h,c,n,e,q⟩
end L2
namespace L2
open PySem PySem.Spec PyProof.Rows
section
variable {prog:Program} {w:World} {A:Around} {E:Value->Shared->Prop} {s:Shared}
abbrev lit (l:Addr):Obj:={ cls:=.type (ZK true),data:=.fields #[.ref l,.int 0 0] }
end
section
variable {prog:Program} {w:World} {A:Around} {E:Value->Shared->Prop} {s:Shared}
end
end L2
namespace L2
open PySem PySem.Spec PyProof.Rows
section
variable {X:Cx} {pos pos':Pos} {x:Str}
theorem zp (i:Nat) {e:Expr} {te:TE} (hN:X.N.Nodup) (he:PE X e te) (hi:X.N[i]?=some x:=by rfl) (hx:Loc X.env.scope x:=by exact Or.inl rfl) (hs:swapsWith e (some (.Name x pos')) pos.line X.env=pure false:=by rfl)
  (hf:Or (X.fn x=true) (X.env.scope.names.lookup x=some .local):=by walk_at "p"):PS X (.Assign [.Name x pos'] e pos) (tAsg te (gName i)):=vB hN hi hx he hs hf
theorem zW (i:Nat) (hN:X.N.Nodup) (hi:X.N[i]?=some x:=by rfl) (hx:Loc X.env.scope x:=by exact Or.inl rfl) (hf:Or (X.fn x=true) (X.env.scope.names.lookup x=some .local):=by walk_at "p"):PG X (.Name x pos) (gName i):=zaK hN hi hx hf
theorem zw {a b:Expr} {ta tb:TE} (ha:PE X a ta) (hb:PE X b tb) (hs:zbh b:=by intro _ _;rfl):PE X (.Subscript a b pos) (tOp (rIx X.K) ta tb):=zf6 zfC ha hb hs
end
end L2
namespace L2
open PySem PySem.Spec PyProof.Rows
section
variable {X:Cx}
end
end L2
namespace L2
open PySem PySem.Spec PyProof.Rows
section
variable {X:Cx} {G:GK} {x y:Str} {np mp pos hpos gpos:Pos} {body su sv:List Stmt} {b₀ c₀:Stmt} {tb:List (Addr × Obj)->GK->TS} {th ti:List (Addr × Obj)->Addr->TS}
end
section
variable {X:Cx}
end
end L2
namespace L2
open PySem PySem.Spec PyProof.Rows
section
variable {X:Cx}
def zgx (K:PySem.W.Frag):R2:=λ x y H Q=>∃ p q xs,x=.ref p/\y=.ref q/\SqL K H p xs/\SqL K H q []/\Q (.bl (decide (xs.length=0))) H
theorem zfm (hu:X.A.units + 100 < cLine):OpR X (compareOp .Eq) (zgx X.K):=by
 intro pins s σ H x y v u Q I rx ry h;obtain ⟨p,q,xs,rfl,rfl,h1,h2,k⟩:=h;by_cases hl:xs.length=0
 ·have e:xs=[]:=bQ.mp hl;subst e;exact JY (by omega) pins s σ H _ _ _ _ Q I rx ry ⟨p,q,[],[],rfl,rfl,.inl ⟨h1,h2⟩,rfl,rfl,k⟩
 ·rw [aY hl] at k;cases rx;cases ry;obtain ⟨its,r,p,_⟩:=I.list h1;obtain ⟨its2,r2,p2,_⟩:=I.list h2;have e1:=r.length;have e2:=r2.length;exact cZ p.isList p2.isList (by simp only [au];simp at e2 ⊢;omega) (by omega) _ _ _ _ ⟨.bl false,H,I,rfl,k⟩
end
end L2
namespace L2
section
variable {G:Prop} {A B C D E F H I:Type}
theorem iE2 {k:A->B->Prop} (a:A) (b:B) (p:k a b):∃ a b,k a b:=⟨a,b,p⟩
theorem iE3 {k:A->B->C->Prop} (a:A) (b:B) (c:C) (p:k a b c):∃ a b c,k a b c:=⟨a,b,c,p⟩
theorem iE4 {k:A->B->C->D->Prop} (a:A) (b:B) (c:C) (d:D) (p:k a b c d):∃ a b c d,k a b c d:=⟨a,b,c,d,p⟩
theorem iE5 {k:A->B->C->D->E->Prop} (a:A) (b:B) (c:C) (d:D) (e:E) (p:k a b c d e):∃ a b c d e,k a b c d e:=⟨a,b,c,d,e,p⟩
theorem iE6 {k:A->B->C->D->E->F->Prop} (a:A) (b:B) (c:C) (d:D) (e:E) (f:F) (p:k a b c d e f):∃ a b c d e f,k a b c d e f:=⟨a,b,c,d,e,f,p⟩
theorem iE7 {k:A->B->C->D->E->F->H->Prop} (a:A) (b:B) (c:C) (d:D) (e:E) (f:F) (g:H) (p:k a b c d e f g):∃ a b c d e f g,k a b c d e f g:=⟨a,b,c,d,e,f,g,p⟩
theorem iE8 {k:A->B->C->D->E->F->H->I->Prop} (a:A) (b:B) (c:C) (d:D) (e:E) (f:F) (g:H) (i:I) (p:k a b c d e f g i):∃ a b c d e f g i,k a b c d e f g i:=⟨a,b,c,d,e,f,g,i,p⟩
theorem oE1 {k:A->Prop} (h:∃ a,k a) (w:∀ a,k a->G):G:=by obtain ⟨a,p⟩:=h;exact w a p
theorem oE2 {k:A->B->Prop} (h:∃ a b,k a b) (w:∀ a b,k a b->G):G:=by obtain ⟨a,b,p⟩:=h;exact w a b p
theorem oE3 {k:A->B->C->Prop} (h:∃ a b c,k a b c) (w:∀ a b c,k a b c->G):G:=by obtain ⟨a,b,c,p⟩:=h;exact w a b c p
theorem oE4 {k:A->B->C->D->Prop} (h:∃ a b c d,k a b c d) (w:∀ a b c d,k a b c d->G):G:=by obtain ⟨a,b,c,d,p⟩:=h;exact w a b c d p
theorem oE5 {k:A->B->C->D->E->Prop} (h:∃ a b c d e,k a b c d e) (w:∀ a b c d e,k a b c d e->G):G:=by obtain ⟨a,b,c,d,e,p⟩:=h;exact w a b c d e p
theorem oE6 {k:A->B->C->D->E->F->Prop} (h:∃ a b c d e f,k a b c d e f) (w:∀ a b c d e f,k a b c d e f->G):G:=by obtain ⟨a,b,c,d,e,f,p⟩:=h;exact w a b c d e f p
theorem oE7 {k:A->B->C->D->E->F->H->Prop} (h:∃ a b c d e f g,k a b c d e f g) (w:∀ a b c d e f g,k a b c d e f g->G):G:=by obtain ⟨a,b,c,d,e,f,g,p⟩:=h;exact w a b c d e f g p
theorem oE8 {k:A->B->C->D->E->F->H->I->Prop} (h:∃ a b c d e f g i,k a b c d e f g i) (w:∀ a b c d e f g i,k a b c d e f g i->G):G:=by obtain ⟨a,b,c,d,e,f,g,i,p⟩:=h;exact w a b c d e f g i p
end
section
variable {G A B C D E F H I J:Prop}
theorem iA3 (a:A) (b:B) (c:C):A/\B/\C:=⟨a,b,c⟩
theorem iA4 (a:A) (b:B) (c:C) (d:D):A/\B/\C/\D:=⟨a,b,c,d⟩
theorem iA5 (a:A) (b:B) (c:C) (d:D) (e:E):A/\B/\C/\D/\E:=⟨a,b,c,d,e⟩
theorem iA6 (a:A) (b:B) (c:C) (d:D) (e:E) (f:F):A/\B/\C/\D/\E/\F:=⟨a,b,c,d,e,f⟩
theorem iA7 (a:A) (b:B) (c:C) (d:D) (e:E) (f:F) (g:H):A/\B/\C/\D/\E/\F/\H:=⟨a,b,c,d,e,f,g⟩
theorem iA8 (a:A) (b:B) (c:C) (d:D) (e:E) (f:F) (g:H) (i:I):A/\B/\C/\D/\E/\F/\H/\I:=⟨a,b,c,d,e,f,g,i⟩
theorem iA9 (a:A) (b:B) (c:C) (d:D) (e:E) (f:F) (g:H) (i:I) (j:J):A/\B/\C/\D/\E/\F/\H/\I/\J:=⟨a,b,c,d,e,f,g,i,j⟩
theorem oA2 (h:A/\B) (k:A->B->G):G:=by obtain ⟨a,b⟩:=h;exact k a b
theorem oA3 (h:A/\B/\C) (k:A->B->C->G):G:=by obtain ⟨a,b,c⟩:=h;exact k a b c
theorem oA4 (h:A/\B/\C/\D) (k:A->B->C->D->G):G:=by obtain ⟨a,b,c,d⟩:=h;exact k a b c d
theorem oA5 (h:A/\B/\C/\D/\E) (k:A->B->C->D->E->G):G:=by obtain ⟨a,b,c,d,e⟩:=h;exact k a b c d e
theorem oA6 (h:A/\B/\C/\D/\E/\F) (k:A->B->C->D->E->F->G):G:=by obtain ⟨a,b,c,d,e,f⟩:=h;exact k a b c d e f
theorem oA7 (h:A/\B/\C/\D/\E/\F/\H) (k:A->B->C->D->E->F->H->G):G:=by obtain ⟨a,b,c,d,e,f,g⟩:=h;exact k a b c d e f g
theorem oA8 (h:A/\B/\C/\D/\E/\F/\H/\I) (k:A->B->C->D->E->F->H->I->G):G:=by obtain ⟨a,b,c,d,e,f,g,i⟩:=h;exact k a b c d e f g i
theorem oA9 (h:A/\B/\C/\D/\E/\F/\H/\I/\J) (k:A->B->C->D->E->F->H->I->J->G):G:=by obtain ⟨a,b,c,d,e,f,g,i,j⟩:=h;exact k a b c d e f g i j
end
end L2
namespace Mine
theorem zdt {p r:Int} (hp:0<=p) (hr:0 < r):Int.gcd r (p % r)=Int.gcd p r:=by
 have e:(p % r).natAbs=p.natAbs % r.natAbs:=by
  have h1:p=(p.natAbs:Int):=by omega
  have h2:r=(r.natAbs:Int):=by omega
  rw [h1,h2,<- Int.natCast_emod,bE,bE,bE]
 show Nat.gcd r.natAbs (p % r).natAbs=Nat.gcd p.natAbs r.natAbs
 rw [e,Nat.gcd_comm p.natAbs,Nat.gcd_rec r.natAbs p.natAbs,Nat.gcd_comm]
theorem zes {p:Int} (hp:0<=p):(Int.gcd p 0:Int)=p:=by
 rw [Int.gcd_zero_right];omega
theorem zaX {a b:Int} (h:¬ (a=0/\b=0)):1<=(Int.gcd a b:Int):=by
 have:0 < Int.gcd a b:=Int.gcd_pos_iff.mpr (by omega);omega
end Mine
namespace Mine
structure IsLcm (ns:List Int) (l:Int):Prop where
 pos:0 < l
 dv:∀ n∈ns,n ∣ l
 least:∀ m:Int,(∀ n∈ns,n ∣ m)->l ∣ m
theorem IsLcm.nil:IsLcm [] 1:=⟨by decide,(λ _ h=>nomatch h),λ m _=>eG m⟩
theorem zfr {a b:Int} (ha:0 < a) (hb:0 < b):a / (Int.gcd a b:Int) * b=(Nat.lcm a.natAbs b.natAbs:Int):=by
 have g:(Int.gcd a b:Int) ∣ a:=Int.gcd_dvd_left ..;obtain ⟨k,hk⟩:=g;have gp:0 < (Int.gcd a b:Int):=by have:=zaX (a:=a) (b:=b) (by omega);omega
 have e1:a / (Int.gcd a b:Int)=k:=by
  conv=>lhs;rw [hk]
  have hk':=hk;rw [Int.mul_comm (Int.gcd a b:Int) k];have e2:Int.gcd (k * (Int.gcd a b:Int)) b=Int.gcd a b:=by rw [Int.mul_comm,<- hk]
  rw [e2];exact Int.mul_ediv_cancel _ (by omega)
 have hkn:0 < k:=by
  rcases (by omega:k<=0\/0 < k) with h|h
  ·have:=Int.mul_nonpos_of_nonneg_of_nonpos (cr gp) h;omega
  ·exact h
 have hg:Nat.gcd a.natAbs b.natAbs * Nat.lcm a.natAbs b.natAbs=a.natAbs * b.natAbs:=Nat.gcd_mul_lcm ..;have ea:a.natAbs=Nat.gcd a.natAbs b.natAbs * k.natAbs:=by
  have:=bS Int.natAbs hk;rw [Int.natAbs_mul,bE] at this;exact this
 have gp':0 < Nat.gcd a.natAbs b.natAbs:=by
  have:(Nat.gcd a.natAbs b.natAbs:Int)=(Int.gcd a b:Int):=rfl;omega
 have e3:Nat.lcm a.natAbs b.natAbs=k.natAbs * b.natAbs:=by
  apply Nat.eq_of_mul_eq_mul_left gp';rw [hg,<- Nat.mul_assoc,<- ea]
 rw [e1,e3];rw [Int.natCast_mul];have h1:k=(k.natAbs:Int):=by omega
 have h2:b=(b.natAbs:Int):=by omega
 rw [<- h1,<- h2]
theorem va {a b:Int} (h:a ∣ b):a.natAbs ∣ b.natAbs:=cx.mpr h
theorem IsLcm.step {ns:List Int} {l p:Int} (x:IsLcm ns l) (hp:0 < p):IsLcm (ns ++ [p]) (l / (Int.gcd l p:Int) * p):=by
 rw [zfr x.pos hp];have lp:0 < l.natAbs:=by have:=x.pos;omega
 have pp:0 < p.natAbs:=by omega
 refine ⟨?_,λ n hn=>?_,λ m hm=>?_⟩
 ·have:=Nat.lcm_pos lp pp;omega
 ·rcases az.mp hn with h|h
  ·have h1:=x.dv n h;refine dW h1 ?_;rw [<- cx,bE];exact Nat.dvd_lcm_left ..
  ·rw [ar.mp h,<- cx,bE];exact Nat.dvd_lcm_right ..
 ·have h1:=x.least m λ n hn=>hm n (aZ _ hn);have h2:=hm p (aT _ (ar.mpr rfl));rw [<- cx,bE];exact Nat.lcm_dvd (va h1) (va h2)
theorem XY {a b:Int} (hb:0 < b):(Int.gcd a b:Int)<=b:=Int.le_of_dvd hb (Int.gcd_dvd_right ..)
end Mine
namespace L2
open PySem PySem.Spec PyProof.Rows
section
variable {X:Cx} {K:PySem.W.Frag} {σ:St} {H:Hp} {Q:VK} {D:Ends}
theorem rd_iq {i:Int} {P:Int->Prop}:iq (.int i) P=P i:=rfl
theorem rd_bq {b:Bool} {P:Bool->Prop}:bq (.bl b) P=P b:=rfl
theorem rd_nq {P:Prop}:nq .non P=P:=rfl
theorem rd_lq {v:V} {P:V->Prop}:lq [v] P=P v:=rfl
theorem rd_vq {v:V} {P:V->Prop}:vq (some (some v)) P=P v:=rfl
theorem rd_addI {i j:Int}:WJ K (.int i) (.int j) H Q=Q (.int (i + j)) H:=rfl
theorem rd_addS {i j:Str}:WJ K (.str i) (.str j) H Q=(i.length + j.length<=sizeLine/\Q (.str (i ++ j)) H):=rfl
theorem rd_mc {α β:Type} {f:α->β} {a:α} {l:List α}:List.map f (a :: l)=f a :: List.map f l:=rfl
theorem rd_mn {α β:Type} {f:α->β}:List.map f []=[]:=rfl
theorem rd_itT {A B:Prop}:(if true=true then A else B)=A:=rfl
theorem rd_itF {A B:Prop}:(if false=true then A else B)=B:=rfl
theorem rd_is0 {A B:Prop}:(if V.non=V.non then A else B)=A:=rfl
theorem rd_is1 {a:Addr} {A B:Prop}:(if V.ref a=V.non then A else B)=B:=rfl
theorem rd_is2 {a:Int} {A B:Prop}:(if V.int a=V.non then A else B)=B:=rfl
theorem rd_in0 {A B:Prop}:(if ¬ V.non=V.non then A else B)=B:=rfl
theorem rd_in1 {a:Addr} {A B:Prop}:(if ¬ V.ref a=V.non then A else B)=A:=rfl
theorem rd_in2 {a:Int} {A B:Prop}:(if ¬ V.int a=V.non then A else B)=A:=rfl
theorem rd_sz0 {P:Prop}:szl [] P=P:=rfl
section
variable {P:Prop} {a b c d e f g h i:V}
theorem rd_sz1:szl [a] P=P:=rfl
theorem rd_sz2:szl [a,b] P=P:=rfl
theorem rd_sz3:szl [a,b,c] P=P:=rfl
theorem rd_sz4:szl [a,b,c,d] P=P:=rfl
theorem rd_sz5:szl [a,b,c,d,e] P=P:=rfl
theorem rd_sz6:szl [a,b,c,d,e,f] P=P:=rfl
theorem rd_sz7:szl [a,b,c,d,e,f,g] P=P:=rfl
theorem rd_sz8:szl [a,b,c,d,e,f,g,h] P=P:=rfl
theorem rd_sz9:szl [a,b,c,d,e,f,g,h,i] P=P:=rfl
end
def za0:Nat->List Stmt->Bool
 | 0,_=>false
 | n + 1,b=>match b.getLast? with
  | some (.Return ..)=>true
  | some (.Raise ..)=>true
  | some (.Continue ..)=>true
  | some (.Break ..)=>true
  | some (.If _ b e _)=>za0 n b && za0 n e
  | _=>false
def zgh:Stmt->Bool
 | .For ..=>true
 | .While ..=>true
 | .Try ..=>true
 | .If _ b e _=>!za0 9 b && !za0 9 e
 | _=>false
theorem fa {X:Cx} {st:Stmt} {t:TS} (_:zgh st=true) (p:PS X st t):PS X st t:=p
structure Vr (X:Cx) (i:Nat) (x:Str):Prop where
 n:X.N[i]?=some x
 v:Vis X.env.scope x
 d:(x == ("__debug__":Str))=false
 c:(x == ("__classdict__":Str))=false
theorem pq {X:Cx} (i:Nat) {x:Str} {pos:Pos} (h:Vr X i x:=by walk_at "v"):PE X (.Name x pos) (tVar i):=zfd h.n h.v h.d h.c
theorem rd_trB {b:Bool} {P:Bool->Hp->Prop}:trq K (.bl b) H P=P b H:=rfl
theorem rd_trI {i:Int} {P:Bool->Hp->Prop}:trq K (.int i) H P=∃ k,zcl K (.int i) H k/\P k H:=rfl
theorem rd_trR {a:Addr} {P:Bool->Hp->Prop}:trq K (.ref a) H P=∃ k,zcl K (.ref a) H k/\P k H:=rfl
theorem rd_trS {x:Str} {P:Bool->Hp->Prop}:trq K (.str x) H P=∃ k,zcl K (.str x) H k/\P k H:=rfl
theorem rd_eqI {i j:Int}:WH K (.int i) (.int j) H Q=Q (.bl (decide (i=j))) H:=rfl
theorem rd_neI {i j:Int}:XF K (.int i) (.int j) H Q=Q (.bl (!decide (i=j))) H:=rfl
theorem rd_eqS {i j:Str}:WH K (.str i) (.str j) H Q=Q (.bl (decide (i=j))) H:=rfl
theorem rd_eqB {i j:Bool}:WH K (.bl i) (.bl j) H Q=Q (.bl (decide (i=j))) H:=rfl
theorem rd_eTI {i j:Int}:zbF K (.int i) (.int j) H Q=if i=j then Q (.bl true) H else Q (.bl false) H:=rfl
theorem rd_eTS {i j:Str}:zbF K (.str i) (.str j) H Q=if i=j then Q (.bl true) H else Q (.bl false) H:=rfl
theorem rd_eTB {i j:Bool}:zbF K (.bl i) (.bl j) H Q=if i=j then Q (.bl true) H else Q (.bl false) H:=rfl
theorem rd_nTI {i j:Int}:zbE K (.int i) (.int j) H Q=if ¬ i=j then Q (.bl true) H else Q (.bl false) H:=rfl
theorem rd_nTS {i j:Str}:zbE K (.str i) (.str j) H Q=if ¬ i=j then Q (.bl true) H else Q (.bl false) H:=rfl
theorem rd_nTB {i j:Bool}:zbE K (.bl i) (.bl j) H Q=if ¬ i=j then Q (.bl true) H else Q (.bl false) H:=rfl
theorem rd_eTR {a b:Addr}:zbF K (.ref a) (.ref b) H Q=WH K (.ref a) (.ref b) H Q:=rfl
theorem rd_nTR {a b:Addr}:zbE K (.ref a) (.ref b) H Q=XF K (.ref a) (.ref b) H Q:=rfl
theorem rd_fvI {i:Int} {P:Str->Prop} {R:Str->Prop}:((∃ j,V.int i=V.int j/\j.natAbs.log2 < 1920/\P (toString j))\/(∃ y,V.int i=V.str y/\y.length<=sizeLine/\R y)) ↔ i.natAbs.log2 < 1920/\P (toString i) :=
 ⟨λ h=>h.elim (λ ⟨_,e,h⟩=>by cases e;exact h) (λ ⟨_,e,_⟩=>nomatch e),λ h=>.inl ⟨i,rfl,h⟩⟩
theorem rd_strS {y:Str} {P:Str->Prop}:(∃ z,V.str y=V.str z/\P z) ↔ P y:=⟨λ ⟨_,e,h⟩=>by cases e;exact h,λ h=>⟨y,rfl,h⟩⟩
theorem rd_c0:((0:Nat):Int)=0:=rfl
theorem rd_c1:((1:Nat):Int)=1:=rfl
theorem rd_c2:((2:Nat):Int)=2:=rfl
theorem rd_c3:((3:Nat):Int)=3:=rfl
theorem rd_c4:((4:Nat):Int)=4:=rfl
theorem rd_c5:((5:Nat):Int)=5:=rfl
theorem rd_c6:((6:Nat):Int)=6:=rfl
theorem xn {p:Addr} {xs:List V} {k:Int} {j:Nat} {v:V} {R:Hp->Prop} (h:H p=some (.lst xs)) (e:ixN xs.length k=some j) (q:R (upd H p (.lst (xs.set j v)))):zeJ (.ref p) (.int k) v H R:=⟨p,xs,k,j,rfl,rfl,h,e,q⟩
theorem vE {n:Nat} {k:Int} (h0:0<=k) (h1:k < n):ixN n k=some k.toNat:=by unfold ixN;rw [aA h0,aA h1]
theorem cx_K {CX:CXT} {P:Program} {w:World} {K:PySem.W.Frag} {mg:Str->Option Value} {base:Heap} {N:List Str} {qual:Str} {scope:Scope} {f:Addr} {cd:Value} {A:Around} {outer:List Env} {s:Shared} {H:Hp} {E:XK}:(Qg CX P w K mg base N qual scope f cd A outer s H E).K=K:=rfl
theorem cx_mg {CX:CXT} {P:Program} {w:World} {K:PySem.W.Frag} {mg:Str->Option Value} {base:Heap} {N:List Str} {qual:Str} {scope:Scope} {f:Addr} {cd:Value} {A:Around} {outer:List Env} {s:Shared} {H:Hp} {E:XK}:(Qg CX P w K mg base N qual scope f cd A outer s H E).mg=mg:=rfl
theorem cx_prog {CX:CXT} {P:Program} {w:World} {K:PySem.W.Frag} {mg:Str->Option Value} {base:Heap} {N:List Str} {qual:Str} {scope:Scope} {f:Addr} {cd:Value} {A:Around} {outer:List Env} {s:Shared} {H:Hp} {E:XK}:(Qg CX P w K mg base N qual scope f cd A outer s H E).prog=P:=rfl
theorem cx_w {CX:CXT} {P:Program} {w:World} {K:PySem.W.Frag} {mg:Str->Option Value} {base:Heap} {N:List Str} {qual:Str} {scope:Scope} {f:Addr} {cd:Value} {A:Around} {outer:List Env} {s:Shared} {H:Hp} {E:XK}:(Qg CX P w K mg base N qual scope f cd A outer s H E).w=w:=rfl
theorem cx_base {CX:CXT} {P:Program} {w:World} {K:PySem.W.Frag} {mg:Str->Option Value} {base:Heap} {N:List Str} {qual:Str} {scope:Scope} {f:Addr} {cd:Value} {A:Around} {outer:List Env} {s:Shared} {H:Hp} {E:XK}:(Qg CX P w K mg base N qual scope f cd A outer s H E).base=base:=rfl
theorem rd_cpow {n:Int}:zgr 10 n ↔ 0<=n/\n<=1000000:=⟨λ h=>⟨h.1,h.2.1⟩,λ h=>⟨h.1,h.2,by decide⟩⟩
theorem zbD {x y m n:Int} (hx:0<=x) (hy:0<=y) (h1:x < m) (h2:y < n):0<=x * y/\x * y < m * n:=by
 refine ⟨dO hx hy,Int.lt_of_le_of_lt (Int.mul_le_mul_of_nonneg_right (cr h1) hy) (Int.mul_lt_mul_of_pos_left h2 (by omega))⟩
theorem rd_isiI {i:Int}:zcR K [.int i,.ty "int"] H Q ↔ Q (.bl true) H:=by
 refine ⟨λ h=>?_,λ q=>⟨_,_,_,_,rfl,.old (.int i),.inl ⟨_,rfl,ZV⟩,q⟩⟩;obtain ⟨x,c,t,b,e,ty,k,q⟩:=h;cases e;rcases k with ⟨u,hu,k⟩|⟨_,_,_,e,_⟩
 ·cases hu;cases ty with|old ty=>cases ty;rw [ZV] at k;cases k;exact q
 ·cases e
theorem rd_isiIB {i:Int}:zcR K [.int i,.ty "bool"] H Q ↔ Q (.bl false) H:=by
 refine ⟨λ h=>?_,λ q=>⟨_,_,_,_,rfl,.old (.int i),.inl ⟨_,rfl,Za⟩,q⟩⟩;obtain ⟨x,c,t,b,e,ty,k,q⟩:=h;cases e;rcases k with ⟨u,hu,k⟩|⟨_,_,_,e,_⟩
 ·cases hu;cases ty with|old ty=>cases ty;rw [Za] at k;cases k;exact q
 ·cases e
theorem rd_isiB {i:Bool}:zcR K [.bl i,.ty "bool"] H Q ↔ Q (.bl true) H:=by
 refine ⟨λ h=>?_,λ q=>⟨_,_,_,_,rfl,.old (.bl i),.inl ⟨_,rfl,vb⟩,q⟩⟩;obtain ⟨x,c,t,b,e,ty,k,q⟩:=h;cases e;rcases k with ⟨u,hu,k⟩|⟨_,_,_,e,_⟩
 ·cases hu;cases ty with|old ty=>cases ty;rw [vb] at k;cases k;exact q
 ·cases e
theorem rd_isiS {i:Str}:zcR K [.str i,.ty "str"] H Q ↔ Q (.bl true) H:=by
 refine ⟨λ h=>?_,λ q=>⟨_,_,_,_,rfl,.old (.str i),.inl ⟨_,rfl,ZU⟩,q⟩⟩;obtain ⟨x,c,t,b,e,ty,k,q⟩:=h;cases e;rcases k with ⟨u,hu,k⟩|⟨_,_,_,e,_⟩
 ·cases hu;cases ty with|old ty=>cases ty;rw [ZU] at k;cases k;exact q
 ·cases e
theorem XE {a b:Addr} {xs ys:List V} (h1:SqL K H a xs) (h2:SqL K H b ys) (hl:xs.length + ys.length<=sizeLine) (q:∀ p,H p=none->Q (.ref p) (upd H p (.lst (xs ++ ys)))):WJ K (.ref a) (.ref b) H Q :=
 show zcT K _ _ H Q from ⟨a,b,xs,ys,rfl,rfl,h1,h2,hl,q⟩
theorem Xq {n:Nat} (h:n<=1000):n<=sizeLine:=bL (zh h)
theorem qG {a:Addr} {xs:List V} {DN:St->Hp->Prop} {B:(St->Hp->Prop)->V->St->Hp->Prop} (Pv:Nat->St->Hp->Prop) (h0:Pv 0 σ H) (hl:∀ i σ H,i<=xs.length->Pv i σ H->SqL K H a xs)
  (hs:∀ i x σ H,xs[i]?=some x->Pv i σ H->B (Pv (i + 1)) x σ H) (hd:∀ σ H,Pv xs.length σ H->DN σ H) :
  ∃ W:Nat->Nat->St->Hp->Prop,(∃ m,W 0 m σ H)/\∀ i m σ H,W i m σ H ->
   ((Itl K a).stop i H/\DN σ H)\/((Itl K a).go i H/\∃ N:St->Hp->Prop,(∀ σ' H',N σ' H'->∃ m',m' < m/\W (i + 1) m' σ' H')/\∀ x H',(Itl K a).yld i H x H'->B N x σ H'):=by
 refine ⟨λ i m σ H=>m=xs.length - i/\i<=xs.length/\Pv i σ H,⟨xs.length,by simp,cj _,h0⟩,?_⟩;rintro i m σ H ⟨rfl,hi,p⟩;have q:=hl i σ H hi p;by_cases hlt:i < xs.length
 ·refine .inr ⟨⟨xs,xs[i],q,by simp [hlt]⟩,Pv (i + 1),λ σ' H' p'=>⟨xs.length - (i + 1),by omega,rfl,hlt,p'⟩,λ x H' y=>?_⟩;obtain ⟨e,y⟩:=y;subst e;exact hs i x σ _ (y xs q) p
 ·have e:i=xs.length:=by omega
  subst e;exact .inl ⟨⟨xs,q,av _⟩,hd σ H p⟩
theorem Zd {lo:Int} {n:Nat} {DN:St->Hp->Prop} {B:(St->Hp->Prop)->V->St->Hp->Prop} (Pv:Nat->St->Hp->Prop) (h0:Pv 0 σ H)
  (hs:∀ i σ H,i < n->Pv i σ H->B (Pv (i + 1)) (.int (lo + i)) σ H) (hd:∀ σ H,Pv n σ H->DN σ H) :
  ∃ W:Nat->Nat->St->Hp->Prop,(∃ m,W 0 m σ H)/\∀ i m σ H,W i m σ H ->
   ((Itr lo n).stop i H/\DN σ H)\/((Itr lo n).go i H/\∃ N:St->Hp->Prop,(∀ σ' H',N σ' H'->∃ m',m' < m/\W (i + 1) m' σ' H')/\∀ x H',(Itr lo n).yld i H x H'->B N x σ H'):=by
 refine ⟨λ i m σ H=>m=n - i/\i<=n/\Pv i σ H,⟨n,by simp,cj _,h0⟩,?_⟩;rintro i m σ H ⟨rfl,hi,p⟩;by_cases hlt:i < n
 ·refine .inr ⟨hlt,Pv (i + 1),λ σ' H' p'=>⟨n - (i + 1),by omega,rfl,hlt,p'⟩,λ x H' y=>?_⟩;obtain ⟨e,y⟩:=y;subst e y;exact hs i σ _ hlt p
 ·have e:i=n:=by omega
  subst e;exact .inl ⟨av _,hd σ H p⟩
theorem ze7 {a b:Addr} {xs:List V} (h1:SqL K H a xs) (h2:SqL K H b xs) (hf:xs.all jT=true) (hs:jS xs xs=true) (q:Q (.bl false) H):XF K (.ref a) (.ref b) H Q :=
 .inr (.inl ⟨a,b,xs,xs,rfl,rfl,.inl ⟨h1,h2⟩,hf,hf,by rw [hs];exact q⟩)
theorem zcP {a b:Addr} {xs ys:List V} {n:Nat} (hn:n<=8) (h1:SqL K H a xs) (h2:SqL K H b ys) (hl:xs.length=ys.length) (hde:∀ (j:Nat) (x y:V),xs[j]?=some x->ys[j]?=some y->DE K H n x y true) (q:Q (.bl false) H):XF K (.ref a) (.ref b) H Q :=
 .inr (.inr ⟨a,b,xs,ys,n,λ _=>true,rfl,rfl,hn,hde,.inl ⟨h1,h2,hl,by rw [cS.mpr (λ _ _=>rfl)];exact q⟩⟩)
theorem zev {p q:Addr} {ns:List Int} {n:Nat} (hne:p≠q) (h1:SqL K H p (ns.map V.int)) (h2:SqL K H q (ns.map V.int)):DE K H (n + 1) (.ref p) (.ref q) true:=by
 have:=DE.lists (n:=n) (e:=λ _=>true) hne h1 h2 rfl (λ j x y hx hy=>by
  rw [hx] at hy;cases hy;rw [ak,aq] at hx;obtain ⟨m,_,rfl⟩:=hx;have z:DE K H n (.int m) (.int m) (eqV (.int m) (.int m)):=.flat rfl rfl;rw [show eqV (V.int m) (V.int m)=true by simp [eqV]] at z;exact z)
 rw [cS.mpr (λ _ _=>rfl)] at this;exact this
theorem ZC {a:Addr} {xs:List V} {lo hi:Option Int} (h:SqL K H a xs) (q:∀ p,H p=none->Q (.ref p) (upd H p (.lst (Zf xs lo hi)))):ze8 K (.ref a) lo hi H Q:=⟨a,xs,rfl,h,q⟩
theorem upd_keep {a b:Addr} {o u:HO} (h:H b=some u) (ha:H a=none):upd H a o b=some u:=by rw [upd_ne (ne_of_none h ha)];exact h
theorem ze {a:Addr} {o:HO} (ha:H a=none):Same H (upd H a o):=λ _ _ h=>upd_keep h ha
theorem rd_ixT {a:Addr} {xs:List V} {i:Int} {v:V} (h:H a=some (.tup xs)) (e:atI xs i=some v) (q:Q v H):rIx K (.ref a) (.int i) H Q:=.inr (.inl ⟨a,xs,i,v,rfl,rfl,SqT.of h,e,q⟩)
theorem zu {a:Addr} {xs:List V} {i:Int} {v:V} (h:SqL K H a xs) (e:atI xs i=some v) (q:Q v H):rIx K (.ref a) (.int i) H Q:=.inl ⟨a,xs,i,v,rfl,rfl,h,e,q⟩
theorem zgw {N0:St->Hp->Prop} {B:(St->Hp->Prop)->Prop} (h:B N0):∃ N:St->Hp->Prop,(∀ σ' H',N σ' H'->N0 σ' H')/\B N:=⟨N0,λ _ _ h=>h,h⟩
end
end L2
set_option hygiene false
local macro_rules | `(tactic| walk_at "v")=>`(tactic| exact ⟨rfl,by first|exact Or.inl rfl|exact Or.inr (Or.inl rfl)|exact Or.inr (Or.inr rfl),by decide,by decide⟩)
local macro_rules | `(tactic| walk_at "rd")=>`(tactic| (simp only [L2.start,L2.rd_mc,L2.rd_mn,bH,cP,List.cons_append,List.nil_append,L2.tSeq,L2.tAsg,L2.gName,L2.tC,L2.tOp,L2.tUn,L2.tTest,L2.tIfS,L2.tRet,L2.tNext,L2.tDrop,L2.tNot,L2.tAnd,L2.tOr,L2.tCons,L2.tNil,L2.tTup,L2.tLst,L2.tBi,L2.tVar,↓L2.rd_vq,L2.rd_vq,↓L2.rd_iq,L2.rd_iq,↓L2.rd_bq,L2.rd_bq,↓L2.rd_nq,L2.rd_nq,↓L2.rd_lq,L2.rd_lq,↓L2.rd_itT,L2.rd_itT,↓L2.rd_itF,L2.rd_itF,↓L2.rd_is0,L2.rd_is0,↓L2.rd_is1,L2.rd_is1,↓L2.rd_is2,L2.rd_is2,↓L2.rd_in0,L2.rd_in0,↓L2.rd_in1,L2.rd_in1,↓L2.rd_in2,L2.rd_in2,L2.rI,L2.rI0,L2.rU,L2.rT,L2.ipI,L2.tTru,L2.rd_trB,L2.rd_trI,L2.rd_trR,L2.rd_trS,L2.tAug,L2.rd_addI,L2.rd_addS,L2.rd_eqI,L2.rd_neI,L2.rd_eqS,L2.rd_eqB,L2.rd_eTI,L2.rd_eTS,L2.rd_eTB,L2.rd_eTR,L2.rd_nTI,L2.rd_nTR,L2.rd_nTS,L2.rd_nTB,L2.rd_fvI,L2.rd_strS,L2.rd_sz0,L2.rd_sz1,L2.rd_sz2,L2.rd_sz3,L2.rd_sz4,L2.rd_sz5,L2.rd_sz6,L2.rd_sz7,L2.gSub,L2.rd_sz8,L2.rd_sz9,L2.cx_K,L2.cx_mg,L2.cx_prog,L2.cx_w,L2.cx_base,L2.gTup,L2.gCons,L2.gNil,L2.tCl,L2.tGl,L2.tChain,L2.tRaise,L2.sFld,L2.tFld,L2.tMk,L2.tMth,L2.tBM,L2.tSl,L2.tNoPart,L2.tPart,L2.tClN,L2.tMkN,L2.tMthN,L2.tBase,L2.tYes,L2.tRg1,L2.tIf,L2.cxC_K,L2.cxC_mg,L2.cxC_prog,L2.cxC_w,L2.cxC_base,eq_self,reduceCtorEq,decide_false,b5,dC,List.getElem?_cons_zero,List.getElem?_cons_succ,List.set_cons_zero,List.set_cons_succ,List.replicate,Nat.reduceSub,Nat.reduceAdd,true_and,and_true,L2.rd_cpow,Int.reduceToNat,Int.reducePow,Int.reduceLT,Int.reduceLE,Int.reduceNeg,L2.fdiv_pos,L2.rd_isiI,L2.rd_isiIB,L2.rd_isiB,L2.rd_isiS,Bool.not_true,Bool.not_false,dj,reduceIte,decide_true,cM,Bool.true_eq_false,Bool.not_eq_true',decide_eq_false_iff_not,L2.rd_c0,L2.rd_c1,L2.rd_c2,L2.rd_c3,L2.rd_c4,L2.rd_c5,L2.rd_c6,Int.reduceEq,not_true_eq_false,not_false_eq_true,Int.reduceMul,Int.reduceAdd,Int.reduceSub]))
local macro_rules | `(tactic| walk_at "r")=>`(tactic| try walk_at "rd")
local macro_rules | `(tactic| walk_at "ixT")=>`(tactic| (refine L2.rd_ixT (by assumption) rfl ?_;try walk_at "rd"))
local macro_rules | `(tactic| walk_at "sd")=>`(tactic| first|assumption|exact L2.mul_okR (by decide) (by decide)|exact L2.mul_okL (by decide) (by decide)|exact L2.mul_okR (by omega) (by omega)|exact L2.mul_okL (by omega) (by omega)|exact L2.fd_ok (by decide) (by decide +kernel)|decide|omega|exact L2.fd_small (by omega) (by omega))
local macro_rules | `(tactic| walk_at "sds")=>`(tactic| repeat (refine And.intro (by walk_at "sd") ?_))
local macro_rules | `(tactic| walk_at "for")=>`(tactic| (walk_at "go";(try simp only [L2.tFor,L2.iSeq,L2.iRng1,L2.iRng3,L2.iEnum,L2.iZip]);try walk_at "rd"))
local macro_rules | `(tactic| walk_at "lc")=>`(tactic| (walk_at "go";(try simp only [L2.tLc,L2.iSeq,L2.stC,L2.iRng1,L2.iRng3,L2.iEnum,L2.iZip]);try walk_at "rd"))
local macro_rules | `(tactic| walk_at "go")=>`(tactic| repeat (first|walk_at "rd" | refine And.intro (by assumption) ?_|refine L2.nxt λ Nq_ hNq_=>?_|refine L2.useN (by assumption) ?_))
local macro_rules | `(tactic| walk_at "ne")=>`(tactic| first|assumption|exact aX (by assumption)|exact L2.ne_of_none (by assumption) (by assumption)|exact aX (L2.ne_of_none (by assumption) (by assumption)))
local macro_rules | `(tactic| walk_at "hp")=>`(tactic| first|assumption|exact L2.upd_same|(refine L2.upd_keep ?_ (by assumption);walk_at "hp")|(rw [L2.upd_ne (by walk_at "ne")];walk_at "hp"))
set_option hygiene false
local macro_rules | `(tactic| walk_at "i")=>`(tactic| (intro vs H Q E h;repeat (first|(obtain ⟨rfl,_⟩:=h;rfl)|obtain ⟨_,h⟩:=h)))
local macro_rules | `(tactic| walk_at "j")=>`(tactic| intro cdv A outer s H vs Q EX hr h)
local macro_rules | `(tactic| walk_at "k")=>`(tactic| intro cdv A outer s H vs Q E hr h)
seal L2.PE L2.PT L2.PA L2.PS L2.PSs L2.PC L2.PG L2.PGs L2.PI L2.PO L2.PK
namespace K26
open PySem L2 Mine
def top (i:Nat):Stmt:=PySem.Challenge.pw_beltshares_k26_alike_goes_on.main.body.getD i (.Pass ⟨0,0,0,0⟩)
local macro_rules | `(tactic| walk_at "sc")=>`(tactic| exact ⟨rfl,rfl,rfl,by decide +kernel,rfl,by decide +kernel,by decide +kernel⟩)
abbrev qW:Stmt:=zV (top 2) 0
theorem JA:FnScope ["self","turn","cells","sides","gone"] ["self","turn","cells","sides","gone"] (zd qW):=by walk_at "sc"
abbrev Zw:Stmt:=top 3
theorem VO:FnScope ["work","ware","kinds"] ["work","ware"] (zd Zw):=by walk_at "sc"
abbrev j8:Stmt:=top 4
theorem Z1:FnScope ["state"] ["state"] (zd j8):=by walk_at "sc"
abbrev xT:Stmt:=top 6
theorem Wx:FnScope ["work","cells"] ["work","cells"] (zd xT):=by walk_at "sc"
abbrev xU:Stmt:=top 7
theorem Jv:FnScope ["work","state","number"] ["work","state","number"] (zd xU):=by walk_at "sc"
abbrev j6:Stmt:=top 8
theorem Wu:FnScope ["work","state","beat_place","kinds","places"] ["work","state"] (zd j6):=by walk_at "sc"
abbrev XA:Stmt:=top 9
theorem zcK:FnScope ["work","one","other"] ["work","one","other"] (zd XA):=by walk_at "sc"
abbrev xm:Stmt:=zV (top 18) 0
theorem Xz:FnScope ["self","room","pace"] ["self","room","pace"] (zd xm):=by walk_at "sc"
abbrev xX:Stmt:=top 23
theorem Jy:FnScope ["pace","least"] ["pace","least"] (zd xX):=by walk_at "sc"
abbrev xY:Stmt:=top 24
theorem Jz:FnScope ["kind"] ["kind"] (zd xY):=by walk_at "sc"
abbrev xV:Stmt:=top 25
theorem Jw:FnScope ["belts"] ["belts"] (zd xV):=by walk_at "sc"
abbrev xv:Stmt:=top 26
theorem QC:FnScope ["wanted","side","step","place"] ["wanted","side"] (zd xv):=by walk_at "sc"
abbrev jw:Stmt:=top 27
theorem vO:FnScope ["head","free","side"] ["head","free","side"] (zd jw):=by walk_at "sc"
abbrev qO:Stmt:=zV (top 28) 0
theorem Xy:FnScope ["self","ins","outs"] ["self","ins","outs"] (zd qO):=by walk_at "sc"
abbrev jB:Stmt:=zV (top 29) 0
theorem QE:FnScope ["self","out","pace","kinds","kind"] ["self","out","pace","kinds"] (zd jB):=by walk_at "sc"
abbrev jL:Stmt:=zV (top 29) 1
theorem Zq:FnScope ["self","heads","free","turn","side"] ["self","heads","free","turn","side"] (zd jL):=by walk_at "sc"
abbrev jK:Stmt:=zV (top 29) 2
theorem Zp:FnScope ["self"] ["self"] (zd jK):=by walk_at "sc"
abbrev jW:Stmt:=zV (top 30) 0
theorem JC:FnScope ["self","into","pace"] ["self","into","pace"] (zd jW):=by walk_at "sc"
abbrev xf:Stmt:=zV (top 30) 1
theorem Z8:FnScope ["self","heads","free","turn","side"] ["self","heads","free","turn","side"] (zd xf):=by walk_at "sc"
abbrev xb:Stmt:=zV (top 30) 2
theorem Z7:FnScope ["self"] ["self"] (zd xb):=by walk_at "sc"
abbrev jC:Stmt:=zV (top 31) 0
theorem QF:FnScope ["self","into","outs"] ["self","into","outs"] (zd jC):=by walk_at "sc"
abbrev jN:Stmt:=zV (top 31) 1
theorem Zs:FnScope ["self","heads","free","turn","side","place"] ["self","heads","free","turn","side"] (zd jN):=by walk_at "sc"
abbrev jM:Stmt:=zV (top 31) 2
theorem Zr:FnScope ["self"] ["self"] (zd jM):=by walk_at "sc"
abbrev qJ:Stmt:=zV (top 32) 0
theorem wW:FnScope ["self","into","outs"] ["self","into","outs"] (zd qJ):=by walk_at "sc"
abbrev qQ:Stmt:=zV (top 32) 1
theorem wq:FnScope ["self","heads","free","turn","side","place"] ["self","heads","free","turn","side"] (zd qQ):=by walk_at "sc"
abbrev qP:Stmt:=zV (top 32) 2
theorem wp:FnScope ["self"] ["self"] (zd qP):=by walk_at "sc"
abbrev jV:Stmt:=zV (top 33) 0
theorem JB:FnScope ["self","into","outs","kind"] ["self","into","outs","kind"] (zd jV):=by walk_at "sc"
abbrev xa:Stmt:=zV (top 33) 1
theorem Z5:FnScope ["self","heads","free","turn","side","place"] ["self","heads","free","turn","side"] (zd xa):=by walk_at "sc"
abbrev jp:Stmt:=zV (top 33) 2
theorem vt:FnScope ["self","kind"] ["self","kind"] (zd jp):=by walk_at "sc"
abbrev j9:Stmt:=zV (top 33) 3
theorem Z4:FnScope ["self"] ["self"] (zd j9):=by walk_at "sc"
abbrev jD:Stmt:=zV (top 34) 0
theorem QG:FnScope ["self","ins","out"] ["self","ins","out"] (zd jD):=by walk_at "sc"
abbrev jc:Stmt:=zV (top 34) 1
theorem Zu:FnScope ["self","heads","free","turn","side","place"] ["self","heads","free","turn","side"] (zd jc):=by walk_at "sc"
abbrev jO:Stmt:=zV (top 34) 2
theorem Zt:FnScope ["self"] ["self"] (zd jO):=by walk_at "sc"
abbrev vQ:Stmt:=top 36
theorem zbr:FnScope ["one","other","part","rest","left"] ["one","other"] (zd vQ):=by walk_at "sc"
abbrev Zv:Stmt:=top 37
theorem VN:FnScope ["paces","number","pace"] ["paces"] (zd Zv):=by walk_at "sc"
abbrev xW:Stmt:=top 41
theorem Jx:FnScope ["belts","knots"] ["belts","knots"] (zd xW):=by walk_at "sc"
abbrev jn:Stmt:=top 42
theorem vp:FnScope ["named","size"] ["named","size"] (zd jn):=by walk_at "sc"
abbrev jh:Stmt:=zV (top 43) 0
theorem Xv:FnScope ["self","belts","knots","fed","taken","knot"] ["self","belts","knots"] (zd jh):=by walk_at "sc"
abbrev jA:Stmt:=zV (top 43) 3
theorem QD:FnScope ["self"] ["self"] (zd jA):=by walk_at "sc"
abbrev jo:Stmt:=zV (top 43) 4
theorem Z3:FnScope ["self"] ["self"] (zd jo):=by walk_at "sc"
abbrev xl:Stmt:=zV (top 43) 5
theorem Xw:FnScope ["self","paces","number","pace"] ["self"] (zd xl):=by walk_at "sc"
abbrev j7:Stmt:=top 45
theorem Wy:FnScope ["work","state","knot","ends"] ["work","state","knot"] (zd j7):=by walk_at "sc"
abbrev xS:Stmt:=top 46
theorem Ju:FnScope ["state","number","from_belt","ware"] ["state","number","from_belt"] (zd xS):=by walk_at "sc"
abbrev Zx:Stmt:=top 47
theorem VP:FnScope ["belts","place"] ["belts","place"] (zd Zx):=by walk_at "sc"
abbrev jJ:Stmt:=top 48
theorem Zo:FnScope ["knot","chosen"] ["knot","chosen"] (zd jJ):=by walk_at "sc"
abbrev WD:Stmt:=top 49
theorem ze6:FnScope ["work","state","number","knot","free","chosen","from_belt","to_belt","ware"] ["work","state","number"] (zd WD):=by walk_at "sc"
abbrev Zy:Stmt:=top 50
theorem VQ:FnScope ["work","state","moves","number","move"] ["work","state"] (zd Zy):=by walk_at "sc"
abbrev wB:Stmt:=top 51
theorem Xu:FnScope ["cells","place"] ["cells"] (zd wB):=by walk_at "sc"
abbrev xk:Stmt:=top 52
theorem Xt:FnScope ["work","state","moves","number","belt"] ["work","state"] (zd xk):=by walk_at "sc"
abbrev vv:Stmt:=top 53
theorem Wv:FnScope ["work","state","after"] ["work","state"] (zd vv):=by walk_at "sc"
abbrev vx:Stmt:=top 54
theorem Ww:FnScope ["work","state"] ["work","state"] (zd vx):=by walk_at "sc"
abbrev VX:Stmt:=top 56
theorem zd2:FnScope ["_law_script","_law_k"] ["_law_script","_law_k"] (zd VX):=by walk_at "sc"
abbrev vy:Stmt:=top 57
theorem Wz:FnScope ["_law_cell","_law_factor"] ["_law_cell","_law_factor"] (zd vy):=by walk_at "sc"
abbrev QL:Stmt:=top 59
theorem zby:FnScope ["_law_belts","_law_number","_law_span","_law_room"] ["_law_belts","_law_number","_law_span"] (zd QL):=by walk_at "sc"
abbrev xZ:Stmt:=top 60
theorem WA:FnScope ["_law_out","_law_cell","_law_number","_law_span","_law_many","_law_kinds"] ["_law_out","_law_cell","_law_number","_law_span"] (zd xZ):=by walk_at "sc"
abbrev ZA:Stmt:=top 61
theorem VT:FnScope ["_law_into","_law_number","_law_span"] ["_law_into","_law_number","_law_span"] (zd ZA):=by walk_at "sc"
abbrev QI:Stmt:=top 62
theorem zbu:FnScope ["_law_knots","_law_cell","_law_number","_law_known","_law_knot"] ["_law_knots","_law_cell","_law_number"] (zd QI):=by walk_at "sc"
abbrev vA:Stmt:=top 63
theorem WC:FnScope ["_law_belts","_law_ends","_law_loops","_law_into","_law_cell","_law_span","_law_number","_law_ins","_law_k"] ["_law_belts","_law_ends","_law_loops","_law_into","_law_cell","_law_span"] (zd vA):=by walk_at "sc"
abbrev vz:Stmt:=top 64
theorem WB:FnScope ["_law_into","_law_outs","_law_kind_here","_law_what"] ["_law_into","_law_outs","_law_kind_here","_law_what"] (zd vz):=by walk_at "sc"
abbrev vR:Stmt:=top 65
theorem zbv:FnScope ["_law_belts","_law_knots","_law_ends","_law_loops","_law_cell","_law_span","_law_number","_law_what","_law_into","_law_outs","_law_many","_law_k","_law_factor"] ["_law_belts","_law_knots","_law_ends","_law_loops","_law_cell","_law_span"] (zd vR):=by walk_at "sc"
abbrev ZB:Stmt:=top 66
theorem VU:FnScope ["_law_belts","_law_knots","_law_ends","_law_loops","_law_cell","_law_span","_law_k","_law_loop","_law_number","_law_into","_law_outs","_law_end"] ["_law_belts","_law_knots","_law_ends","_law_loops","_law_cell","_law_span"] (zd ZB):=by walk_at "sc"
abbrev QH:Stmt:=top 67
theorem zbs:FnScope ["_law_script","_law_first","_law_number","_law_span","_law_many","_law_belts","_law_knots","_law_ends","_law_loops","_law_cell","_law_cut"] ["_law_script"] (zd QH):=by walk_at "sc"
abbrev wC:Stmt:=top 68
theorem zbz:FnScope ["_law_work_here","_law_paces","_law_knot","_law_beat_here"] ["_law_work_here"] (zd wC):=by walk_at "sc"
abbrev QK:Stmt:=top 69
theorem zbx:FnScope ["_law_script","_law_k"] ["_law_script","_law_k"] (zd QK):=by walk_at "sc"
abbrev QJ:Stmt:=top 70
theorem zbw:FnScope ["_law_script","_law_bound","_law_number","_law_cell"] ["_law_script","_law_bound"] (zd QJ):=by walk_at "sc"
abbrev xD:Stmt:=top 71
theorem VV:FnScope ["_law_work_here","_law_script","_law_given","_law_sources","_law_cells_here","_law_spot","_law_belt_here","_law_row","_law_place","_law_number","_law_source_here"] ["_law_work_here","_law_script","_law_given"] (zd xD):=by walk_at "sc"
abbrev xC:Stmt:=top 72
theorem zbt:FnScope ["_law_work_here","_law_script","_law_given","_law_cells_here","_law_sides","_law_gone","_law_k","_law_knot","_law_number","_law_many","_law_counts"] ["_law_work_here","_law_script"] (zd xC):=by walk_at "sc"
abbrev ji:Stmt:=top 73
theorem Xx:FnScope ["_law_work_here","_law_state","_law_script","_law_beat_here","_law_steps","_law_k","_law_knot","_law_cells_here","_law_row","_law_gone","_law_counts","_law_more"] ["_law_work_here","_law_state","_law_script","_law_beat_here"] (zd ji):=by walk_at "sc"
abbrev VW:Stmt:=top 74
theorem zd1:FnScope ["_law_ware","_law_steps"] ["_law_ware","_law_steps"] (zd VW):=by walk_at "sc"
abbrev Zz:Stmt:=top 75
theorem VR:FnScope ["_law_one","_law_other","_law_steps","_law_first","_law_second"] ["_law_one","_law_other","_law_steps"] (zd Zz):=by walk_at "sc"
abbrev wS:Stmt:=top 76
theorem VS:FnScope ["_law_before","_law_after","_law_grown_here","_law_one","_law_other"] ["_law_before","_law_after"] (zd wS):=by walk_at "sc"
abbrev vP:Stmt:=top 77
theorem ze5:FnScope ["_law_script","_law_work_here","_law_one","_law_other","_law_steps","_law_step","_law_first","_law_second","_law_row","_law_cells_here"] ["_law_script"] (zd vP):=by walk_at "sc"
local macro_rules | `(tactic| walk_at "T")=>`(tactic| (have m_list:=T.m_list;have m_len:=T.m_len;have m_tuple:=T.m_tuple;have m_range:=T.m_range;have m_sorted:=T.m_sorted;have m_enumerate:=T.m_enumerate;have m_isinstance:=T.m_isinstance;have m_reversed:=T.m_reversed;have m_all:=T.m_all;have m_max:=T.m_max;have m_zip:=T.m_zip))
structure Ad where
 State:Addr
 WorkError:Addr
 BadBelt:Addr
 BadKnot:Addr
 BadWork:Addr
 Belt:Addr
 Knot:Addr
 Source:Addr
 Drain:Addr
 Parter:Addr
 FirstParter:Addr
 Sieve:Addr
 Joiner:Addr
 Work:Addr
structure Txt (K:PySem.W.Frag) (mg:Str->Option Value) (a:Ad):Prop where
 h_kind_of:FA K mg "kind_of" Zw ["work","ware"]
 h_copied_state:FA K mg "copied_state" j8 ["state"]
 h_kinds_in:FA K mg "kinds_in" xT ["work","cells"]
 h_kind_place:FA K mg "kind_place" xU ["work","state","number"]
 h_shape_of:FA K mg "shape_of" j6 ["work","state"]
 h_alike:FA K mg "alike" XA ["work","one","other"]
 h_check_pace:FA K mg "check_pace" xX ["pace","least"]
 h_check_kind:FA K mg "check_kind" xY ["kind"]
 h_check_ways:FA K mg "check_ways" xV ["belts"]
 h_first_place:FA K mg "first_place" xv ["wanted","side"]
 h_place_for_ware:FA K mg "place_for_ware" jw ["head","free","side"]
 h_common:FA K mg "common" vQ ["one","other"]
 h_lasting:FA K mg "lasting" Zv ["paces"]
 h_check_size:FA K mg "check_size" xW ["belts","knots"]
 h_check_each_once:FA K mg "check_each_once" jn ["named","size"]
 h_heads_of:FA K mg "heads_of" j7 ["work","state","knot"]
 h_taken_ware:FA K mg "taken_ware" xS ["state","number","from_belt"]
 h_belt_at:FA K mg "belt_at" Zx ["belts","place"]
 h_counted_place:FA K mg "counted_place" jJ ["knot","chosen"]
 h_act:FA K mg "act" WD ["work","state","number"]
 h_act_all:FA K mg "act_all" Zy ["work","state"]
 h_move_belt:FA K mg "move_belt" wB ["cells"]
 h_pass_turn:FA K mg "pass_turn" xk ["work","state"]
 h_one_turn:FA K mg "one_turn" vv ["work","state"]
 h_moves_of:FA K mg "moves_of" vx ["work","state"]
 h_L_at:FA K mg "_law_at" VX ["_law_script","_law_k"]
 h_L_spread:FA K mg "_law_spread" vy ["_law_cell","_law_factor"]
 h_L_belt:FA K mg "_law_belt" QL ["_law_belts","_law_number","_law_span"]
 h_L_source:FA K mg "_law_source" xZ ["_law_out","_law_cell","_law_number","_law_span"]
 h_L_drain:FA K mg "_law_drain" ZA ["_law_into","_law_number","_law_span"]
 h_L_kind:FA K mg "_law_kind" QI ["_law_knots","_law_cell","_law_number"]
 h_L_joined:FA K mg "_law_joined" vA ["_law_belts","_law_ends","_law_loops","_law_into","_law_cell","_law_span"]
 h_L_parted:FA K mg "_law_parted" vz ["_law_into","_law_outs","_law_kind_here","_law_what"]
 h_L_grow:FA K mg "_law_grow" vR ["_law_belts","_law_knots","_law_ends","_law_loops","_law_cell","_law_span"]
 h_L_close:FA K mg "_law_close" ZB ["_law_belts","_law_knots","_law_ends","_law_loops","_law_cell","_law_span"]
 h_L_work:FA K mg "_law_work" QH ["_law_script"]
 h_L_beat:FA K mg "_law_beat" wC ["_law_work_here"]
 h_L_draw:FA K mg "_law_draw" QK ["_law_script","_law_k"]
 h_L_fold:FA K mg "_law_fold" QJ ["_law_script","_law_bound"]
 h_L_cells:FA K mg "_law_cells" xD ["_law_work_here","_law_script","_law_given"]
 h_L_made:FA K mg "_law_made" xC ["_law_work_here","_law_script"]
 h_L_shifted:FA K mg "_law_shifted" ji ["_law_work_here","_law_state","_law_script","_law_beat_here"]
 h_L_on:FA K mg "_law_on" VW ["_law_ware","_law_steps"]
 h_L_moves:FA K mg "_law_moves" Zz ["_law_one","_law_other","_law_steps"]
 h_L_grown:FA K mg "_law_grown" wS ["_law_before","_law_after"]
 m_list:mg "list"=none
 m_len:mg "len"=none
 m_tuple:mg "tuple"=none
 m_range:mg "range"=none
 m_sorted:mg "sorted"=none
 m_enumerate:mg "enumerate"=none
 m_isinstance:mg "isinstance"=none
 m_reversed:mg "reversed"=none
 m_all:mg "all"=none
 m_max:mg "max"=none
 m_zip:mg "zip"=none
 g_State:mg "State"=some (.ref a.State)
 g_BadBelt:mg "BadBelt"=some (.ref a.BadBelt)
 g_BadKnot:mg "BadKnot"=some (.ref a.BadKnot)
 g_BadWork:mg "BadWork"=some (.ref a.BadWork)
 g_Belt:mg "Belt"=some (.ref a.Belt)
 g_Source:mg "Source"=some (.ref a.Source)
 g_Drain:mg "Drain"=some (.ref a.Drain)
 g_Parter:mg "Parter"=some (.ref a.Parter)
 g_FirstParter:mg "FirstParter"=some (.ref a.FirstParter)
 g_Sieve:mg "Sieve"=some (.ref a.Sieve)
 g_Joiner:mg "Joiner"=some (.ref a.Joiner)
 g_Work:mg "Work"=some (.ref a.Work)
 C_State:Cls K a.State
 N_State_turn:NoAttr K a.State "turn"
 N_State_cells:NoAttr K a.State "cells"
 N_State_sides:NoAttr K a.State "sides"
 N_State_gone:NoAttr K a.State "gone"
 h_State_init:FK K a.State "State.__init__" qW ["self","turn","cells","sides","gone"]
 C_Belt:Cls K a.Belt
 N_Belt_room:NoAttr K a.Belt "room"
 N_Belt_pace:NoAttr K a.Belt "pace"
 h_Belt_init:FK K a.Belt "Belt.__init__" xm ["self","room","pace"]
 b_Knot_init:FB K mg "Knot" "__init__" "Knot.__init__" qO ["self","ins","outs"]
 C_Source:Cls K a.Source
 N_Source_pace:NoAttr K a.Source "pace"
 N_Source_kinds:NoAttr K a.Source "kinds"
 N_Source_ins:NoAttr K a.Source "ins"
 N_Source_outs:NoAttr K a.Source "outs"
 W_Source:WI K a.Source
 h_Source_init:FK K a.Source "Source.__init__" jB ["self","out","pace","kinds"]
 h_Source_choice:FM K a.Source "choice" "Source.choice" jL ["self","heads","free","turn","side"]
 h_Source_copied:FM K a.Source "copied" "Source.copied" jK ["self"]
 C_Drain:Cls K a.Drain
 N_Drain_pace:NoAttr K a.Drain "pace"
 N_Drain_ins:NoAttr K a.Drain "ins"
 N_Drain_outs:NoAttr K a.Drain "outs"
 W_Drain:WI K a.Drain
 h_Drain_init:FK K a.Drain "Drain.__init__" jW ["self","into","pace"]
 h_Drain_choice:FM K a.Drain "choice" "Drain.choice" xf ["self","heads","free","turn","side"]
 h_Drain_copied:FM K a.Drain "copied" "Drain.copied" xb ["self"]
 C_Parter:Cls K a.Parter
 N_Parter_ins:NoAttr K a.Parter "ins"
 N_Parter_outs:NoAttr K a.Parter "outs"
 W_Parter:WI K a.Parter
 h_Parter_init:FK K a.Parter "Parter.__init__" jC ["self","into","outs"]
 h_Parter_choice:FM K a.Parter "choice" "Parter.choice" jN ["self","heads","free","turn","side"]
 h_Parter_copied:FM K a.Parter "copied" "Parter.copied" jM ["self"]
 C_FirstParter:Cls K a.FirstParter
 N_FirstParter_ins:NoAttr K a.FirstParter "ins"
 N_FirstParter_outs:NoAttr K a.FirstParter "outs"
 W_FirstParter:WI K a.FirstParter
 h_FirstParter_init:FK K a.FirstParter "FirstParter.__init__" qJ ["self","into","outs"]
 h_FirstParter_choice:FM K a.FirstParter "choice" "FirstParter.choice" qQ ["self","heads","free","turn","side"]
 h_FirstParter_copied:FM K a.FirstParter "copied" "FirstParter.copied" qP ["self"]
 C_Sieve:Cls K a.Sieve
 N_Sieve_kind:NoAttr K a.Sieve "kind"
 N_Sieve_ins:NoAttr K a.Sieve "ins"
 N_Sieve_outs:NoAttr K a.Sieve "outs"
 W_Sieve:WI K a.Sieve
 h_Sieve_init:FK K a.Sieve "Sieve.__init__" jV ["self","into","outs","kind"]
 h_Sieve_choice:FM K a.Sieve "choice" "Sieve.choice" xa ["self","heads","free","turn","side"]
 h_Sieve_place_for:FM K a.Sieve "place_for" "Sieve.place_for" jp ["self","kind"]
 h_Sieve_copied:FM K a.Sieve "copied" "Sieve.copied" j9 ["self"]
 C_Joiner:Cls K a.Joiner
 N_Joiner_ins:NoAttr K a.Joiner "ins"
 N_Joiner_outs:NoAttr K a.Joiner "outs"
 W_Joiner:WI K a.Joiner
 h_Joiner_init:FK K a.Joiner "Joiner.__init__" jD ["self","ins","out"]
 h_Joiner_choice:FM K a.Joiner "choice" "Joiner.choice" jc ["self","heads","free","turn","side"]
 h_Joiner_copied:FM K a.Joiner "copied" "Joiner.copied" jO ["self"]
 C_Work:Cls K a.Work
 N_Work_belts:NoAttr K a.Work "belts"
 N_Work_knots:NoAttr K a.Work "knots"
 h_Work_init:FK K a.Work "Work.__init__" jh ["self","belts","knots"]
 h_Work_drains:FM K a.Work "drains" "Work.drains" jA ["self"]
 h_Work_sources:FM K a.Work "sources" "Work.sources" jo ["self"]
 h_Work_beat:FM K a.Work "beat" "Work.beat" xl ["self"]
 g_MOST_ROOM:∃ t,mg "MOST_ROOM"=some (.int 6 t)
 g_MOST_PACE:∃ t,mg "MOST_PACE"=some (.int 4 t)
 g_MOST_KINDS:∃ t,mg "MOST_KINDS"=some (.int 6 t)
 g_FEWEST_WAYS:∃ t,mg "FEWEST_WAYS"=some (.int 2 t)
 g_MOST_WAYS:∃ t,mg "MOST_WAYS"=some (.int 4 t)
 g_MOST_BELTS:∃ t,mg "MOST_BELTS"=some (.int 24 t)
 g_MOST_KNOTS:∃ t,mg "MOST_KNOTS"=some (.int 24 t)
 X_BadBelt:XC K a.BadBelt
 X_BadKnot:XC K a.BadKnot
 X_BadWork:XC K a.BadWork
 k1_Source_Drain:PySem.W.kitOne K (.ref a.Source) (.ref a.Drain)=some false
 k1_Drain_Drain:PySem.W.kitOne K (.ref a.Drain) (.ref a.Drain)=some true
 k1_Parter_Drain:PySem.W.kitOne K (.ref a.Parter) (.ref a.Drain)=some false
 k1_FirstParter_Drain:PySem.W.kitOne K (.ref a.FirstParter) (.ref a.Drain)=some false
 k1_Sieve_Drain:PySem.W.kitOne K (.ref a.Sieve) (.ref a.Drain)=some false
 k1_Joiner_Drain:PySem.W.kitOne K (.ref a.Joiner) (.ref a.Drain)=some false
 k1_Source_Source:PySem.W.kitOne K (.ref a.Source) (.ref a.Source)=some true
 k1_Drain_Source:PySem.W.kitOne K (.ref a.Drain) (.ref a.Source)=some false
 k1_Parter_Source:PySem.W.kitOne K (.ref a.Parter) (.ref a.Source)=some false
 k1_FirstParter_Source:PySem.W.kitOne K (.ref a.FirstParter) (.ref a.Source)=some false
 k1_Sieve_Source:PySem.W.kitOne K (.ref a.Sieve) (.ref a.Source)=some false
 k1_Joiner_Source:PySem.W.kitOne K (.ref a.Joiner) (.ref a.Source)=some false
 k1_Source_Joiner:PySem.W.kitOne K (.ref a.Source) (.ref a.Joiner)=some false
 k1_Drain_Joiner:PySem.W.kitOne K (.ref a.Drain) (.ref a.Joiner)=some false
 k1_Parter_Joiner:PySem.W.kitOne K (.ref a.Parter) (.ref a.Joiner)=some false
 k1_FirstParter_Joiner:PySem.W.kitOne K (.ref a.FirstParter) (.ref a.Joiner)=some false
 k1_Sieve_Joiner:PySem.W.kitOne K (.ref a.Sieve) (.ref a.Joiner)=some false
 k1_Joiner_Joiner:PySem.W.kitOne K (.ref a.Joiner) (.ref a.Joiner)=some true
 k1_Source_Parter:PySem.W.kitOne K (.ref a.Source) (.ref a.Parter)=some false
 k1_Drain_Parter:PySem.W.kitOne K (.ref a.Drain) (.ref a.Parter)=some false
 k1_Parter_Parter:PySem.W.kitOne K (.ref a.Parter) (.ref a.Parter)=some true
 k1_FirstParter_Parter:PySem.W.kitOne K (.ref a.FirstParter) (.ref a.Parter)=some false
 k1_Sieve_Parter:PySem.W.kitOne K (.ref a.Sieve) (.ref a.Parter)=some false
 k1_Joiner_Parter:PySem.W.kitOne K (.ref a.Joiner) (.ref a.Parter)=some false
section
variable {P:Program} {w:World} {K:PySem.W.Frag} {mg:Str->Option Value} {base:Heap} {a:Ad} {f:Addr} {fd:FuncData}
theorem at0 {α:Type} {x:α} {xs:List α}:atI (x :: xs) 0=some x:=by
 have:=zG (xs:=x :: xs) (j:=0) rfl;simpa using this
def iv (ns:List Int):List V:=ns.map V.int
def kf (l1 l2:Addr):List (Str × V):=qr "outs" (.ref l2) (qr "ins" (.ref l1) [])
theorem zft {l1 l2:Addr}:(kf l1 l2).lookup ("ins":Str)=some (.ref l1):=by
 unfold kf;rw [qq,aw (by decide +kernel),qq,aA rfl]
theorem zen {l1 l2:Addr}:(kf l1 l2).lookup ("outs":Str)=some (.ref l2):=by
 unfold kf;rw [qq,aA rfl]
theorem zag {l1 l2:Addr}:(kf l1 l2).length < 1000:=by
 unfold kf;have:=xo "outs" (V.ref l2) (qr "ins" (.ref l1) []);have:=xo "ins" (V.ref l1) [];simp at *;omega
theorem zgb {l1 l2:Addr} {m:Str} (h1:m≠"ins") (h2:m≠"outs"):(kf l1 l2).lookup m=none:=by
 unfold kf;rw [qq,aw h2,qq,aw h1];rfl
def Own (H H':Hp) (y:Addr):Prop:=∀ b o,b≠y->H b=some o->H' b=some o
theorem Same.own {H H':Hp} {y:Addr} (s:Same H H'):Own H H' y:=λ b o _ h=>s b o h
theorem Own.trans {H1 H2 H3:Hp} {y:Addr} (s:Own H1 H2 y) (t:Own H2 H3 y):Own H1 H3 y:=λ b o hb h=>t b o hb (s b o hb h)
theorem jd {H:Hp} {y:Addr} {o:HO}:Own H (upd H y o) y:=λ b u hb h=>by rw [upd_ne hb];exact h
theorem Own.of_new {H H':Hp} {y dx:Addr} {o p:HO} (hy:H y=none) (hd:H dx=none) (s:Own (upd (upd H dx o) y p) H' y):Same H H':=λ b u h =>
 s b u (ne_of_none h hy) (by rw [upd_ne (ne_of_none h hy),upd_ne (ne_of_none h hd)];exact h)
theorem zJ {H:Hp} {p b:Addr} {o:HO} (h:upd H p o b=none):H b=none:=by
 by_cases e:b=p
 ·subst e;rw [upd_same] at h;cases h
 ·rw [upd_ne e] at h;exact h
def Qx (K:PySem.W.Frag):Sp:=λ vs H Q _=>∃ (y C dx i o:Addr) (xs ys:List V),vs=[.ref y,.ref i,.ref o]/\H y=some (.ins C dx [])/\Cls K C/\NoAttr K C "ins"/\NoAttr K C "outs"/\SqL K H i xs/\SqL K H o ys/\i≠y/\o≠y /\
 ∀ H' l1 l2,Own H H' y->H' y=some (.ins C dx (kf l1 l2))->H' l1=some (.lst xs)->H' l2=some (.lst ys)->H l1=none->H l2=none->Q .non H'
theorem zaC {H H':Hp} {y l:Addr} {xs:List V} (h:SqL K H l xs) (s:Own H H' y) (hl:l≠y):SqL K H' l xs:=by
 rcases h with h|h
 ·refine .inl ?_;rcases h with h|⟨ob,h⟩
  ·exact .inl (s _ _ hl h)
  ·exact .inr ⟨ob,s _ _ hl h⟩
 ·exact .inr h
theorem XN (T:Txt K mg a) (F:Fun K "__init__" "Knot.__init__" qO f fd):FnOk P w K mg base (CXr P w) 1 f fd ["self","ins","outs"] (Qx K):=by
 refine F.okx Xy ?_ ?_
 ·walk_at "i"
 walk_at "k";refine oE7 h λ y C dx i o xs ys z1_=>oA6 z1_ λ z2_ hy hC hN1 hN2 z3_=>oA5 z3_ λ hi ho hiy hoy k=>?_;clear h;subst z2_;walk_at "T";refine ⟨_,(zi (jq (pq 0) (wE wV xr (za (pq 1) zb)) rfl)  (zc (jq (pq 0) (wE wV xr (za (pq 2) zb)) rfl))),?_⟩;walk_at "go";refine iE2 i xs (iA3 rfl (.inl hi) (λ l1 h1=>?_));walk_at "go";have y1:y≠l1:=ne_of_none hy h1;refine iE4 y C dx ([]) (iA6 rfl (upd_keep hy h1) hC hN1 (by decide) ?_);walk_at "go";have s1:Own H (upd (upd H l1 (.lst xs)) y (.ins C dx (qr "ins" (.ref l1) []))) y:=(Same.own (ze h1)).trans jd;refine iE2 o ys (iA3 rfl (.inl (zaC ho s1 hoy)) (λ l2 h2=>?_));walk_at "go";have y2:y≠l2:=ne_of_none upd_same h2;have l12:l1≠l2:=λ z=>by
  rw [<- z,upd_ne (aX y1),upd_same] at h2;cases h2
 refine iE4 y C dx _ (iA6 rfl (upd_keep upd_same h2) hC hN2 (by show 1 < 1000;decide) ?_);refine k _ l1 l2 (s1.trans ((Same.own (ze h2)).trans jd)) upd_same ?_ ?_ h1 ?_
 ·rw [upd_ne (aX y1),upd_ne l12,upd_ne (aX y1),upd_same]
 ·rw [upd_ne (aX y2),upd_same]
 ·rw [upd_ne (aX y2),upd_ne (aX l12)] at h2;exact h2
theorem b_Knot_init (T:Txt K mg a):BCal P w K mg base "Knot" "__init__" 1 ["self","ins","outs"] [] (Qx K):=T.b_Knot_init.cal (XN T)
def Wo (K:PySem.W.Frag) (a:Ad):Sp:=λ vs H Q E=>∃ (l:Addr) (xs:List V),vs=[.ref l]/\SqL K H l xs/\if 2<=xs.length/\xs.length<=4 then Q .non H else E (.ref a.BadKnot) none H
theorem wm (T:Txt K mg a):Cal P w K mg base "check_ways" 1 ["belts"] [] (Wo K a):=T.h_check_ways.cal λ F=>by
 refine F.okx Jw ?_ ?_
 ·walk_at "i"
 walk_at "k";refine oE2 h λ l xs z1_=>oA3 z1_ λ z2_ hl k=>?_;clear h;subst z2_;walk_at "T";refine ⟨_,(zc (zA (jP (jF xh xh jk (zP zY zX (za (pq 0) zb)) jk))  (zc (jb ⟨rfl,rfl,rfl⟩ rfl (za xy zb)))  zl)),?_⟩;walk_at "go";obtain ⟨t1,g1⟩:=T.g_FEWEST_WAYS;obtain ⟨t2,g2⟩:=T.g_MOST_WAYS;have bad:¬ (2<=xs.length/\xs.length<=4)->∃ C,mg "BadKnot"=some (Value.ref C)/\XC K C/\E (Value.ref C) none H:=λ h=>by
  rw [aw h] at k;exact ⟨a.BadKnot,iA3 T.g_BadKnot T.X_BadKnot k⟩
 refine iE2 (.int 2) _ (iA3 g1 ⟨_,rfl⟩ ?_);walk_at "go";refine ⟨_,.inl ⟨_,hl,rfl⟩,?_⟩;walk_at "r";refine zI (λ h1=>?_) (λ h1=>bad (by omega));refine iE2 (.int 4) _ (iA3 g2 ⟨_,rfl⟩ ?_);walk_at "r";refine zI (λ h2=>?_) (λ h2=>bad (by omega));rw [aA (by omega)] at k;exact k
def Wq (a:Ad):Sp:=λ vs H Q E=>∃ p q:Int,vs=[.int p,.int q]/\if q<=p/\p<=4 then Q .non H else E (.ref a.BadKnot) none H
theorem Zh (T:Txt K mg a):Cal P w K mg base "check_pace" 1 ["pace","least"] [] (Wq a):=T.h_check_pace.cal λ F=>by
 refine F.okx Jy ?_ ?_
 ·walk_at "i"
 walk_at "k";refine oE2 h λ p q z1_=>oA2 z1_ λ z2_ k=>?_;clear h;subst z2_;walk_at "T";refine ⟨_,(zc (zA (jP (jF xh xh (pq 1) (pq 0) jk))  (zc (jb ⟨rfl,rfl,rfl⟩ rfl (za xy zb)))  zl)),?_⟩;walk_at "go";obtain ⟨t1,g1⟩:=T.g_MOST_PACE;have bad:¬ (q<=p/\p<=4)->∃ C,mg "BadKnot"=some (Value.ref C)/\XC K C/\E (Value.ref C) none H:=λ h=>by
  rw [aw h] at k;exact ⟨a.BadKnot,iA3 T.g_BadKnot T.X_BadKnot k⟩
 refine zI (λ h1=>?_) (λ h1=>bad (by omega));refine iE2 (.int 4) _ (iA3 g1 ⟨_,rfl⟩ ?_);walk_at "go";refine zI (λ h2=>?_) (λ h2=>bad (by omega));rw [aA (by omega)] at k;walk_at "go";exact k
abbrev js:Int:=1000000000000000000000000000000
def Wr (a:Ad):Sp:=λ vs H Q E=>∃ n:Int,vs=[.int n]/\if 0<=n/\n < js then Q .non H else E (.ref a.BadKnot) none H
theorem Zi (T:Txt K mg a):Cal P w K mg base "check_kind" 1 ["kind"] [] (Wr a):=T.h_check_kind.cal λ F=>by
 refine F.okx Jz ?_ ?_
 ·walk_at "i"
 walk_at "k";obtain ⟨n,rfl,k⟩:=h;walk_at "T";refine ⟨_,(zc (zA (jP (jF xh zcY zf (pq 0) QR))  (zc (jb ⟨rfl,rfl,rfl⟩ rfl (za xy zb)))  zl)),?_⟩;walk_at "go";have bad:¬ (0<=n/\n < js)->∃ C,mg "BadKnot"=some (Value.ref C)/\XC K C/\E (Value.ref C) none H:=λ h=>by
  rw [aw h] at k;exact ⟨a.BadKnot,iA3 T.g_BadKnot T.X_BadKnot k⟩
 refine zI (λ h1=>?_) (λ h1=>bad (by omega));walk_at "go";refine zI (λ h2=>?_) (λ h2=>bad (by unfold js;omega));rw [aA (by unfold js;omega)] at k;walk_at "go";exact k
def X0 (bs:List Bool) (side:Nat):Nat->Nat->Option Nat
 | 0,_=>none
 | n + 1,k=>if bs.getD ((side + k) % bs.length) false=true then some ((side + k) % bs.length) else X0 bs side n (k + 1)
def jz (bs:List Bool) (side:Nat):Option Nat:=X0 bs side bs.length 0
def wX:Option Nat->V
 | none=>.non
 | some n=>.int n
theorem zaZ {bs:List Bool} {side:Nat} (h:0 < bs.length):∀ {n k p:Nat},X0 bs side n k=some p->p < bs.length
 | 0,_,_,e=>by simp [X0] at e
 | n + 1,k,p,e=>by
  unfold X0 at e
  split at e
  ·cases e;exact dN _ h
  ·exact zaZ h e
theorem xK {bs:List Bool} {side p:Nat} (e:jz bs side=some p):p < bs.length:=by
 by_cases h:0 < bs.length
 ·exact zaZ h e
 ·unfold jz at e;rw [show bs.length=0 by omega] at e;simp [X0] at e
def Xo (K:PySem.W.Frag):Sp:=λ vs H Q _=>∃ (l:Addr) (bs:List Bool) (side:Nat),vs=[.ref l,.int side]/\SqL K H l (bs.map V.bl)/\bs.length<=1000/\Q (wX (jz bs side)) H
theorem vm (T:Txt K mg a):Cal P w K mg base "first_place" 1 ["wanted","side"] [] (Xo K):=T.h_first_place.cal λ F=>by
 refine F.okx QC ?_ ?_
 ·walk_at "i"
 walk_at "k";obtain ⟨l,bs,side,rfl,hl,hb,k⟩:=h;walk_at "T";refine ⟨_,(zi (qh qF rfl (x9 (za (zP zY zX (za (pq 0) zb)) zb)) (zW 2 QC.nd)  (zi (zp 3 QC.nd (zq qt (zq zL (pq 1) (pq 2)) (zP zY zX (za (pq 0) zb))))  (zc (zA (qf (zw (pq 0) (pq 3)) (λ _=>rfl))  (zc (zk (pq 3)))  zl))))  (zc (zk zD))),?_⟩;walk_at "for";walk_at "go";refine ⟨_,.inl ⟨_,hl,rfl⟩,by omega,by rw [ae];omega,?_⟩;refine Zd (λ i σ H'=>∃ v2 v3,σ=[some (.ref l),some (.int side),v2,v3]/\H'=H/\Q (wX (X0 bs side (bs.length - i) i)) H) ⟨_,_,rfl,rfl,k⟩ ?_ ?_
 ·rintro i σ H' hi ⟨v2,v3,rfl,rfl,k⟩;have hi:i < bs.length:=by simpa using hi
  walk_at "go";refine ⟨_,.inl ⟨_,hl,rfl⟩,?_⟩;walk_at "r";rw [ae];refine And.intro (by omega) ?_;have e:((side:Int) + (0 + (i:Int))) % (bs.length:Int)=(((side + i) % bs.length:Nat):Int):=by push_cast;rw [Int.zero_add]
  rw [e];have hlt:(side + i) % bs.length < bs.length:=dN _ (by omega);refine zu hl (zG (by rw [ak,ad hlt];rfl)) ?_;walk_at "r";have em:bs.length - i=(bs.length - (i + 1)) + 1:=by omega
  rw [em,X0] at k;have eg:bs.getD ((side + i) % bs.length) false=bs[(side + i) % bs.length]:=by simp [hlt]
  rw [eg] at k;cases hbb:bs[(side + i) % bs.length] with
  | true =>
   rw [hbb,aA rfl] at k;walk_at "r";exact k
  | false =>
   rw [hbb,aw (by decide)] at k;walk_at "r"
   first|exact ⟨_,_,rfl,rfl,k⟩|exact ⟨_,_,rfl,k⟩|exact k
 ·rintro σ H' ⟨v2,v3,rfl,rfl,k⟩;walk_at "r";simpa [X0,wX] using k
def VF (K:PySem.W.Frag):Sp:=λ vs H Q _=>∃ (v:V) (l:Addr) (bs:List Bool) (side:Nat),vs=[v,.ref l,.int side]/\SqL K H l (bs.map V.bl)/\bs.length<=1000/\Q (if v=.non then .non else wX (jz bs side)) H
theorem xL (T:Txt K mg a):Cal P w K mg base "place_for_ware" 2 ["head","free","side"] [] (VF K):=T.h_place_for_ware.cal λ F=>by
 refine F.okx vO ?_ ?_
 ·walk_at "i"
 walk_at "k";refine oE4 h λ v l bs side z1_=>oA4 z1_ λ z2_ hl hb k=>?_;clear h;subst z2_;walk_at "T";refine ⟨_,(zc (zk (xg (zm je (pq 0) zD (zr _)) zD (zt ⟨rfl,rfl,rfl⟩ hr (za (pq 1) (za (pq 2) zb)))))),?_⟩;walk_at "go";refine zI (λ h=>?_) (λ h=>?_)
 ·rw [aA h] at k;walk_at "r";exact k
 ·rw [aw h] at k;walk_at "r";exact iE3 _ _ _ ⟨vm T,⟨l,bs,side,rfl,hl,hb,k⟩⟩
def qV (K:PySem.W.Frag) (C CB:Addr):Sp:=λ vs H Q E=>∃ (y dx o:Addr) (into:V) (ys:List V),vs=[.ref y,into,.ref o]/\H y=some (.ins C dx [])/\SqL K H o ys/\o≠y /\
 if 2<=ys.length/\ys.length<=4 then ∀ H' l1 l2,Own H H' y->H' y=some (.ins C dx (kf l1 l2))->H' l1=some (.lst [into])->H' l2=some (.lst ys)->H l1=none->H l2=none->Q .non H' else E (.ref CB) none H
theorem QU (T:Txt K mg a) (F:Fun K "__init__" "Parter.__init__" jC f fd):FnOk P w K mg base (CXr P w) 2 f fd ["self","into","outs"] (qV K a.Parter a.BadKnot):=by
 refine F.okx QF ?_ ?_
 ·walk_at "i"
 walk_at "k";refine oE5 h λ y dx o into ys z1_=>oA5 z1_ λ z2_ hy ho hoy k=>?_;clear h;subst z2_;walk_at "T";refine ⟨_,(zi (zo (zt ⟨rfl,rfl,rfl⟩ hr (za (pq 2) zb)))  (zc (zo (wT ⟨rfl,rfl,rfl⟩ hr (za (pq 0) (za (zO (za (pq 1) zb)) (za (pq 2) zb))))))),?_⟩;walk_at "go";refine iE3 _ _ _ ⟨wm T,⟨o,ys,rfl,ho,zI (λ hok=>?_) (λ hok=>?_)⟩⟩
 ·rw [aA hok] at k;walk_at "go";refine iE3 _ _ _ ⟨b_Knot_init T,λ p hp=>(iE7 y a.Parter dx p o ([into]) ys (iA6 rfl (upd_keep hy hp) T.C_Parter T.N_Parter_ins T.N_Parter_outs (iA5 (SqL.of upd_same) ((ze hp).seq ho) ((ne_of_none hy hp).symm) hoy (λ H' l1 l2 s h1 h2 h3 h4 h5=>?_))))⟩;exact k H' l1 l2 ((Same.own (ze hp)).trans s) h1 h2 h3 (zJ h4) (zJ h5)
 ·rw [aw hok] at k;exact k
theorem Vb (T:Txt K mg a):KCal P w K mg base "Parter" a.Parter 2 ["self","into","outs"] [] (qV K a.Parter a.BadKnot):=T.h_Parter_init.cal T.g_Parter (QU T)
theorem wY (T:Txt K mg a) (F:Fun K "__init__" "FirstParter.__init__" qJ f fd):FnOk P w K mg base (CXr P w) 2 f fd ["self","into","outs"] (qV K a.FirstParter a.BadKnot):=by
 refine F.okx wW ?_ ?_
 ·walk_at "i"
 walk_at "k";refine oE5 h λ y dx o into ys z1_=>oA5 z1_ λ z2_ hy ho hoy k=>?_;clear h;subst z2_;walk_at "T";refine ⟨_,(zi (zo (zt ⟨rfl,rfl,rfl⟩ hr (za (pq 2) zb)))  (zc (zo (wT ⟨rfl,rfl,rfl⟩ hr (za (pq 0) (za (zO (za (pq 1) zb)) (za (pq 2) zb))))))),?_⟩;walk_at "go";refine iE3 _ _ _ ⟨wm T,⟨o,ys,rfl,ho,zI (λ hok=>?_) (λ hok=>?_)⟩⟩
 ·rw [aA hok] at k;walk_at "go";refine iE3 _ _ _ ⟨b_Knot_init T,λ p hp=>(iE7 y a.FirstParter dx p o ([into]) ys (iA6 rfl (upd_keep hy hp) T.C_FirstParter T.N_FirstParter_ins T.N_FirstParter_outs (iA5 (SqL.of upd_same) ((ze hp).seq ho) ((ne_of_none hy hp).symm) hoy (λ H' l1 l2 s h1 h2 h3 h4 h5=>?_))))⟩;exact k H' l1 l2 ((Same.own (ze hp)).trans s) h1 h2 h3 (zJ h4) (zJ h5)
 ·rw [aw hok] at k;exact k
theorem vd (T:Txt K mg a):KCal P w K mg base "FirstParter" a.FirstParter 2 ["self","into","outs"] [] (qV K a.FirstParter a.BadKnot):=T.h_FirstParter_init.cal T.g_FirstParter (wY T)
def vf (l1 l2:Addr) (n:Int):List (Str × V):=qr "kind" (.int n) (kf l1 l2)
theorem zdR {l1 l2:Addr} {n:Int}:(vf l1 l2 n).lookup ("kind":Str)=some (.int n):=by
 unfold vf;rw [qq,aA rfl]
theorem zfV {l1 l2:Addr} {n:Int} {m:Str} (h1:m≠"ins") (h2:m≠"outs") (h3:m≠"kind"):(vf l1 l2 n).lookup m=none:=by
 unfold vf;rw [qq,aw h3];exact zgb h1 h2
def ww (K:PySem.W.Frag) (C CB:Addr):Sp:=λ vs H Q E=>∃ (y dx o:Addr) (into:V) (ys:List V) (n:Int),vs=[.ref y,into,.ref o,.int n]/\H y=some (.ins C dx [])/\SqL K H o ys/\o≠y /\
 if ys.length=2/\0<=n/\n < js then ∀ H' l1 l2,Own H H' y->H' y=some (.ins C dx (vf l1 l2 n))->H' l1=some (.lst [into])->H' l2=some (.lst ys)->H l1=none->H l2=none->Q .non H' else E (.ref CB) none H
theorem JE (T:Txt K mg a) (F:Fun K "__init__" "Sieve.__init__" jV f fd):FnOk P w K mg base (CXr P w) 2 f fd ["self","into","outs","kind"] (ww K a.Sieve a.BadKnot):=by
 refine F.okx JB ?_ ?_
 ·walk_at "i"
 walk_at "k";refine oE6 h λ y dx o into ys n z1_=>oA5 z1_ λ z2_ hy ho hoy k=>?_;clear h;subst z2_;walk_at "T";refine ⟨_,(zi (zA (zm (xF hr.units1) (zP zY zX (za (pq 2) zb)) zf (zr _))  (zc (jb ⟨rfl,rfl,rfl⟩ rfl (za xy zb)))  zl)  (zi (zo (zt ⟨rfl,rfl,rfl⟩ hr (za (pq 3) zb)))  (zi (zo (wT ⟨rfl,rfl,rfl⟩ hr (za (pq 0) (za (zO (za (pq 1) zb)) (za (pq 2) zb)))))  (zc (jq (pq 0) (pq 3) rfl))))),?_⟩;walk_at "go";refine ⟨_,.inl ⟨_,ho,rfl⟩,?_⟩;walk_at "go";refine zI (λ h1=>?_) (λ h1=>?_)
 ·rw [aw (by omega)] at k;exact ⟨a.BadKnot,iA3 T.g_BadKnot T.X_BadKnot k⟩
 ·refine iE3 _ _ _ ⟨Zi T,⟨n,rfl,zI (λ hok=>?_) (λ hok=>?_)⟩⟩
  ·rw [aA ⟨by omega,hok⟩] at k;walk_at "go";refine iE3 _ _ _ ⟨b_Knot_init T,λ p hp=>(iE7 y a.Sieve dx p o ([into]) ys (iA6 rfl (upd_keep hy hp) T.C_Sieve T.N_Sieve_ins T.N_Sieve_outs (iA5 (SqL.of upd_same) ((ze hp).seq ho) ((ne_of_none hy hp).symm) hoy (λ H' l1 l2 s h1 h2 h3 h4 h5=>?_))))⟩;walk_at "go";refine iE4 y a.Sieve dx _ (iA6 rfl h1 T.C_Sieve T.N_Sieve_kind zag ?_);exact k _ l1 l2 (((Same.own (ze hp)).trans s).trans jd) upd_same (by rw [upd_ne (ZT h2 h1 (by intro z;cases z))];exact h2) (by rw [upd_ne (ZT h3 h1 (by intro z;cases z))];exact h3) (zJ h4) (zJ h5)
  ·rw [aw (λ z=>hok z.2)] at k;exact k
theorem zaQ (T:Txt K mg a):KCal P w K mg base "Sieve" a.Sieve 2 ["self","into","outs","kind"] [] (ww K a.Sieve a.BadKnot):=T.h_Sieve_init.cal T.g_Sieve (JE T)
def xP (K:PySem.W.Frag) (C CB:Addr):Sp:=λ vs H Q E=>∃ (y dx o:Addr) (out:V) (ys:List V),vs=[.ref y,.ref o,out]/\H y=some (.ins C dx [])/\SqL K H o ys/\o≠y /\
 if 2<=ys.length/\ys.length<=4 then ∀ H' l1 l2,Own H H' y->H' y=some (.ins C dx (kf l1 l2))->H' l1=some (.lst ys)->H' l2=some (.lst [out])->H l1=none->H l2=none->Q .non H' else E (.ref CB) none H
theorem QV (T:Txt K mg a) (F:Fun K "__init__" "Joiner.__init__" jD f fd):FnOk P w K mg base (CXr P w) 2 f fd ["self","ins","out"] (xP K a.Joiner a.BadKnot):=by
 refine F.okx QG ?_ ?_
 ·walk_at "i"
 walk_at "k";refine oE5 h λ y dx o out ys z1_=>oA5 z1_ λ z2_ hy ho hoy k=>?_;clear h;subst z2_;walk_at "T";refine ⟨_,(zi (zo (zt ⟨rfl,rfl,rfl⟩ hr (za (pq 1) zb)))  (zc (zo (wT ⟨rfl,rfl,rfl⟩ hr (za (pq 0) (za (pq 1) (za (zO (za (pq 2) zb)) zb))))))),?_⟩;walk_at "go";refine iE3 _ _ _ ⟨wm T,⟨o,ys,rfl,ho,zI (λ hok=>?_) (λ hok=>?_)⟩⟩
 ·rw [aA hok] at k;walk_at "go";refine iE3 _ _ _ ⟨b_Knot_init T,λ p hp=>(iE7 y a.Joiner dx o p ys ([out]) (iA6 rfl (upd_keep hy hp) T.C_Joiner T.N_Joiner_ins T.N_Joiner_outs (iA5 ((ze hp).seq ho) (SqL.of upd_same) hoy ((ne_of_none hy hp).symm) (λ H' l1 l2 s h1 h2 h3 h4 h5=>?_))))⟩;exact k H' l1 l2 ((Same.own (ze hp)).trans s) h1 h2 h3 (zJ h4) (zJ h5)
 ·rw [aw hok] at k;exact k
theorem Vc (T:Txt K mg a):KCal P w K mg base "Joiner" a.Joiner 2 ["self","ins","out"] [] (xP K a.Joiner a.BadKnot):=T.h_Joiner_init.cal T.g_Joiner (QV T)
def df (l1 l2:Addr) (p:Int):List (Str × V):=qr "pace" (.int p) (kf l1 l2)
theorem X2 {l1 l2:Addr} {p:Int}:(df l1 l2 p).lookup ("pace":Str)=some (.int p):=by
 unfold df;rw [qq,aA rfl]
theorem vU (f:Str) (v:V):∀ fs:List (Str × V),(qr f v fs).length<=fs.length + 1
 | []=>by simp [qr]
 | (g,x) :: r=>by
  unfold qr
  split
  ·simp
  ·have:=vU f v r;simp;omega
theorem zeo {l1 l2:Addr}:(kf l1 l2).length<=2:=by
 unfold kf;have h1:=vU "outs" (V.ref l2) (qr "ins" (.ref l1) []);have h2:=vU "ins" (V.ref l1) [];simp only [cP] at h2;omega
theorem zfH {l1 l2:Addr} {p:Int}:(df l1 l2 p).length < 1000:=by
 unfold df;have h1:=vU "pace" (V.int p) (kf l1 l2);have h2:=zeo (l1:=l1) (l2:=l2);omega
def wx (C CB:Addr):Sp:=λ vs H Q E=>∃ (y dx:Addr) (into:V) (p:Int),vs=[.ref y,into,.int p]/\H y=some (.ins C dx []) /\
 if 0<=p/\p<=4 then ∀ H' l1 l2,Own H H' y->H' y=some (.ins C dx (df l1 l2 p))->H' l1=some (.lst [into])->H' l2=some (.lst [])->H l1=none->H l2=none->Q .non H' else E (.ref CB) none H
theorem JF (T:Txt K mg a) (F:Fun K "__init__" "Drain.__init__" jW f fd):FnOk P w K mg base (CXr P w) 2 f fd ["self","into","pace"] (wx a.Drain a.BadKnot):=by
 refine F.okx JC ?_ ?_
 ·walk_at "i"
 walk_at "k";refine oE4 h λ y dx into p z1_=>oA3 z1_ λ z2_ hy k=>?_;clear h;subst z2_;walk_at "T";refine ⟨_,(zi (zo (zt ⟨rfl,rfl,rfl⟩ hr (za (pq 2) (za zf zb))))  (zi (zo (wT ⟨rfl,rfl,rfl⟩ hr (za (pq 0) (za (zO (za (pq 1) zb)) (za (zO zb) zb)))))  (zc (jq (pq 0) (pq 2) rfl)))),?_⟩;walk_at "go";refine iE3 _ _ _ ⟨Zh T,⟨p,0,rfl,zI (λ hok=>?_) (λ hok=>?_)⟩⟩
 ·rw [aA hok] at k;walk_at "go";refine iE3 _ _ _ ⟨b_Knot_init T,λ q1 hq1 q2 hq2=>?_⟩;have n12:q1≠q2:=ne_of_none upd_same hq2;have hy2:=upd_keep (o:=.lst []) (upd_keep (o:=.lst [into]) hy hq1) hq2;refine iE7 y a.Drain dx q1 q2 ([into]) ([]) (iA6 rfl hy2 T.C_Drain T.N_Drain_ins T.N_Drain_outs (iA5 (SqL.of (upd_keep upd_same hq2)) (SqL.of upd_same) ((ne_of_none hy hq1).symm) ((ne_of_none (upd_keep hy hq1) hq2).symm) (λ H' l1 l2 s h1 h2 h3 h4 h5=>?_)));walk_at "go";refine iE4 y a.Drain dx _ (iA6 rfl h1 T.C_Drain T.N_Drain_pace zag ?_);exact k _ l1 l2 (((Same.own ((ze hq1).trans (ze hq2))).trans s).trans jd) upd_same (by rw [upd_ne (ZT h2 h1 (by intro z;cases z))];exact h2) (by rw [upd_ne (ZT h3 h1 (by intro z;cases z))];exact h3) (zJ (zJ h4)) (zJ (zJ h5))
 ·rw [aw hok] at k;exact k
theorem XU (T:Txt K mg a):KCal P w K mg base "Drain" a.Drain 2 ["self","into","pace"] [] (wx a.Drain a.BadKnot):=T.h_Drain_init.cal T.g_Drain (JF T)
def sf (l1 l2:Addr) (p:Int) (l3:Addr):List (Str × V):=qr "kinds" (.ref l3) (df l1 l2 p)
theorem zdY {l1 l2 l3:Addr} {p:Int}:(sf l1 l2 p l3).lookup ("pace":Str)=some (.int p):=by
 unfold sf;rw [qq,aw (by decide +kernel)];exact X2
def wQ (ks:List Int):Prop:=∀ n∈ks,0<=n/\n < js
def xO (K:PySem.W.Frag) (C CB:Addr):Sp:=λ vs H Q E=>∃ (y dx l:Addr) (out:V) (p:Int) (ks:List Int),vs=[.ref y,out,.int p,.ref l]/\H y=some (.ins C dx [])/\SqL K H l (ks.map V.int)/\l≠y /\
 ((1<=p/\p<=4/\1<=ks.length/\ks.length<=6/\wQ ks->∀ H' l1 l2 l3,Own H H' y->H' y=some (.ins C dx (sf l1 l2 p l3))->H' l1=some (.lst [])->H' l2=some (.lst [out])->H' l3=some (.lst (ks.map V.int))->H l1=none->H l2=none->H l3=none->Q .non H') /\
   (¬ (1<=p/\p<=4/\1<=ks.length/\ks.length<=6/\wQ ks)->E (.ref CB) none H))
theorem QT (T:Txt K mg a) (F:Fun K "__init__" "Source.__init__" jB f fd):FnOk P w K mg base (CXr P w) 2 f fd ["self","out","pace","kinds"] (xO K a.Source a.BadKnot):=by
 refine F.okx QE ?_ ?_
 ·walk_at "i"
 walk_at "k";refine oE6 h λ y dx l out p ks z1_=>oA6 z1_ λ z2_ hy hl hly kok kbad=>?_;clear h;subst z2_;obtain ⟨t1,g1⟩:=T.g_MOST_KINDS;walk_at "T";refine ⟨_,(zi (zo (zt ⟨rfl,rfl,rfl⟩ hr (za (pq 2) (za zf zb))))  (zi (zA (jP (jF xh xh zf (zP zY zX (za (pq 3) zb)) jk))  (zc (jb ⟨rfl,rfl,rfl⟩ rfl (za xy zb)))  zl)  (zi (qh qF rfl (z9 (pq 3)) (zW 4 QE.nd)  (zc (zo (zt ⟨rfl,rfl,rfl⟩ hr (za (pq 4) zb)))))  (zi (zo (wT ⟨rfl,rfl,rfl⟩ hr (za (pq 0) (za (zO zb) (za (zO (za (pq 1) zb)) zb)))))  (zi (jq (pq 0) (pq 2) rfl)  (zc (jq (pq 0) (wE wV xr (za (pq 3) zb)) rfl))))))),?_⟩;walk_at "go";refine iE3 _ _ _ ⟨Zh T,⟨p,1,rfl,zI (λ hp=>?_) (λ hp=>kbad λ z=>hp ⟨z.1,z.2.1⟩)⟩⟩;walk_at "go";refine ⟨_,.inl ⟨_,hl,rfl⟩,?_⟩;rw [ae];walk_at "go";have bad:¬ (1<=ks.length/\ks.length<=6)->∃ C,mg "BadKnot"=some (Value.ref C)/\XC K C/\E (Value.ref C) none H:=λ h=>⟨a.BadKnot,T.g_BadKnot,T.X_BadKnot,kbad λ z=>h ⟨z.2.2.1,z.2.2.2.1⟩⟩;refine zI (λ h1=>?_) (λ h1=>bad (by omega));refine iE2 (.int 6) _ (iA3 g1 ⟨_,rfl⟩ ?_);walk_at "go";refine zI (λ h2=>?_) (λ h2=>bad (by omega));walk_at "for";refine ⟨l,rfl,.inl ⟨⟨_,hl⟩,?_⟩⟩;refine qG (K:=K) (a:=l) (xs:=ks.map V.int) (λ i σ H'=>∃ v4,σ=[some (.ref y),some out,some (.int p),some (.ref l),v4]/\H'=H/\wQ (ks.take i)) ⟨_,iA3 rfl rfl (λ _ h=>nomatch h)⟩ (λ i σ H' _ ⟨_,_,e,_⟩=>e ▸ hl) ?_ ?_
 ·intro i x σ H' hi zz_;refine oE1 zz_ λ v4 z1_=>oA3 z1_ λ z2_ z3_ hk=>?_;clear zz_;subst z2_ z3_;rw [ak,aq] at hi;obtain ⟨n,hn,rfl⟩:=hi;walk_at "go";refine iE3 _ _ _ ⟨Zi T,⟨n,rfl,zI (λ hok=>?_) (λ hok=>kbad λ z=>hok (z.2.2.2.2 n (ah hn)))⟩⟩;walk_at "go";have:wQ (ks.take (i + 1)):=λ m hm=>by
   rw [eT,hn] at hm;rcases az.mp hm with z|z
   ·exact hk m z
   ·have e:m=n:=by simpa using z
    rw [e];exact hok
  first|exact ⟨_,rfl,rfl,this⟩|exact ⟨_,rfl,this⟩
 ·intro σ H' zz_;refine oE1 zz_ λ v4 z1_=>oA3 z1_ λ z2_ z3_ hk=>?_;clear zz_;subst z2_ z3_;rw [ae,aK] at hk;have kok:=kok ⟨hp.1,hp.2,by omega,by omega,hk⟩;walk_at "go";refine iE3 _ _ _ ⟨b_Knot_init T,λ q1 hq1 q2 hq2=>?_⟩;have hy2:=upd_keep (o:=.lst [out]) (upd_keep (o:=.lst []) hy hq1) hq2;have s12:Same H' (upd (upd H' q1 (.lst [])) q2 (.lst [out])):=(ze hq1).trans (ze hq2);refine iE7 y a.Source dx q1 q2 ([]) ([out]) (iA6 rfl hy2 T.C_Source T.N_Source_ins T.N_Source_outs (iA5 (SqL.of (upd_keep upd_same hq2)) (SqL.of upd_same) ((ne_of_none hy hq1).symm) ((ne_of_none (upd_keep hy hq1) hq2).symm) (λ H2 l1 l2 s h1 h2 h3 h4 h5=>?_)));walk_at "go";refine iE4 y a.Source dx _ (iA6 rfl h1 T.C_Source T.N_Source_pace zag ?_);walk_at "go";have s3:Own H' (upd H2 y (.ins a.Source dx (df l1 l2 p))) y:=((Same.own s12).trans s).trans jd;have h2':upd H2 y (.ins a.Source dx (df l1 l2 p)) l1=some (.lst []):=by rw [upd_ne (ZT h2 h1 (by intro z;cases z))];exact h2
  have h3':upd H2 y (.ins a.Source dx (df l1 l2 p)) l2=some (.lst [out]):=by rw [upd_ne (ZT h3 h1 (by intro z;cases z))];exact h3
  refine iE2 l _ (iA3 rfl (.inl (zaC hl s3 hly)) (λ l3 hl3=>?_));walk_at "go";have hy3:upd (upd H2 y (.ins a.Source dx (df l1 l2 p))) l3 (.lst (ks.map V.int)) y=some (.ins a.Source dx (df l1 l2 p)):=upd_keep upd_same hl3;refine iE4 y a.Source dx _ (iA6 rfl hy3 T.C_Source T.N_Source_kinds zfH ?_);have n1:l1≠y:=ZT h2 h1 (by intro z;cases z);have n2:l2≠y:=ZT h3 h1 (by intro z;cases z);have n3:l3≠y:=(ne_of_none (upd_same (H:=H2)) hl3).symm;refine kok _ l1 l2 l3 ((s3.trans (Same.own (ze hl3))).trans jd) upd_same ?_ ?_ ?_ (zJ (zJ h4)) (zJ (zJ h5)) ?_
  ·rw [upd_ne n1];exact upd_keep h2' hl3
  ·rw [upd_ne n2];exact upd_keep h3' hl3
  ·rw [upd_ne n3];exact upd_same
  ·cases e:H' l3 with
   | none=>rfl
   | some o=>exact absurd (hl3.symm.trans (s3 l3 o n3 e)) (by intro z;cases z)
theorem Va (T:Txt K mg a):KCal P w K mg base "Source" a.Source 2 ["self","out","pace","kinds"] [] (xO K a.Source a.BadKnot):=T.h_Source_init.cal T.g_Source (QT T)
def bf (rm pc:Int):List (Str × V):=qr "pace" (.int pc) (qr "room" (.int rm) [])
abbrev zy (rm pc:Int):Prop:=1<=rm/\rm<=6/\1<=pc/\pc<=4
def vo (C CB:Addr):Sp:=λ vs H Q E=>∃ (y dx:Addr) (rm pc:Int),vs=[.ref y,.int rm,.int pc]/\H y=some (.ins C dx [])/\if zy rm pc then Q .non (upd H y (.ins C dx (bf rm pc))) else E (.ref CB) none H
theorem XO (T:Txt K mg a) (F:Fun K "__init__" "Belt.__init__" xm f fd):FnOk P w K mg base (CXr P w) 1 f fd ["self","room","pace"] (vo a.Belt a.BadBelt):=by
 refine F.okx Xz ?_ ?_
 ·walk_at "i"
 walk_at "k";refine oE4 h λ y dx rm pc z1_=>oA3 z1_ λ z2_ hy k=>?_;clear h;subst z2_;obtain ⟨t1,g1⟩:=T.g_MOST_ROOM;obtain ⟨t2,g2⟩:=T.g_MOST_PACE;walk_at "T";refine ⟨_,(zi (zA (jP (jF xh xh zf (pq 1) jk))  (zc (jb ⟨rfl,rfl,rfl⟩ rfl (za xy zb)))  zl)  (zi (zA (jP (jF xh xh zf (pq 2) jk))  (zc (jb ⟨rfl,rfl,rfl⟩ rfl (za xy zb)))  zl)  (zi (jq (pq 0) (pq 1) rfl)  (zc (jq (pq 0) (pq 2) rfl))))),?_⟩;walk_at "go";have bad:¬ zy rm pc->∃ C,mg "BadBelt"=some (Value.ref C)/\XC K C/\E (Value.ref C) none H:=λ h=>by
  rw [aw h] at k;exact ⟨a.BadBelt,iA3 T.g_BadBelt T.X_BadBelt k⟩
 refine zI (λ h1=>?_) (λ h1=>bad (by unfold zy;omega));refine iE2 (.int 6) _ (iA3 g1 ⟨_,rfl⟩ ?_);walk_at "go";refine zI (λ h2=>?_) (λ h2=>bad (by unfold zy;omega));walk_at "go";refine zI (λ h3=>?_) (λ h3=>bad (by unfold zy;omega));refine iE2 (.int 4) _ (iA3 g2 ⟨_,rfl⟩ ?_);walk_at "go";refine zI (λ h4=>?_) (λ h4=>bad (by unfold zy;omega));rw [aA (by unfold zy;omega)] at k;walk_at "go";refine iE4 y a.Belt dx ([]) (iA6 rfl hy T.C_Belt T.N_Belt_room (by decide) ?_);walk_at "go";refine iE4 y a.Belt dx _ (iA6 rfl upd_same T.C_Belt T.N_Belt_pace (by show 1 < 1000;decide) ?_);rw [vL];exact k
theorem zdk (T:Txt K mg a):KCal P w K mg base "Belt" a.Belt 1 ["self","room","pace"] [] (vo a.Belt a.BadBelt):=T.h_Belt_init.cal T.g_Belt (XO T)
theorem qx {H:Hp} {y dx b C:Addr} {u:HO} (hy:H y=none) (hdx:H dx=none) (h:H b=some u):upd (upd H dx (.own y)) y (.ins C dx []) b=some u:=by
 rw [upd_ne (ne_of_none h hy),upd_ne (ne_of_none h hdx)];exact h
theorem zH {H:Hp} {y dx b:Addr} {o p:HO} (h:upd (upd H dx o) y p b=none):H b=none:=zJ (zJ h)
theorem zT {H H':Hp} {b:Addr} (s:Same H H') (h:H' b=none):H b=none:=by
 cases e:H b with
 | none=>rfl
 | some o=>rw [s b o e] at h;cases h
inductive Wd|source|drain|parter|first|sieve|joiner
deriving DecidableEq
def jY (a:Ad):Wd->Addr
 | .source=>a.Source
 | .drain=>a.Drain
 | .parter=>a.Parter
 | .first=>a.FirstParter
 | .sieve=>a.Sieve
 | .joiner=>a.Joiner
structure Row where
 wd:Wd
 ins:List Int
 outs:List Int
 pace:Int
 kinds:List Int
def Row.ok (r:Row):Prop:=match r.wd with
 | .source=>r.ins=[]/\(∃ o,r.outs=[o])/\1<=r.pace/\r.pace<=4/\1<=r.kinds.length/\r.kinds.length<=6/\wQ r.kinds
 | .drain=>(∃ i,r.ins=[i])/\r.outs=[]/\0<=r.pace/\r.pace<=4
 | .parter=>(∃ i,r.ins=[i])/\2<=r.outs.length/\r.outs.length<=4
 | .first=>(∃ i,r.ins=[i])/\2<=r.outs.length/\r.outs.length<=4
 | .sieve=>(∃ i,r.ins=[i])/\r.outs.length=2/\∃ k,r.kinds=[k]/\0<=k/\k < js
 | .joiner=>(∃ o,r.outs=[o])/\2<=r.ins.length/\r.ins.length<=4
def WR (r:Row):List (Str × D):=match r.wd with
 | .source=>[("pace",.int r.pace),("kinds",.ints r.kinds)]
 | .drain=>[("pace",.int r.pace)]
 | .sieve=>[("kind",.int (r.kinds.headD 0))]
 | _=>[]
def Q6 (r:Row):List (Str × D):=("ins",.ints r.ins) :: ("outs",.ints r.outs) :: WR r
def wo (a:Ad) (r:Row):D:=.ob (jY a r.wd) (Q6 r)
def vh (a:Ad) (b:Int × Int):D:=.ob a.Belt [("room",.int b.1),("pace",.int b.2)]
theorem qR {α:Type} {f:Str} {x:α} {r:List (Str × α)}:((f,x) :: r).lookup f=some x:=by simp [List.lookup]
theorem zN {α:Type} {f g:Str} {x:α} {r:List (Str × α)} (h:f≠g):((g,x) :: r).lookup f=r.lookup f:=by
 have hb:(f == g)=false:=a7.mpr h;simp [List.lookup,hb]
theorem zem (r:Row):(Q6 r).lookup ("ins":Str)=some (.ints r.ins):=qR
theorem zdg (r:Row):(Q6 r).lookup ("outs":Str)=some (.ints r.outs):=(zN (by decide +kernel)).trans qR
theorem zdf {r:Row} (h:r.wd=.source\/r.wd=.drain):(Q6 r).lookup ("pace":Str)=some (.int r.pace):=by
 refine (zN (by decide +kernel)).trans ((zN (by decide +kernel)).trans ?_);unfold WR;rcases h with h|h <;> (rw [h];exact qR)
theorem zbU {r:Row} (h:r.wd=.source):(Q6 r).lookup ("kinds":Str)=some (.ints r.kinds):=by
 refine (zN (by decide +kernel)).trans ((zN (by decide +kernel)).trans ?_);unfold WR;rw [h];exact (zN (by decide +kernel)).trans qR
theorem zdi {r:Row} {k:Int} (h:r.wd=.sieve) (e:r.kinds=[k]):(Q6 r).lookup ("kind":Str)=some (.int k):=by
 refine (zN (by decide +kernel)).trans ((zN (by decide +kernel)).trans ?_);unfold WR;rw [h,e];exact qR
theorem zdh {r:Row} {f:Str} (h1:f≠"ins") (h2:f≠"outs") (h3:f≠"pace") (h4:f≠"kinds") (h5:f≠"kind"):(Q6 r).lookup f=none:=by
 refine (zN h1).trans ((zN h2).trans ?_);unfold WR
 split
 ·exact (zN h3).trans (zN h4)
 ·exact zN h3
 ·exact zN h5
 ·rfl
def KnP (a:Ad) (H:Hp) (p:Addr->Prop) (v:V) (r:Row):Prop:=Rep H p v (wo a r)
theorem KnP.keep {H H':Hp} {p q:Addr->Prop} {v:V} {r:Row} (h:KnP a H p v r) (s:∀ b o,p b->H b=some o->q b/\H' b=some o):KnP a H' q v r:=Rep.keep s h
theorem KnP.inv {H:Hp} {p:Addr->Prop} {v:V} {r:Row} (h:KnP a H p v r):∃ y dx l1 l2 l3 fs,v=.ref y/\p y/\p l1/\p l2/\(r.wd=.source->p l3)/\H y=some (.ins (jY a r.wd) dx fs)/\fs.lookup ("ins":Str)=some (.ref l1)/\fs.lookup ("outs":Str)=some (.ref l2) /\
  fs.lookup ("copied":Str)=none/\H l1=some (.lst (iv r.ins))/\H l2=some (.lst (iv r.outs))/\(r.wd=.source->fs.lookup ("kinds":Str)=some (.ref l3)/\H l3=some (.lst (iv r.kinds)))/\((r.wd=.source\/r.wd=.drain)->fs.lookup ("pace":Str)=some (.int r.pace)):=by
 refine oE3 (Rep.ob' h) λ y dx fs z1_=>oA5 z1_ λ z2_ py hy g1 g2=>?_;subst z2_;obtain ⟨u1,e1,r1⟩:=g1 _ _ (zem r);refine oE1 r1.ints' λ l1 z1_=>oA3 z1_ λ z2_ p1 h1=>?_;subst z2_;obtain ⟨u2,e2,r2⟩:=g1 _ _ (zdg r);refine oE1 r2.ints' λ l2 z1_=>oA3 z1_ λ z2_ p2 h2=>?_;subst z2_;have e3:=g2 ("copied":Str) (zdh (by decide +kernel) (by decide +kernel) (by decide +kernel) (by decide +kernel) (by decide +kernel));have pc:(r.wd=.source\/r.wd=.drain)->fs.lookup ("pace":Str)=some (.int r.pace):=λ z=>by
  obtain ⟨u,e,ru⟩:=g1 _ _ (zdf z);cases ru;exact e
 by_cases hs:r.wd=.source
 ·obtain ⟨u3,e4,r3⟩:=g1 _ _ (zbU hs);refine oE1 r3.ints' λ l3 z1_=>oA3 z1_ λ z2_ p3 h3=>?_;subst z2_;exact iE6 y dx l1 l2 l3 fs (iA9 rfl py p1 p2 (λ _=>p3) hy e1 e2 (iA5 e3 h1 h2 (λ _=>⟨e4,h3⟩) pc))
 ·exact iE6 y dx l1 l2 l1 fs (iA9 rfl py p1 p2 (λ z=>absurd z hs) hy e1 e2 (iA5 e3 h1 h2 (λ z=>absurd z hs) pc))
theorem Q7 {l1 l2:Addr}:kf l1 l2=([(("ins":Str),V.ref l1),(("outs":Str),V.ref l2)]:List (Str × V)):=by
 unfold kf;simp only [qr];rw [aw (by decide +kernel)]
theorem zdy {l1 l2:Addr} {n:Int}:df l1 l2 n=([(("ins":Str),V.ref l1),(("outs":Str),V.ref l2),(("pace":Str),V.int n)]:List (Str × V)):=by
 unfold df;rw [Q7];simp only [qr];rw [aw (by decide +kernel),aw (by decide +kernel)]
theorem zeI {l1 l2 l3:Addr} {n:Int}:sf l1 l2 n l3=([(("ins":Str),V.ref l1),(("outs":Str),V.ref l2),(("pace":Str),V.int n),(("kinds":Str),V.ref l3)]:List (Str × V)):=by
 unfold sf;rw [zdy];simp only [qr];rw [aw (by decide +kernel),aw (by decide +kernel),aw (by decide +kernel)]
theorem zeF {l1 l2:Addr} {n:Int}:vf l1 l2 n=([(("ins":Str),V.ref l1),(("outs":Str),V.ref l2),(("kind":Str),V.int n)]:List (Str × V)):=by
 unfold vf;rw [Q7];simp only [qr];rw [aw (by decide +kernel),aw (by decide +kernel)]
theorem x6 {H:Hp} {p:Addr->Prop} {l C dx:Addr} {fs:List (Str × V)} {gs:List (Str × D)} (pl:p l) (e:H l=some (.ins C dx fs)) (n:fs.map (·.1)=gs.map (·.1)) (r:Reps H p (fs.map (·.2)) (gs.map (·.2))):Rep H p (.ref l) (.ob C gs) :=
 .ob pl e n λ i f g hf hg=>r.g i f.2 g.2 (by rw [ak,hf];rfl) (by rw [ak,hg];rfl)
section
variable {H:Hp} {p:Addr->Prop} {z dz m1 m2 m3:Addr} {ins outs kinds:List Int} {pace:Int}
theorem J2 (q0:p z) (q1:p m1) (q2:p m2) (q3:p m3) (h0:H z=some (.ins a.Source dz (sf m1 m2 pace m3))) (h1:H m1=some (.lst (iv ins))) (h2:H m2=some (.lst (iv outs))) (h3:H m3=some (.lst (iv kinds))):KnP a H p (.ref z) ⟨.source,ins,outs,pace,kinds⟩:=by
 rw [zeI] at h0;exact x6 q0 h0 rfl (.cons (qe q1 h1) (.cons (qe q2 h2) (.cons .int (.cons (qe q3 h3) .nil))))
theorem WZ (q0:p z) (q1:p m1) (q2:p m2) (h0:H z=some (.ins a.Drain dz (df m1 m2 pace))) (h1:H m1=some (.lst (iv ins))) (h2:H m2=some (.lst (iv outs))):KnP a H p (.ref z) ⟨.drain,ins,outs,pace,kinds⟩:=by
 rw [zdy] at h0;exact x6 q0 h0 rfl (.cons (qe q1 h1) (.cons (qe q2 h2) (.cons .int .nil)))
theorem WX {k:Int} (q0:p z) (q1:p m1) (q2:p m2) (h0:H z=some (.ins a.Sieve dz (vf m1 m2 k))) (h1:H m1=some (.lst (iv ins))) (h2:H m2=some (.lst (iv outs))):KnP a H p (.ref z) ⟨.sieve,ins,outs,pace,[k]⟩:=by
 rw [zeF] at h0;exact x6 q0 h0 rfl (.cons (qe q1 h1) (.cons (qe q2 h2) (.cons .int .nil)))
theorem J3 (q0:p z) (q1:p m1) (q2:p m2) (h0:H z=some (.ins a.Parter dz (kf m1 m2))) (h1:H m1=some (.lst (iv ins))) (h2:H m2=some (.lst (iv outs))):KnP a H p (.ref z) ⟨.parter,ins,outs,pace,kinds⟩:=by
 rw [Q7] at h0;exact x6 q0 h0 rfl (.cons (qe q1 h1) (.cons (qe q2 h2) .nil))
theorem WY (q0:p z) (q1:p m1) (q2:p m2) (h0:H z=some (.ins a.FirstParter dz (kf m1 m2))) (h1:H m1=some (.lst (iv ins))) (h2:H m2=some (.lst (iv outs))):KnP a H p (.ref z) ⟨.first,ins,outs,pace,kinds⟩:=by
 rw [Q7] at h0;exact x6 q0 h0 rfl (.cons (qe q1 h1) (.cons (qe q2 h2) .nil))
theorem J4 (q0:p z) (q1:p m1) (q2:p m2) (h0:H z=some (.ins a.Joiner dz (kf m1 m2))) (h1:H m1=some (.lst (iv ins))) (h2:H m2=some (.lst (iv outs))):KnP a H p (.ref z) ⟨.joiner,ins,outs,pace,kinds⟩:=by
 rw [Q7] at h0;exact x6 q0 h0 rfl (.cons (qe q1 h1) (.cons (qe q2 h2) .nil))
end
def BtP (a:Ad) (H:Hp) (p:Addr->Prop) (v:V) (r:Int × Int):Prop:=Rep H p v (vh a r)
theorem BtP.keep {H H':Hp} {p q:Addr->Prop} {v:V} {r:Int × Int} (h:BtP a H p v r) (s:∀ b o,p b->H b=some o->q b/\H' b=some o):BtP a H' q v r:=Rep.keep s h
theorem zgn {rm pc:Int}:bf rm pc=([(("room":Str),V.int rm),(("pace":Str),V.int pc)]:List (Str × V)):=by
 unfold bf;simp only [qr];rw [aw (by decide +kernel)]
theorem zeQ {H:Hp} {p:Addr->Prop} {y dx:Addr} {rm pc:Int} (q0:p y) (h0:H y=some (.ins a.Belt dx (bf rm pc))):BtP a H p (.ref y) (rm,pc):=by
 rw [zgn] at h0;exact x6 q0 h0 rfl (.cons .int (.cons .int .nil))
theorem BtP.inv {H:Hp} {p:Addr->Prop} {v:V} {r:Int × Int} (h:BtP a H p v r):∃ y dx fs,v=.ref y/\p y/\H y=some (.ins a.Belt dx fs)/\fs.lookup ("room":Str)=some (.int r.1)/\fs.lookup ("pace":Str)=some (.int r.2):=by
 refine oE3 (Rep.ob' h) λ y dx fs z1_=>oA5 z1_ λ z2_ py hy g1 g2=>?_;subst z2_;obtain ⟨u1,e1,r1⟩:=g1 ("room":Str) _ qR;obtain ⟨u2,e2,r2⟩:=g1 ("pace":Str) _ ((zN (by decide +kernel)).trans qR);cases r1;cases r2;exact iE3 y dx fs (iA5 rfl py hy e1 e2)
structure Kns (a:Ad) (H:Hp) (p:Addr->Prop) (vs:List V) (rs:List Row):Prop where
 len:vs.length=rs.length
 g:∀ (i:Nat) v r,vs[i]?=some v->rs[i]?=some r->KnP a H p v r
theorem Kns.keep {H H':Hp} {p q:Addr->Prop} {vs:List V} {rs:List Row} (h:Kns a H p vs rs) (s:∀ b o,p b->H b=some o->q b/\H' b=some o):Kns a H' q vs rs:=⟨h.len,λ i v r e1 e2=>(h.g i v r e1 e2).keep s⟩
theorem Kns.nil {H:Hp} {p:Addr->Prop}:Kns a H p [] []:=⟨rfl,λ i v r h=>by simp at h⟩
theorem Kns.append {H:Hp} {p:Addr->Prop} {vs us:List V} {rs qs:List Row} (h:Kns a H p vs rs) (k:Kns a H p us qs):Kns a H p (vs ++ us) (rs ++ qs):=by
 refine ⟨by rw [aQ,aQ,h.len,k.len],λ i v r e1 e2=>?_⟩;by_cases hi:i < vs.length
 ·rw [aJ hi] at e1;rw [aJ (by rw [<- h.len];exact hi)] at e2;exact h.g i v r e1 e2
 ·rw [aE (by omega)] at e1;rw [aE (by rw [<- h.len];omega),<- h.len] at e2;exact k.g _ v r e1 e2
theorem Kns.one {H:Hp} {p:Addr->Prop} {v:V} {r:Row} (h:KnP a H p v r):Kns a H p [v] [r] :=
 ⟨rfl,λ i u q e1 e2=>by
  have hi:=(aa.mp e1).1;have:i=0:=by simp at hi;omega
  subst this;have e1:v=u:=by simpa using e1
  have e2:r=q:=by simpa using e2
  rw [<- e1,<- e2];exact h⟩
theorem Kns.at {H:Hp} {p:Addr->Prop} {vs:List V} {rs:List Row} (h:Kns a H p vs rs) {i:Nat} {v:V} (e:vs[i]?=some v):∃ r,rs[i]?=some r/\KnP a H p v r:=by
 have hi:=(aa.mp e).1;have e2:rs[i]?=some (rs[i]'(by rw [<- h.len];exact hi)):=ad _;exact ⟨_,e2,h.g i v _ e e2⟩
structure Bts (a:Ad) (H:Hp) (p:Addr->Prop) (vs:List V) (rs:List (Int × Int)):Prop where
 len:vs.length=rs.length
 g:∀ (i:Nat) v r,vs[i]?=some v->rs[i]?=some r->BtP a H p v r
theorem Bts.keep {H H':Hp} {p q:Addr->Prop} {vs:List V} {rs:List (Int × Int)} (h:Bts a H p vs rs) (s:∀ b o,p b->H b=some o->q b/\H' b=some o):Bts a H' q vs rs:=⟨h.len,λ i v r e1 e2=>(h.g i v r e1 e2).keep s⟩
theorem Bts.nil {H:Hp} {p:Addr->Prop}:Bts a H p [] []:=⟨rfl,λ i v r h=>by simp at h⟩
theorem Bts.push {H:Hp} {p:Addr->Prop} {vs:List V} {v:V} {rs:List (Int × Int)} {r:Int × Int} (h:Bts a H p vs rs) (k:BtP a H p v r):Bts a H p (vs ++ [v]) (rs ++ [r]):=by
 refine ⟨by rw [aQ,aQ,h.len];rfl,λ i u q e1 e2=>?_⟩;by_cases hi:i < vs.length
 ·rw [aJ hi] at e1;rw [aJ (by rw [<- h.len];exact hi)] at e2;exact h.g i u q e1 e2
 ·rw [aE (by omega)] at e1;rw [aE (by rw [<- h.len];omega),<- h.len] at e2;have hj:=(aa.mp e1).1;have:i - vs.length=0:=by simp at hj;omega
  rw [this] at e1 e2;have e1:v=u:=by simpa using e1
  have e2:r=q:=by simpa using e2
  rw [<- e1,<- e2];exact k
theorem Bts.at {H:Hp} {p:Addr->Prop} {vs:List V} {rs:List (Int × Int)} (h:Bts a H p vs rs) {i:Nat} {v:V} (e:vs[i]?=some v):∃ r,rs[i]?=some r/\BtP a H p v r:=by
 have hi:=(aa.mp e).1;have e2:rs[i]?=some (rs[i]'(by rw [<- h.len];exact hi)):=ad _;exact ⟨_,e2,h.g i v _ e e2⟩
abbrev New (H:Hp):Addr->Prop:=λ b=>H b=none
def j4 (a:Ad) (wd:Wd):Sp:=λ vs H Q _=>∃ (y:Addr) (r:Row) (p:Addr->Prop),vs=[.ref y]/\KnP a H p (.ref y) r/\r.wd=wd/\r.ok/\∀ v H',Same H H'->KnP a H' (New H) v r->Q v H'
theorem Kns.reps {H:Hp} {p:Addr->Prop} {vs:List V} {rs:List Row} (h:Kns a H p vs rs):Reps H p vs (rs.map (wo a)):=⟨by rw [h.len,ae],λ i v d e1 e2=>by
 rw [ak,aq] at e2;obtain ⟨r,e2,rfl⟩:=e2;exact h.g i v r e1 e2⟩
theorem Bts.reps {H:Hp} {p:Addr->Prop} {vs:List V} {rs:List (Int × Int)} (h:Bts a H p vs rs):Reps H p vs (rs.map (vh a)):=⟨by rw [h.len,ae],λ i v d e1 e2=>by
 rw [ak,aq] at e2;obtain ⟨r,e2,rfl⟩:=e2;exact h.g i v r e1 e2⟩
theorem Kns.of {H:Hp} {p:Addr->Prop} {vs:List V} {rs:List Row} (h:Reps H p vs (rs.map (wo a))):Kns a H p vs rs:=⟨by rw [h.len,ae],λ i v r e1 e2=>h.g i v _ e1 (by rw [ak,e2];rfl)⟩
theorem Bts.of {H:Hp} {p:Addr->Prop} {vs:List V} {rs:List (Int × Int)} (h:Reps H p vs (rs.map (vh a))):Bts a H p vs rs:=⟨by rw [h.len,ae],λ i v r e1 e2=>h.g i v _ e1 (by rw [ak,e2];rfl)⟩
theorem Z9 (T:Txt K mg a):MCal P w K mg base a.Source "copied" 4 ["self"] [] (j4 a .source):=T.h_Source_copied.cal T.C_Source λ F=>by
 refine F.okx Zp ?_ ?_
 ·walk_at "i"
 walk_at "k";refine oE3 h λ y z1_ p z2_=>oA5 z2_ λ z3_ hK hw hok k=>?_;clear h;obtain ⟨wd,ins,outs,pace,kinds⟩:=z1_;subst z3_;cases hw;have hK0:=hK;refine oE6 hK.inv λ y' dx l1 l2 l3 fs z1_=>oA9 z1_ λ e p0 p1 p2 p3 h0 e1 e2 z2_=>oA5 z2_ λ e3 h1 h2 h3 h4=>?_;cases e;obtain ⟨hk,hk'⟩:=h3 rfl;have hp:=h4 (.inl rfl);refine oA7 hok λ q1 z1_ q3 q4 q5 q6 q7=>?_;clear hok;obtain ⟨ov,q2⟩:=z1_;simp only at q1 q2;subst q1 q2;walk_at "T";refine ⟨_,(zc (zk (ju (x:="Source") ⟨rfl,rfl,rfl⟩ hr (za (zw (zj (pq 0) rfl) zf) (za (zj (pq 0) rfl) (za (zj (pq 0) rfl) zb)))))),?_⟩;walk_at "go";refine iE4 a.Source _ _ _ ⟨(Va T).mono,iE5 y a.Source dx fs _ (iA6 rfl h0 T.C_Source T.N_Source_outs e2 (zu (SqL.of h2) at0 ?_))⟩;refine ra h0 T.C_Source T.N_Source_pace hp ?_;refine ra h0 T.C_Source T.N_Source_kinds hk ?_;intro z dz hz hdz hne;refine iE6 z dz l3 (.int ov) pace kinds (iA6 rfl upd_same (SqL.of (qx hz hdz hk')) (ne_of_none hk' hz) (λ _ H' m1 m2 m3 s' g1 g2 g3 g4 n1 n2 n3=>⟨rfl,?_⟩) (λ hbad=>absurd (iA5 q3 q4 q5 q6 q7) hbad));exact k _ _ (Own.of_new hz hdz s') (J2 (p:=New H) (ins:=[]) (outs:=[ov]) hz (zH n1) (zH n2) (zH n3) g1 g2 g3 g4)
theorem Q4 (T:Txt K mg a):MCal P w K mg base a.Drain "copied" 4 ["self"] [] (j4 a .drain):=T.h_Drain_copied.cal T.C_Drain λ F=>by
 refine F.okx Z7 ?_ ?_
 ·walk_at "i"
 walk_at "k";refine oE3 h λ y z1_ p z2_=>oA5 z2_ λ z3_ hK hw hok k=>?_;clear h;obtain ⟨wd,ins,outs,pace,kinds⟩:=z1_;subst z3_;cases hw;have hK0:=hK;refine oE6 hK.inv λ y' dx l1 l2 l3 fs z1_=>oA9 z1_ λ e p0 p1 p2 p3 h0 e1 e2 z2_=>oA5 z2_ λ e3 h1 h2 h3 h4=>?_;cases e;have hp:=h4 (.inr rfl);refine oA4 hok λ z1_ q2 q3 q4=>?_;clear hok;obtain ⟨iv',q1⟩:=z1_;simp only at q1 q2;subst q1 q2;walk_at "T";refine ⟨_,(zc (zk (ju (x:="Drain") ⟨rfl,rfl,rfl⟩ hr (za (zw (zj (pq 0) rfl) zf) (za (zj (pq 0) rfl) zb))))),?_⟩;walk_at "go";refine iE4 a.Drain _ _ _ ⟨(XU T).mono,iE5 y a.Drain dx fs _ (iA6 rfl h0 T.C_Drain T.N_Drain_ins e1 (zu (SqL.of h1) at0 ?_))⟩;refine ra h0 T.C_Drain T.N_Drain_pace hp ?_;intro z dz hz hdz hne;refine iE4 z dz (.int iv') pace (iA3 rfl upd_same ?_);rw [aA ⟨q3,q4⟩];intro H' m1 m2 s' g1 g2 g3 n1 n2;exact ⟨rfl,k _ _ (Own.of_new hz hdz s') (WZ (p:=New H) (ins:=[iv']) (outs:=[]) hz (zH n1) (zH n2) g1 g2 g3)⟩
theorem Qb (T:Txt K mg a):MCal P w K mg base a.Parter "copied" 4 ["self"] [] (j4 a .parter):=T.h_Parter_copied.cal T.C_Parter λ F=>by
 refine F.okx Zr ?_ ?_
 ·walk_at "i"
 walk_at "k";refine oE3 h λ y z1_ p z2_=>oA5 z2_ λ z3_ hK hw hok k=>?_;clear h;obtain ⟨wd,ins,outs,pace,kinds⟩:=z1_;subst z3_;cases hw;have hK0:=hK;refine oE6 hK.inv λ y' dx l1 l2 l3 fs z1_=>oA9 z1_ λ e p0 p1 p2 p3 h0 e1 e2 z2_=>oA5 z2_ λ e3 h1 h2 h3 h4=>?_;cases e;obtain ⟨⟨iv',q1⟩,q3,q4⟩:=hok;simp only at q1 q3 q4;subst q1;walk_at "T";refine ⟨_,(zc (zk (ju (x:="Parter") ⟨rfl,rfl,rfl⟩ hr (za (zw (zj (pq 0) rfl) zf) (za (zj (pq 0) rfl) zb))))),?_⟩;walk_at "go";refine iE4 a.Parter _ _ _ ⟨(Vb T).mono,iE5 y a.Parter dx fs _ (iA6 rfl h0 T.C_Parter T.N_Parter_ins e1 (zu (SqL.of h1) at0 ?_))⟩;refine ra h0 T.C_Parter T.N_Parter_outs e2 ?_;intro z dz hz hdz hne;refine iE5 z dz l2 (.int iv') (iv outs) (iA5 rfl upd_same (SqL.of (qx hz hdz h2)) (ne_of_none h2 hz) ?_);rw [aA (by rw [iv,ae];exact ⟨q3,q4⟩)];intro H' m1 m2 s' g1 g2 g3 n1 n2;exact ⟨rfl,k _ _ (Own.of_new hz hdz s') (J3 (p:=New H) (ins:=[iv']) (outs:=outs) hz (zH n1) (zH n2) g1 g2 g3)⟩
theorem wJ (T:Txt K mg a):MCal P w K mg base a.FirstParter "copied" 4 ["self"] [] (j4 a .first):=T.h_FirstParter_copied.cal T.C_FirstParter λ F=>by
 refine F.okx wp ?_ ?_
 ·walk_at "i"
 walk_at "k";refine oE3 h λ y z1_ p z2_=>oA5 z2_ λ z3_ hK hw hok k=>?_;clear h;obtain ⟨wd,ins,outs,pace,kinds⟩:=z1_;subst z3_;cases hw;have hK0:=hK;refine oE6 hK.inv λ y' dx l1 l2 l3 fs z1_=>oA9 z1_ λ e p0 p1 p2 p3 h0 e1 e2 z2_=>oA5 z2_ λ e3 h1 h2 h3 h4=>?_;cases e;obtain ⟨⟨iv',q1⟩,q3,q4⟩:=hok;simp only at q1 q3 q4;subst q1;walk_at "T";refine ⟨_,(zc (zk (ju (x:="FirstParter") ⟨rfl,rfl,rfl⟩ hr (za (zw (zj (pq 0) rfl) zf) (za (zj (pq 0) rfl) zb))))),?_⟩;walk_at "go";refine iE4 a.FirstParter _ _ _ ⟨(vd T).mono,iE5 y a.FirstParter dx fs _ (iA6 rfl h0 T.C_FirstParter T.N_FirstParter_ins e1 (zu (SqL.of h1) at0 ?_))⟩;refine ra h0 T.C_FirstParter T.N_FirstParter_outs e2 ?_;intro z dz hz hdz hne;refine iE5 z dz l2 (.int iv') (iv outs) (iA5 rfl upd_same (SqL.of (qx hz hdz h2)) (ne_of_none h2 hz) ?_);rw [aA (by rw [iv,ae];exact ⟨q3,q4⟩)];intro H' m1 m2 s' g1 g2 g3 n1 n2;exact ⟨rfl,k _ _ (Own.of_new hz hdz s') (WY (p:=New H) (ins:=[iv']) (outs:=outs) hz (zH n1) (zH n2) g1 g2 g3)⟩
theorem Q2 (T:Txt K mg a):MCal P w K mg base a.Sieve "copied" 4 ["self"] [] (j4 a .sieve):=T.h_Sieve_copied.cal T.C_Sieve λ F=>by
 refine F.okx Z4 ?_ ?_
 ·walk_at "i"
 walk_at "k";refine oE3 h λ y z1_ p z2_=>oA5 z2_ λ z3_ hK hw hok k=>?_;clear h;obtain ⟨wd,ins,outs,pace,kinds⟩:=z1_;subst z3_;cases hw;have hK0:=hK;refine oE6 hK.inv λ y' dx l1 l2 l3 fs z1_=>oA9 z1_ λ e p0 p1 p2 p3 h0 e1 e2 z2_=>oA5 z2_ λ e3 h1 h2 h3 h4=>?_;cases e;refine oA3 hok λ z1_ q3 z2_=>oE1 z2_ λ kk z3_=>oA3 z3_ λ q4 q5 q6=>?_;clear hok;obtain ⟨iv',q1⟩:=z1_;simp only at q1 q3 q4;subst q1 q4;walk_at "T";refine ⟨_,(zc (zk (ju (x:="Sieve") ⟨rfl,rfl,rfl⟩ hr (za (zw (zj (pq 0) rfl) zf) (za (zj (pq 0) rfl) (za (zj (pq 0) rfl) zb)))))),?_⟩;walk_at "go";refine iE4 a.Sieve _ _ _ ⟨(zaQ T).mono,iE5 y a.Sieve dx fs _ (iA6 rfl h0 T.C_Sieve T.N_Sieve_ins e1 (zu (SqL.of h1) at0 ?_))⟩;refine ra h0 T.C_Sieve T.N_Sieve_outs e2 ?_;refine zd7 hK0 T.C_Sieve T.N_Sieve_kind (zdi rfl rfl) λ u ru=>?_;cases ru;intro z dz hz hdz hne;refine iE6 z dz l2 (.int iv') (iv outs) kk (iA5 rfl upd_same (SqL.of (qx hz hdz h2)) (ne_of_none h2 hz) ?_);rw [aA (by rw [iv,ae];exact ⟨q3,q5,q6⟩)];intro H' m1 m2 s' g1 g2 g3 n1 n2;exact ⟨rfl,k _ _ (Own.of_new hz hdz s') (WX (p:=New H) (ins:=[iv']) (outs:=outs) hz (zH n1) (zH n2) g1 g2 g3)⟩
theorem Qd (T:Txt K mg a):MCal P w K mg base a.Joiner "copied" 4 ["self"] [] (j4 a .joiner):=T.h_Joiner_copied.cal T.C_Joiner λ F=>by
 refine F.okx Zt ?_ ?_
 ·walk_at "i"
 walk_at "k";refine oE3 h λ y z1_ p z2_=>oA5 z2_ λ z3_ hK hw hok k=>?_;clear h;obtain ⟨wd,ins,outs,pace,kinds⟩:=z1_;subst z3_;cases hw;have hK0:=hK;refine oE6 hK.inv λ y' dx l1 l2 l3 fs z1_=>oA9 z1_ λ e p0 p1 p2 p3 h0 e1 e2 z2_=>oA5 z2_ λ e3 h1 h2 h3 h4=>?_;cases e;obtain ⟨⟨ov,q1⟩,q3,q4⟩:=hok;simp only at q1 q3 q4;subst q1;walk_at "T";refine ⟨_,(zc (zk (ju (x:="Joiner") ⟨rfl,rfl,rfl⟩ hr (za (zj (pq 0) rfl) (za (zw (zj (pq 0) rfl) zf) zb))))),?_⟩;walk_at "go";refine iE4 a.Joiner _ _ _ ⟨(Vc T).mono,iE5 y a.Joiner dx fs _ (iA6 rfl h0 T.C_Joiner T.N_Joiner_ins e1 ?_)⟩;refine ra h0 T.C_Joiner T.N_Joiner_outs e2 (zu (SqL.of h2) at0 ?_);intro z dz hz hdz hne;refine iE5 z dz l1 (.int ov) (iv ins) (iA5 rfl upd_same (SqL.of (qx hz hdz h1)) (ne_of_none h1 hz) ?_);rw [aA (by rw [iv,ae];exact ⟨q3,q4⟩)];intro H' m1 m2 s' g1 g2 g3 n1 n2;exact ⟨rfl,k _ _ (Own.of_new hz hdz s') (J4 (p:=New H) (ins:=ins) (outs:=[ov]) hz (zH n1) (zH n2) g1 g2 g3)⟩
theorem CT (T:Txt K mg a) (wd:Wd):Cls K (jY a wd):=by
 cases wd
 ·exact T.C_Source
 ·exact T.C_Drain
 ·exact T.C_Parter
 ·exact T.C_FirstParter
 ·exact T.C_Sieve
 ·exact T.C_Joiner
theorem NI (T:Txt K mg a) (wd:Wd):NoAttr K (jY a wd) "ins":=by
 cases wd
 ·exact T.N_Source_ins
 ·exact T.N_Drain_ins
 ·exact T.N_Parter_ins
 ·exact T.N_FirstParter_ins
 ·exact T.N_Sieve_ins
 ·exact T.N_Joiner_ins
theorem NO (T:Txt K mg a) (wd:Wd):NoAttr K (jY a wd) "outs":=by
 cases wd
 ·exact T.N_Source_outs
 ·exact T.N_Drain_outs
 ·exact T.N_Parter_outs
 ·exact T.N_FirstParter_outs
 ·exact T.N_Sieve_outs
 ·exact T.N_Joiner_outs
theorem WT (T:Txt K mg a) (wd:Wd):WI K (jY a wd):=by
 cases wd
 ·exact T.W_Source
 ·exact T.W_Drain
 ·exact T.W_Parter
 ·exact T.W_FirstParter
 ·exact T.W_Sieve
 ·exact T.W_Joiner
theorem zda (T:Txt K mg a) (wd:Wd):MCal P w K mg base (jY a wd) "copied" 4 ["self"] [] (j4 a wd):=by
 cases wd
 ·exact Z9 T
 ·exact Q4 T
 ·exact Qb T
 ·exact wJ T
 ·exact Q2 T
 ·exact Qd T
theorem JV:∀ (xs ys:List Int),xs.Perm ys->xs.Pairwise (·<=·)->ys.Pairwise (·<=·)->xs=ys
 | [],ys,h,_,_=>(List.nil_perm.mp h).symm
 | x :: xs,[],h,_,_=>absurd h.length_eq (by simp)
 | x :: xs,y :: ys,h,hx,hy=>by
  have e:x=y:=by
   have h1:y∈x :: xs:=h.mem_iff.mpr (by simp);have h2:x∈y :: ys:=h.mem_iff.mp (by simp);rcases ay.mp h1 with e|m1
   ·exact e.symm
   rcases ay.mp h2 with e|m2
   ·exact e
   have:=(cJ.mp hx).1 y m1;have:=(cJ.mp hy).1 x m2;omega
  subst e;rw [JV xs ys h.cons_inv (cJ.mp hx).2 (cJ.mp hy).2]
def rgI (n:Nat):List Int:=(List.range n).map λ (i:Nat)=>(i:Int)
theorem V0 (n:Nat):(rgI n).Pairwise (·<=·):=by
 unfold rgI;rw [List.pairwise_map];exact List.pairwise_lt_range.imp λ {i j} h=>by omega
theorem zd4 (n:Nat):rgL 0 n=iv (rgI n):=by
 simp [rgL,iv,rgI,d9,Function.comp_def]
theorem QB:∀ ms ns:List Int,jS (iv ms) (iv ns)=decide (ms=ns)
 | [],[]=>rfl
 | [],_ :: _=>rfl
 | _ :: _,[]=>rfl
 | m :: ms,n :: ns=>by
  show (eqV (.int m) (.int n) && jS (iv ms) (iv ns))=_
  rw [QB ms ns];by_cases e:m=n
  ·subst e;simp [eqV]
  ·simp [eqV,e]
theorem Qq (ns:List Int):(iv ns).all jT=true:=cS.mpr λ x hx=>by
 obtain ⟨n,_,rfl⟩:=aW.mp hx
 rfl
theorem zd5 {H:Hp} {Q:VK} {p q:Addr} {ms ns:List Int} (h1:SqL K H p (iv ms)) (h2:SqL K H q (iv ns)) (k:Q (.bl (!decide (ms=ns))) H):XF K (.ref p) (.ref q) H Q :=
 .inr (.inl ⟨p,q,iv ms,iv ns,rfl,rfl,.inl ⟨h1,h2⟩,Qq ms,Qq ns,by rw [QB];exact k⟩)
def Wp (K:PySem.W.Frag) (a:Ad):Sp:=λ vs H Q E=>∃ (bl kl:Addr) (xs ys:List V),vs=[.ref bl,.ref kl]/\SqL K H bl xs/\SqL K H kl ys/\if (1<=xs.length/\xs.length<=24)/\1<=ys.length/\ys.length<=24 then Q .non H else E (.ref a.BadWork) none H
theorem X8 (T:Txt K mg a):Cal P w K mg base "check_size" 1 ["belts","knots"] [] (Wp K a):=T.h_check_size.cal λ F=>by
 refine F.okx Jx ?_ ?_
 ·walk_at "i"
 walk_at "k";refine oE4 h λ bl kl xs ys z1_=>oA4 z1_ λ z2_ h1 h2 k=>?_;clear h;subst z2_;obtain ⟨t1,g1⟩:=T.g_MOST_BELTS;obtain ⟨t2,g2⟩:=T.g_MOST_KNOTS;walk_at "T";refine ⟨_,(zi (zA (jP (jF xh xh zf (zP zY zX (za (pq 0) zb)) jk))  (zc (jb ⟨rfl,rfl,rfl⟩ rfl (za xy zb)))  zl)  (zc (zA (jP (jF xh xh zf (zP zY zX (za (pq 1) zb)) jk))  (zc (jb ⟨rfl,rfl,rfl⟩ rfl (za xy zb)))  zl))),?_⟩;walk_at "go";have bad:¬ ((1<=xs.length/\xs.length<=24)/\1<=ys.length/\ys.length<=24)->∃ C,mg "BadWork"=some (Value.ref C)/\XC K C/\E (Value.ref C) none H:=λ h=>by
  rw [aw h] at k;exact ⟨a.BadWork,iA3 T.g_BadWork T.X_BadWork k⟩
 refine ⟨_,.inl ⟨_,h1,rfl⟩,?_⟩;walk_at "go";refine zI (λ b1=>?_) (λ b1=>bad (by omega));refine iE2 (.int 24) _ (iA3 g1 ⟨_,rfl⟩ ?_);walk_at "go";refine zI (λ b2=>?_) (λ b2=>bad (by omega));walk_at "go";refine ⟨_,.inl ⟨_,h2,rfl⟩,?_⟩;walk_at "go";refine zI (λ b3=>?_) (λ b3=>bad (by omega));refine iE2 (.int 24) _ (iA3 g2 ⟨_,rfl⟩ ?_);walk_at "go";refine zI (λ b4=>?_) (λ b4=>bad (by omega));rw [aA (by omega)] at k;walk_at "go";exact k
def VI (K:PySem.W.Frag) (a:Ad):Sp:=λ vs H Q E=>∃ (l:Addr) (ns:List Int) (n:Nat),vs=[.ref l,.int n]/\SqL K H l (iv ns)/\ns.length < 64/\n<=1000/\(ns.Perm (rgI n)->∀ H',Same H H'->Q .non H')/\(¬ ns.Perm (rgI n)->∀ H',Same H H'->E (.ref a.BadWork) none H')
theorem xq (T:Txt K mg a):Cal P w K mg base "check_each_once" 1 ["named","size"] [] (VI K a):=T.h_check_each_once.cal λ F=>by
 refine F.okx vp ?_ ?_
 ·walk_at "i"
 walk_at "k";refine oE3 h λ l ns n z1_=>oA6 z1_ λ z2_ hl h64 hn kok kbad=>?_;clear h;subst z2_;walk_at "T";refine ⟨_,(zc (zA (zm (xF hr.units1) (zP zch zcg (za (pq 0) zb)) (wE (zdK rfl) xr (za (zfe (za (pq 1) zb)) zb)) (zr _))  (zc (jb ⟨rfl,rfl,rfl⟩ rfl (za xy zb)))  zl)),?_⟩;walk_at "go";refine iE2 l ns (iA4 rfl hl h64 (λ ms q1 hp hs hq1=>?_));walk_at "go";intro q2 hq2;refine iE3 q2 0 n (iA4 rfl upd_same (iA5 (by omega) (by omega) (by omega) (by omega) (by omega)) (λ q3 hq3=>?_));rw [show ((n:Int) - 0).toNat=n by omega,zd4];walk_at "go";have sm:Same H (upd (upd (upd H q1 (.lst (iv ms))) q2 (.rng 0 n)) q3 (.lst (iv (rgI n)))):=(ze hq1).trans ((ze hq2).trans (ze hq3));refine zd5 (ms:=ms) (ns:=rgI n) (SqL.of (upd_keep (upd_keep upd_same hq2) hq3)) (SqL.of upd_same) ?_;walk_at "go";refine zI (λ b1=>?_) (λ b1=>?_)
 ·refine ⟨a.BadWork,iA3 T.g_BadWork T.X_BadWork (kbad (λ z=>b1 (JV _ _ (hp.trans z) hs (V0 n))) _ sm)⟩
 ·walk_at "go";refine kok ?_ _ sm;have e:ms=rgI n:=eH b1;rw [<- e];exact hp.symm
def jU (rs:List Row):List Int:=rs.flatMap Row.outs
def qH (rs:List Row):List Int:=rs.flatMap Row.ins
def wf (l1 l2:Addr):List (Str × V):=qr "knots" (.ref l2) (qr "belts" (.ref l1) [])
def qg (bs:List (Int × Int)) (rs:List Row):Prop:=((1<=bs.length/\bs.length<=24)/\1<=rs.length/\rs.length<=24)/\(jU rs).Perm (rgI bs.length)/\(qH rs).Perm (rgI bs.length)
def vn (K:PySem.W.Frag) (a:Ad):Sp:=λ vs H Q E=>∃ (y dx bl kl:Addr) (bvs kvs:List V) (bs:List (Int × Int)) (rs:List Row) (p:Addr->Prop),vs=[.ref y,.ref bl,.ref kl]/\H y=some (.ins a.Work dx [])/\bl≠y/\kl≠y/\(∀ b,p b->b≠y) /\
 H bl=some (.lst bvs)/\H kl=some (.lst kvs)/\Bts a H p bvs bs/\Kns a H p kvs rs/\(∀ b∈bs,zy b.1 b.2)/\(∀ r∈rs,r.ok)/\(jU rs).length < 64/\(qH rs).length < 64/\bs.length<=1000 /\
 (qg bs rs->∀ H' l1 l2 bvs' kvs',Own H H' y->H' y=some (.ins a.Work dx (wf l1 l2))->H' l1=some (.lst bvs')->H' l2=some (.lst kvs')->Bts a H' (New H) bvs' bs->Kns a H' (New H) kvs' rs->H l1=none->H l2=none->Q .non H') /\
 (¬ qg bs rs->∀ H',Same H H'->E (.ref a.BadWork) none H')
theorem zar {rs:List Row} {i:Nat} {r:Row} (h:rs[i]?=some r):jU (rs.take (i + 1))=jU (rs.take i) ++ r.outs:=by
 unfold jU;rw [aF,h,ez];simp
theorem Xl {rs:List Row} {i:Nat} {r:Row} (h:rs[i]?=some r):qH (rs.take (i + 1))=qH (rs.take i) ++ r.ins:=by
 unfold qH;rw [aF,h,ez];simp
theorem jX (f:Row->List Int) (rs:List Row) (i:Nat):((rs.take i).flatMap f).length<=(rs.flatMap f).length:=by
 conv=>rhs;rw [<- eC i rs,ez,aQ]
 omega
theorem zah (xs ys:List Int):iv xs ++ iv ys=iv (xs ++ ys):=by rw [iv,iv,iv,aV]
theorem XL (T:Txt K mg a) (F:Fun K "__init__" "Work.__init__" jh f fd):FnOk P w K mg base (CXr P w) 5 f fd ["self","belts","knots"] (vn K a):=by
 refine F.okx Xv ?_ ?_
 ·walk_at "i"
 walk_at "k";refine oE5 h λ y dx bl kl bvs z1_=>oE4 z1_ λ kvs bs rs p z2_=>oA9 z2_ λ z3_ hy nby nky hpy hb hk hB z4_=>oA8 z4_ λ hKs hbo hro h64 h64' hlb kok kbad=>?_;clear h;subst z3_;walk_at "T";refine ⟨_,(zg (zo (zt ⟨rfl,rfl,rfl⟩ hr (za (pq 1) (za (pq 2) zb))))  (zg (zp 3 Xv.nd (zO zb))  (zg (zp 4 Xv.nd (zO zb))  (zg (qh qF rfl (z9 (pq 2)) (zW 5 Xv.nd)  (zg (zo (qp aj b9 b8 wU (pq 3) (za (zj (pq 5) rfl) zb)))  (zc (zo (qp aj b9 b8 wU (pq 4) (za (zj (pq 5) rfl) zb))))))  (zg (zo (zt ⟨rfl,rfl,rfl⟩ hr (za (pq 3) (za (zP zY zX (za (pq 1) zb)) zb))))  (zg (zo (zt ⟨rfl,rfl,rfl⟩ hr (za (pq 4) (za (zP zY zX (za (pq 1) zb)) zb))))  (zg (jq (pq 0) (jG (vars:=["belt"]) (caps:=[]) (N:=["belt"]) (ON:=["self","belts","knots","fed","taken","knot"]) (osc:=zd jh) rfl rfl (by first|decide +kernel|kernel_rfl) rfl rfl (z9 (pq 1)) (λ s H fp pins=>(zW 0 (show (["belt"]:List Str).Nodup from by decide +kernel))) (λ s H fp pins=>qc) (λ s H fp pins=>(zff (x:="Belt") hr (za (zj (pq 0) rfl) (za (zj (pq 0) rfl) zb))))) rfl)  (zc (jq (pq 0) (jG (vars:=["knot"]) (caps:=[]) (N:=["knot"]) (ON:=["self","belts","knots","fed","taken","knot"]) (osc:=zd jh) rfl rfl (by first|decide +kernel|kernel_rfl) rfl rfl (z9 (pq 2)) (λ s H fp pins=>(zW 0 (show (["knot"]:List Str).Nodup from by decide +kernel))) (λ s H fp pins=>qc) (λ s H fp pins=>(zcV hr (pq 0)))) rfl))))))))),?_⟩;walk_at "go";refine uc (X8 T).mono (iE4 bl kl bvs kvs (iA4 rfl (SqL.of hb) (SqL.of hk) (zI (λ b1=>?_) (λ b1=>?_))))
 rotate_left
 ·refine kbad (λ z=>b1 ?_) H (Same.refl _);rw [hB.len,hKs.len];exact z.1
 rw [hB.len,hKs.len] at b1;walk_at "go";intro fl hfl;walk_at "go";intro tl htl;have nft:fl≠tl:=ne_of_none upd_same htl;have htl0:H tl=none:=zJ htl;walk_at "for";walk_at "go";have s2:Same H (upd (upd H fl (.lst [])) tl (.lst [])):=(ze hfl).trans (ze htl);refine ⟨kl,rfl,.inl ⟨⟨_,SqL.of (s2 _ _ hk)⟩,?_⟩⟩;let M1_:Nat->St->Hp->Prop:=λ i σ H'=>∃ v5,σ=[some (.ref y),some (.ref bl),some (.ref kl),some (.ref fl),some (.ref tl),v5]/\Same H H'/\H' fl=some (.lst (iv (jU (rs.take i))))/\H' tl=some (.lst (iv (qH (rs.take i))));refine qG (K:=K) (a:=kl) (xs:=kvs) M1_ ⟨_,iA4 rfl s2 (upd_keep upd_same htl) upd_same⟩ (λ i σ H' _ ⟨_,_,s,_⟩=>SqL.of (s _ _ hk)) ?_ ?_
 ·intro i x σ H' hi zz_;refine oE1 zz_ λ v5 z1_=>oA4 z1_ λ z2_ s3 e1 e2=>?_;clear zz_;subst z2_;obtain ⟨r,hr',hKn0⟩:=hKs.at hi;refine oE6 hKn0.inv λ y1 dx1 l1 l2 l3 fs z1_=>oA9 z1_ λ z2_ p0 p1 p2 p3 h0 f1 f2 z3_=>oA5 z3_ λ f3 h1 h2 h3 h4=>?_;subst z2_;have L1:=jX Row.outs rs i;have L2':=jX Row.ins rs i;have L3:=jX Row.outs rs (i + 1);have L4:=jX Row.ins rs (i + 1);have E1:=zar hr';have E2:=Xl hr';have n1:∀ {b:Addr} {o:HO},H b=some o->b≠fl:=λ h=>ne_of_none h hfl;have n2:∀ {b:Addr} {o:HO},H b=some o->b≠tl:=λ h=>ne_of_none h htl0;walk_at "go";refine ⟨.inl ⟨rfl,_,SqL.of e1⟩,iE5 y1 (jY a r.wd) dx1 fs _ (iA6 rfl (s3 _ _ h0) (CT T _) (NO T _) f2 ?_)⟩;refine iE4 fl l2 _ _ (iA6 rfl rfl e1 (s3 _ _ h2) ?_ ?_)
  ·refine bL (zh ?_);have:=bS List.length E1;rw [aQ] at this;rw [iv,iv,ae,ae];unfold jU at this h64 ⊢;omega
  walk_at "go";have e2':upd H' fl (.lst (iv (jU (rs.take i)) ++ iv r.outs)) tl=some (.lst (iv (qH (rs.take i)))):=by rw [upd_ne (aX nft)];exact e2
  refine ⟨.inl ⟨rfl,_,SqL.of e2'⟩,iE5 y1 (jY a r.wd) dx1 fs _ (iA6 rfl ?_ (CT T _) (NI T _) f1 ?_)⟩
  ·rw [upd_ne (n1 h0)];exact s3 _ _ h0
  refine iE4 tl l1 _ (iv r.ins) (iA6 rfl rfl e2' ?_ ?_ ?_)
  ·rw [upd_ne (n1 h1)];exact s3 _ _ h1
  ·refine bL (zh ?_);have:=bS List.length E2;rw [aQ] at this;rw [iv,iv,ae,ae];unfold qH at this h64' ⊢;omega
  refine ⟨_,iA4 rfl (λ b o hb=>?_) ?_ ?_⟩
  ·rw [upd_ne (n2 hb),upd_ne (n1 hb)];exact s3 _ _ hb
  ·rw [upd_ne nft,upd_same,E1,zah]
  ·rw [upd_same,E2,zah]
 ·intro σ H1 zz_;refine oE1 zz_ λ v5 z1_=>oA4 z1_ λ z2_ s3 e1 e2=>?_;clear zz_;subst z2_;rw [hKs.len,aK] at e1 e2;walk_at "go";refine uc (xq T).mono ⟨m_len,⟨_,⟨.inl ⟨_,SqL.of (s3 _ _ hb),rfl⟩,?_⟩⟩⟩;rw [hB.len];refine iE3 fl (jU rs) bs.length (iA6 rfl (SqL.of e1) h64 hlb (λ g1 H2 s4=>?_) (λ g1 H2 s4=>kbad (λ z=>g1 z.2.1) _ (s3.trans s4)));walk_at "go";refine uc (xq T).mono ⟨m_len,⟨_,⟨.inl ⟨_,SqL.of (s4 _ _ (s3 _ _ hb)),rfl⟩,?_⟩⟩⟩;rw [hB.len];refine iE3 tl (qH rs) bs.length (iA6 rfl (SqL.of (s4 _ _ e2)) h64' hlb (λ g2 H3 s5=>?_) (λ g2 H3 s5=>kbad (λ z=>g2 z.2.2) _ (s3.trans (s4.trans s5))));have kok:=kok ⟨b1,g1,g2⟩;have s6:=s3.trans (s4.trans s5);clear s3 s4 s5 e1 e2;clear g1 g2;walk_at "go";walk_at "lc";walk_at "go";refine ⟨bl,rfl,.inl ⟨⟨_,SqL.of (s6 _ _ hb)⟩,λ _ _ _ _ acc hacc=>?_⟩⟩;have nacc:H acc=none:=zT s6 hacc;let M2_:Nat->St->Hp->Prop:=λ i σ H'=>∃ v us,σ=[v]/\Same H3 H'/\H' acc=some (.lst us)/\Bts a H' (λ b=>H3 b=none/\b≠acc) us (bs.take i);refine qG (K:=K) (a:=bl) (xs:=bvs) M2_ (iE2 _ ([]) (iA4 rfl (ze hacc) upd_same (by rw [cC];exact .nil))) (λ i σ H' _ ⟨_,_,_,s,_⟩=>SqL.of (s _ _ (s6 _ _ hb))) ?_ ?_
  ·intro i x σ H' hi zz_;refine oE2 zz_ λ v us z1_=>oA4 z1_ λ z2_ s7 e1 hU=>?_;clear zz_;subst z2_;obtain ⟨⟨rm,pc⟩,hr',hBt0⟩:=hB.at hi;refine oE3 hBt0.inv λ y1 dx1 fs z1_=>oA5 z1_ λ z2_ p0 h0 f1 f2=>?_;subst z2_;have hok:=hbo _ (ah hr');have hil:i < bs.length:=(aa.mp hr').1;have h0':=s7 _ _ (s6 _ _ h0);walk_at "go";refine iE4 a.Belt _ _ _ ⟨(zdk T).mono,iE5 y1 a.Belt dx1 fs _ (iA6 rfl h0' T.C_Belt T.N_Belt_room f1 (iE5 y1 a.Belt dx1 fs _ (iA6 rfl h0' T.C_Belt T.N_Belt_pace f2 ?_)))⟩;intro z dz hz hdz hne;refine iE4 z dz rm pc (iA3 rfl upd_same ?_);rw [aA hok,vL];have sN:Same H' (upd (upd H' dz (.own z)) z (.ins a.Belt dz (bf rm pc))):=λ b o h=>by rw [upd_ne (ne_of_none h hz),upd_ne (ne_of_none h hdz)];exact h
   have hz':upd (upd H' dz (.own z)) z (.ins a.Belt dz (bf rm pc)) z=some (.ins a.Belt dz (bf rm pc)):=upd_same;generalize upd (upd H' dz (.own z)) z (.ins a.Belt dz (bf rm pc))=H4 at sN hz' ⊢;have hzn:z≠acc:=λ q=>by rw [q,e1] at hz;cases hz
   refine ⟨rfl,⟨_,iA3 (sN _ _ e1) (zh (by have:=hU.len;rw [aI] at this;omega)) (iE2 _ (us ++ [.ref z]) (iA4 rfl (λ b o hb=>?_) upd_same ?_))⟩⟩
   ·rw [upd_ne (ne_of_none hb hacc)];exact sN _ _ (s7 _ _ hb)
   ·rw [aF,hr'];refine Bts.push (hU.keep λ b o hp hb=>⟨hp,by rw [upd_ne hp.2];exact sN _ _ hb⟩) (zeQ (p:=λ b=>H3 b=none/\b≠acc) ⟨zT s7 hz,hzn⟩ (by rw [upd_ne hzn];exact hz'))
  ·intro σ H4 zz_;refine oE2 zz_ λ v us z1_=>oA4 z1_ λ z2_ s7 e1 hU=>?_;clear zz_;subst z2_;rw [hB.len,aK] at hU;have s8:=s6.trans s7;have nacy:acc≠y:=(ne_of_none hy nacc).symm;walk_at "go";refine iE4 y a.Work dx ([]) (iA6 rfl (s8 _ _ hy) T.C_Work T.N_Work_belts (by decide) ?_);have o9:Own H (upd H4 y (.ins a.Work dx (qr "belts" (.ref acc) []))) y:=(Same.own s8).trans jd;have hy9:upd H4 y (.ins a.Work dx (qr "belts" (.ref acc) [])) y=some (.ins a.Work dx (qr "belts" (.ref acc) [])):=upd_same;have e9:upd H4 y (.ins a.Work dx (qr "belts" (.ref acc) [])) acc=some (.lst us):=by rw [upd_ne nacy];exact e1
   have hU9:Bts a (upd H4 y (.ins a.Work dx (qr "belts" (.ref acc) []))) (λ b=>H b=none/\b≠y) us bs:=hU.keep λ b o hp hb=>by
    have q1:H b=none:=zT s6 hp.1;have q2:b≠y:=(ne_of_none hy q1).symm;exact ⟨⟨q1,q2⟩,by rw [upd_ne q2];exact hb⟩
   generalize upd H4 y (.ins a.Work dx (qr "belts" (.ref acc) []))=H5 at o9 hy9 e9 hU9 ⊢;walk_at "go";walk_at "lc";walk_at "go";refine ⟨kl,rfl,.inl ⟨⟨_,SqL.of (o9 _ _ nky hk)⟩,λ _ _ _ _ ac2 hac2=>?_⟩⟩;let M3_:Nat->St->Hp->Prop:=λ i σ H'=>∃ v us2,σ=[v]/\Same H5 H'/\H' ac2=some (.lst us2)/\Kns a H' (λ b=>H5 b=none/\b≠ac2) us2 (rs.take i);refine qG (K:=K) (a:=kl) (xs:=kvs) M3_ (iE2 _ ([]) (iA4 rfl (ze hac2) upd_same (by rw [cC];exact .nil))) (λ i σ H' _ ⟨_,_,_,s,_⟩=>SqL.of (s _ _ (o9 _ _ nky hk))) ?_ ?_
   ·intro i x σ H' hi zz_;refine oE2 zz_ λ v us2 z1_=>oA4 z1_ λ z2_ s10 e2 hV=>?_;clear zz_;subst z2_;obtain ⟨r,hr',hKn⟩:=hKs.at hi;have hok:=hro _ (ah hr');have hil:i < rs.length:=(aa.mp hr').1;have hKn':KnP a H' p x r:=hKn.keep λ b o hp hb=>⟨hp,s10 _ _ (o9 _ _ (hpy b hp) hb)⟩;refine oE6 hKn'.inv λ y1 dx1 l1 l2 l3 fs z1_=>oA9 z1_ λ z2_ p0 p1 p2 p3 h0 f1 f2 z3_=>oA5 z3_ λ f3 h1 h2 h3 h4=>?_;subst z2_;walk_at "go";refine iE7 y1 (jY a r.wd) dx1 fs _ _ _ (iA5 rfl h0 f3 ((zda T r.wd).mono) ?_);refine iE3 y1 r p (iA5 rfl hKn' rfl hok (λ v' H6 s11 hN=>?_));refine ⟨_,iA3 (s11 _ _ e2) (zh (by have:=hV.len;rw [aI] at this;omega)) (iE2 _ (us2 ++ [v']) (iA4 rfl (λ b o hb=>?_) upd_same ?_))⟩
    ·rw [upd_ne (ne_of_none hb hac2)];exact s11 _ _ (s10 _ _ hb)
    ·rw [aF,hr'];refine Kns.append (hV.keep λ b o hp hb=>⟨hp,by rw [upd_ne hp.2];exact s11 _ _ hb⟩) (Kns.one (hN.keep λ b o hp hb=>?_));have q2:b≠ac2:=λ z=>by rw [z] at hp;rw [New,e2] at hp;cases hp
     exact ⟨⟨zT s10 hp,q2⟩,by rw [upd_ne q2];exact hb⟩
   ·intro σ H6 zz_;refine oE2 zz_ λ v us2 z1_=>oA4 z1_ λ z2_ s10 e2 hV=>?_;clear zz_;subst z2_;rw [hKs.len,aK] at hV;have hy10:=s10 _ _ hy9;walk_at "go";refine iE4 y a.Work dx _ (iA6 rfl hy10 T.C_Work T.N_Work_knots (by show 1 < 1000;decide) ?_);have n2y:ac2≠y:=λ z=>by rw [z,hy9] at hac2;cases hac2
    have ho:∀ b,H5 b=none->b≠y->H b=none:=λ b h1 h2=>by
     cases e:H b with
     | none=>rfl
     | some o=>rw [o9 b o h2 e] at h1;cases h1
    refine kok _ acc ac2 us us2 ((o9.trans (Same.own s10)).trans jd) upd_same ?_ ?_ ?_ ?_ nacc (ho _ hac2 n2y)
    ·rw [upd_ne nacy];exact s10 _ _ e9
    ·rw [upd_ne n2y];exact e2
    ·exact hU9.keep λ b o hp hb=>⟨hp.1,by rw [upd_ne hp.2];exact s10 _ _ hb⟩
    ·refine hV.keep λ b o hp hb=>?_;have q:b≠y:=λ z=>by rw [z,hy9] at hp;cases hp.1
     exact ⟨ho b hp.1 q,by rw [upd_ne q];exact hb⟩
theorem zfz (T:Txt K mg a):KCal P w K mg base "Work" a.Work 5 ["self","belts","knots"] [] (vn K a):=T.h_Work_init.cal T.g_Work (XL T)
def zgl (b:Int × Int):D:=.tup [.int b.1,.int b.2]
theorem XB (n:Nat):(rgI n).length=n:=by simp [rgI]
theorem WE (n:Nat):rgI (n + 1)=rgI n ++ [(n:Int)]:=by simp [rgI,List.range_succ]
theorem zn (ns:List Int):(iv ns).length=ns.length:=by rw [iv,ae]
theorem xH {ns:List Int} {i:Nat} {x:V} (h:(iv ns)[i]?=some x):∃ n,ns[i]?=some n/\x=.int n:=by
 rw [iv,ak,aq] at h;obtain ⟨n,h1,h2⟩:=h;exact ⟨n,h1,h2.symm⟩
theorem jf {ns:List Int} {i:Nat} {n:Int} (h:ns[i]?=some n):(iv ns)[i]?=some (.int n):=by rw [iv,ak,h];rfl
theorem Q8 (ns:List Int) (k:Nat):(iv ns).eraseIdx k=iv (ns.eraseIdx k):=by
 induction ns generalizing k with
 | nil=>simp [iv]
 | cons n ns ih =>
  cases k with
  | zero=>simp [iv]
  | succ k=>simpa [iv] using ih k
theorem z8 (ns:List Int) (n:Int):iv ns ++ [.int n]=iv (ns ++ [n]):=by simp [iv]
abbrev ms4 (L R E B:Addr):List Addr:=[L,R,E,B]
structure WInv (bs:List (Int × Int)) (rs:List Row) (es ks:List Int):Prop where
 tk:(qH rs ++ es).Perm (rgI bs.length)
 fd:(jU rs ++ ks).Perm (rgI bs.length)
 ro:∀ r∈rs,r.ok
 bo:∀ b∈bs,zy b.1 b.2
theorem zas (rs:List Row) (r:Row):jU (rs ++ [r])=jU rs ++ r.outs:=by simp [jU]
theorem Xm (rs:List Row) (r:Row):qH (rs ++ [r])=qH rs ++ r.ins:=by simp [qH]
theorem Qr {us:List V} {n:Nat} (h:us.length=n + 1):∃ a vs,us=a :: vs/\vs.length=n:=by
 cases us with
 | nil=>cases h
 | cons a vs=>exact ⟨a,vs,rfl,Nat.succ.inj h⟩
theorem two_of {us:List V} (h:us.length=2):∃ a b,us=[a,b]:=by
 obtain ⟨a,_,rfl,h1⟩:=Qr h;obtain ⟨b,_,rfl,h2⟩:=Qr h1;exact ⟨a,b,by rw [bQ.mp h2]⟩
theorem vV:∀ {es:List Int} {j:Nat} {y:Int},es[j]?=some y->(y :: es.eraseIdx j).Perm es
 | [],_,_,h=>by simp at h
 | e :: es,0,y,h=>by
  have h:e=y:=by simpa using h
  subst h;simp
 | e :: es,j + 1,y,h=>by
  have ih:=vV (es:=es) (j:=j) (y:=y) (by simpa using h);rw [List.eraseIdx_cons_succ];exact (List.Perm.swap e y _).trans (ih.cons e)
theorem zek {n:Nat} {x:Int} (h:x∈rgI n):0<=x/\x < n:=by
 unfold rgI at h;obtain ⟨i,hi,rfl⟩:=aW.mp h;have:=cm.mp hi;omega
theorem za2 {α:Type} {xs:List α} {i:Nat} {x:α} (h:xs[i]?=some x):xs.drop i=x :: xs.drop (i + 1):=by
 obtain ⟨hi,rfl⟩:=aa.mp h;exact List.drop_eq_getElem_cons hi
theorem jH {H:Hp} {p:Addr->Prop} {v:V} {b:Int × Int} (h:Rep H p v (zgl b)):∃ t,v=.ref t/\H t=some (.tup [.int b.1,.int b.2]):=by
 obtain ⟨t,us,rfl,_,ht,rr⟩:=Rep.tup' h;have g:=rr.g;obtain ⟨x0,x1,rfl⟩:=two_of rr.len;have a0:=g 0 x0 _ rfl rfl;have a1:=g 1 x1 _ rfl rfl;cases a0;cases a1;exact ⟨t,rfl,ht⟩
def qk (a:Ad) (bs:List (Int × Int)) (rs:List Row):D:=.ob a.Work [("belts",.lst (bs.map (vh a))),("knots",.lst (rs.map (wo a)))]
theorem zfU {l1 l2:Addr}:wf l1 l2=([(("belts":Str),V.ref l1),(("knots":Str),V.ref l2)]:List (Str × V)):=by
 unfold wf;simp only [qr];rw [aw (by decide +kernel)]
theorem Wc {a:Ad} {bs:List (Int × Int)} {rs:List Row}:([("belts",.lst (bs.map (vh a))),("knots",.lst (rs.map (wo a)))]:List (Str × D)).lookup ("belts":Str)=some (.lst (bs.map (vh a))):=qR
theorem zcn {a:Ad} {bs:List (Int × Int)} {rs:List Row}:([("belts",.lst (bs.map (vh a))),("knots",.lst (rs.map (wo a)))]:List (Str × D)).lookup ("knots":Str)=some (.lst (rs.map (wo a))):=(zN (by decide +kernel)).trans qR
theorem zfT {a:Ad} {bs:List (Int × Int)} {rs:List Row} {f:Str} (h1:f≠"belts") (h2:f≠"knots"):([("belts",.lst (bs.map (vh a))),("knots",.lst (rs.map (wo a)))]:List (Str × D)).lookup f=none:=(zN h1).trans (zN h2)
section
variable {H:Hp} {z dz:Addr} {Q:VK} {EX:XK}
theorem zej {rm pc:Int} (hz:H z=none) (hdz:H dz=none) (ok:zy rm pc) (k:∀ H',Same H H'->BtP a H' (New H) (.ref z) (rm,pc)->Q .non H'):vo a.Belt a.BadBelt [.ref z,.int rm,.int pc] (upd (upd H dz (.own z)) z (.ins a.Belt dz [])) Q EX:=by
 refine iE4 z dz rm pc (iA3 rfl upd_same ?_);rw [aA ok,vL];exact k _ (λ b o h=>by rw [upd_ne (ne_of_none h hz),upd_ne (ne_of_none h hdz)];exact h) (zeQ hz upd_same)
theorem WS {y pc:Int} (hz:H z=none) (hdz:H dz=none) (h0:0<=pc) (h4:pc<=4) (k:∀ H',Same H H'->KnP a H' (New H) (.ref z) ⟨.drain,[y],[],pc,[]⟩->Q .non H'):wx a.Drain a.BadKnot [.ref z,.int y,.int pc] (upd (upd H dz (.own z)) z (.ins a.Drain dz [])) Q EX:=by
 refine iE4 z dz (.int y) pc (iA3 rfl upd_same ?_);rw [aA ⟨h0,h4⟩];intro H' m1 m2 s' g1 g2 g3 n1 n2;exact k _ (Own.of_new hz hdz s') (WZ (p:=New H) (ins:=[y]) (outs:=[]) hz (zH n1) (zH n2) g1 g2 g3)
theorem zbP {l:Addr} {y pc:Int} {kd:List Int} (hz:H z=none) (hdz:H dz=none) (hl:H l=some (.lst (iv kd))) (h1:1<=pc) (h4:pc<=4) (k1:1<=kd.length) (k6:kd.length<=6) (kk:wQ kd) (k:∀ H',Same H H'->KnP a H' (New H) (.ref z) ⟨.source,[],[y],pc,kd⟩->Q .non H'):xO K a.Source a.BadKnot [.ref z,.int y,.int pc,.ref l] (upd (upd H dz (.own z)) z (.ins a.Source dz [])) Q EX:=by
 refine iE6 z dz l (.int y) pc kd (iA6 rfl upd_same (SqL.of (qx hz hdz hl)) (ne_of_none hl hz) (λ _ H' m1 m2 m3 s' g1 g2 g3 g4 n1 n2 n3=>?_) (λ hbad=>absurd (iA5 h1 h4 k1 k6 kk) hbad));exact k _ (Own.of_new hz hdz s') (J2 (p:=New H) (ins:=[]) (outs:=[y]) hz (zH n1) (zH n2) (zH n3) g1 g2 g3 g4)
theorem zbQ {l:Addr} {y:Int} {outs:List Int} (hz:H z=none) (hdz:H dz=none) (hl:H l=some (.lst (iv outs))) (h2:2<=outs.length) (h4:outs.length<=4) (k:∀ H',Same H H'->KnP a H' (New H) (.ref z) ⟨.parter,[y],outs,0,[]⟩->Q .non H'):qV K a.Parter a.BadKnot [.ref z,.int y,.ref l] (upd (upd H dz (.own z)) z (.ins a.Parter dz [])) Q EX:=by
 refine iE5 z dz l (.int y) (iv outs) (iA5 rfl upd_same (SqL.of (qx hz hdz hl)) (ne_of_none hl hz) ?_);rw [aA (by rw [zn];exact ⟨h2,h4⟩)];intro H' m1 m2 s' g1 g2 g3 n1 n2;exact k _ (Own.of_new hz hdz s') (J3 (p:=New H) (ins:=[y]) (outs:=outs) hz (zH n1) (zH n2) g1 g2 g3)
theorem zc9 {l:Addr} {y:Int} {outs:List Int} (hz:H z=none) (hdz:H dz=none) (hl:H l=some (.lst (iv outs))) (h2:2<=outs.length) (h4:outs.length<=4) (k:∀ H',Same H H'->KnP a H' (New H) (.ref z) ⟨.first,[y],outs,0,[]⟩->Q .non H'):qV K a.FirstParter a.BadKnot [.ref z,.int y,.ref l] (upd (upd H dz (.own z)) z (.ins a.FirstParter dz [])) Q EX:=by
 refine iE5 z dz l (.int y) (iv outs) (iA5 rfl upd_same (SqL.of (qx hz hdz hl)) (ne_of_none hl hz) ?_);rw [aA (by rw [zn];exact ⟨h2,h4⟩)];intro H' m1 m2 s' g1 g2 g3 n1 n2;exact k _ (Own.of_new hz hdz s') (WY (p:=New H) (ins:=[y]) (outs:=outs) hz (zH n1) (zH n2) g1 g2 g3)
theorem zc8 {l:Addr} {y kk:Int} {outs:List Int} (hz:H z=none) (hdz:H dz=none) (hl:H l=some (.lst (iv outs))) (h2:outs.length=2) (k0:0<=kk) (k1:kk < js) (k:∀ H',Same H H'->KnP a H' (New H) (.ref z) ⟨.sieve,[y],outs,0,[kk]⟩->Q .non H'):ww K a.Sieve a.BadKnot [.ref z,.int y,.ref l,.int kk] (upd (upd H dz (.own z)) z (.ins a.Sieve dz [])) Q EX:=by
 refine iE6 z dz l (.int y) (iv outs) kk (iA5 rfl upd_same (SqL.of (qx hz hdz hl)) (ne_of_none hl hz) ?_);rw [aA (by rw [zn];exact ⟨h2,k0,k1⟩)];intro H' m1 m2 s' g1 g2 g3 n1 n2;exact k _ (Own.of_new hz hdz s') (WX (p:=New H) (ins:=[y]) (outs:=outs) hz (zH n1) (zH n2) g1 g2 g3)
theorem zbR {l:Addr} {y:Int} {ins:List Int} (hz:H z=none) (hdz:H dz=none) (hl:H l=some (.lst (iv ins))) (h2:2<=ins.length) (h4:ins.length<=4) (k:∀ H',Same H H'->KnP a H' (New H) (.ref z) ⟨.joiner,ins,[y],0,[]⟩->Q .non H'):xP K a.Joiner a.BadKnot [.ref z,.ref l,.int y] (upd (upd H dz (.own z)) z (.ins a.Joiner dz [])) Q EX:=by
 refine iE5 z dz l (.int y) (iv ins) (iA5 rfl upd_same (SqL.of (qx hz hdz hl)) (ne_of_none hl hz) ?_);rw [aA (by rw [zn];exact ⟨h2,h4⟩)];intro H' m1 m2 s' g1 g2 g3 n1 n2;exact k _ (Own.of_new hz hdz s') (J4 (p:=New H) (ins:=ins) (outs:=[y]) hz (zH n1) (zH n2) g1 g2 g3)
end
theorem WInv.knot {bs:List (Int × Int)} {rs:List Row} {es ks es' ks':List Int} {r:Row} (h:WInv bs rs es ks) (pe:(r.ins ++ es').Perm es) (pk:(r.outs ++ ks').Perm ks) (ok:r.ok):WInv bs (rs ++ [r]) es' ks':=by
 refine ⟨?_,?_,λ x hx=>?_,h.bo⟩
 ·rw [Xm,bN];exact (bF _ pe).trans h.tk
 ·rw [zas,bN];exact (bF _ pk).trans h.fd
 ·rcases az.mp hx with hx|hx
  ·exact h.ro x hx
  ·rw [ar.mp hx];exact ok
theorem WInv.perm {bs:List (Int × Int)} {rs:List Row} {es ks es' ks':List Int} (h:WInv bs rs es ks) (pe:es'.Perm es) (pk:ks'.Perm ks):WInv bs rs es' ks':=⟨(bF _ pe).trans h.tk,(bF _ pk).trans h.fd,h.ro,h.bo⟩
theorem WInv.belt {bs:List (Int × Int)} {rs:List Row} {es ks:List Int} {b:Int × Int} (h:WInv bs rs es ks) (hb:zy b.1 b.2):WInv (bs ++ [b]) rs (es ++ [(bs.length:Int)]) (ks ++ [(bs.length:Int)]):=by
 refine ⟨?_,?_,h.ro,λ x hx=>?_⟩
 ·rw [aQ,cE,WE,<- bN];exact cq _ h.tk
 ·rw [aQ,cE,WE,<- bN];exact cq _ h.fd
 ·rcases az.mp hx with hx|hx
  ·exact h.bo x hx
  ·rw [ar.mp hx];exact hb
structure GS (a:Ad) (ms:List Addr) (H0 H:Hp) (L R E B:Addr) (bs:List (Int × Int)) (rs:List Row) (es ks:List Int):Prop where
 f:Fr (ms4 L R E B) H0 H
 nLR:L≠R
 nLE:L≠E
 nLB:L≠B
 nRE:R≠E
 nRB:R≠B
 nEB:E≠B
 m:∀ b∈ms4 L R E B,b∈ms
 hs:∀ b∈ms,∃ xs,H b=some (.lst xs)
 hL:∃ bvs,H L=some (.lst bvs)/\Reps H (Off ms) bvs (bs.map (vh a))
 hR:∃ rvs,H R=some (.lst rvs)/\Reps H (Off ms) rvs (rs.map (wo a))
 hE:H E=some (.lst (iv es))
 hB:H B=some (.lst (iv ks))
section
variable {ms:List Addr} {H0 H H':Hp} {L R E B:Addr} {bs bs':List (Int × Int)} {rs rs':List Row} {es ks es' ks':List Int}
theorem GS.same (w:GS a ms H0 H L R E B bs rs es ks) (s:Same H H'):GS a ms H0 H' L R E B bs rs es ks:=by
 obtain ⟨bvs,h1,r1⟩:=w.hL;obtain ⟨rvs,h2,r2⟩:=w.hR;exact { w with f:=w.f.trans s.fr,hs:=λ b hb=>by obtain ⟨xs,h⟩:=w.hs b hb;exact ⟨xs,s _ _ h⟩,hL:=⟨bvs,s _ _ h1,r1.same s⟩,hR:=⟨rvs,s _ _ h2,r2.same s⟩,hE:=s _ _ w.hE,hB:=s _ _ w.hB }
theorem GS.off (w:GS a ms H0 H L R E B bs rs es ks) {x:Addr} (h:H x=none):x ∉ ms:=λ z=>by
 obtain ⟨xs,hx⟩:=w.hs x z;rw [hx] at h;cases h
theorem GS.here (w:GS a ms H0 H L R E B bs rs es ks):GS a ms H H L R E B bs rs es ks:={ w with f:=Fr.refl }
theorem GS.trans (w:GS a ms H0 H L R E B bs rs es ks) (v:GS a ms H H' L R E B bs' rs' es' ks'):GS a ms H0 H' L R E B bs' rs' es' ks':={ v with f:=w.f.trans v.f }
theorem Jc {x:Addr} {xs:List V} (h:∀ b∈ms,∃ xs,H b=some (.lst xs)):∀ b∈ms,∃ ys,upd H x (.lst xs) b=some (.lst ys):=λ b hb=>by
 by_cases e:b=x
 ·subst e;exact ⟨_,upd_same⟩
 ·obtain ⟨ys,h⟩:=h b hb;exact ⟨ys,by rw [upd_ne e];exact h⟩
theorem GS.setE (w:GS a ms H0 H L R E B bs rs es ks) (es':List Int):GS a ms H0 (upd H E (.lst (iv es'))) L R E B bs rs es' ks:=by
 obtain ⟨bvs,h1,r1⟩:=w.hL;obtain ⟨rvs,h2,r2⟩:=w.hR;have f:Fr ms H (upd H E (.lst (iv es'))):=qj (w.m E (by simp));exact { w with f:=w.f.trans (qj (by simp)),hs:=Jc w.hs,hL:=⟨bvs,by rw [upd_ne w.nLE];exact h1,r1.fr f⟩,hR:=⟨rvs,by rw [upd_ne w.nRE];exact h2,r2.fr f⟩,hE:=upd_same,hB:=by rw [upd_ne w.nEB.symm];exact w.hB }
theorem GS.setB (w:GS a ms H0 H L R E B bs rs es ks) (ks':List Int):GS a ms H0 (upd H B (.lst (iv ks'))) L R E B bs rs es ks':=by
 obtain ⟨bvs,h1,r1⟩:=w.hL;obtain ⟨rvs,h2,r2⟩:=w.hR;have f:Fr ms H (upd H B (.lst (iv ks'))):=qj (w.m B (by simp));exact { w with f:=w.f.trans (qj (by simp)),hs:=Jc w.hs,hL:=⟨bvs,by rw [upd_ne w.nLB];exact h1,r1.fr f⟩,hR:=⟨rvs,by rw [upd_ne w.nRB];exact h2,r2.fr f⟩,hE:=by rw [upd_ne w.nEB];exact w.hE,hB:=upd_same }
theorem GS.setX (w:GS a ms H0 H L R E B bs rs es ks) {x:Addr} {xs:List V} (hx:x∈ms) (nx:x ∉ ms4 L R E B) (h0:H0 x=none):GS a ms H0 (upd H x (.lst xs)) L R E B bs rs es ks:=by
 obtain ⟨bvs,h1,r1⟩:=w.hL;obtain ⟨rvs,h2,r2⟩:=w.hR;have f:Fr ms H (upd H x (.lst xs)):=qj hx;have n:∀ b∈ms4 L R E B,b≠x:=λ b hb z=>nx (by rw [<- z];exact hb);refine { w with f:=λ b o nb hb=>?_,hs:=Jc w.hs,hL:=⟨bvs,by rw [upd_ne (n L (by simp))];exact h1,r1.fr f⟩,hR:=⟨rvs,by rw [upd_ne (n R (by simp))];exact h2,r2.fr f⟩,hE:=by rw [upd_ne (n E (by simp))];exact w.hE,hB:=by rw [upd_ne (n B (by simp))];exact w.hB };rw [upd_ne (λ z=>by rw [z,h0] at hb;cases hb)];exact w.f b o nb hb
theorem GS.ext (w:GS a ms H0 H L R E B bs rs es ks) {x:Addr} {xs:List V} (hx:H x=none):GS a (x :: ms) H0 (upd H x (.lst xs)) L R E B bs rs es ks/\x ∉ ms4 L R E B:=by
 have w1:=w.same (ze (o:=.lst xs) hx);have nx:=w.off hx;obtain ⟨bvs,h1,r1⟩:=w.hL;obtain ⟨rvs,h2,r2⟩:=w.hR;have s:=ze (o:=.lst xs) hx;have mo:∀ b∈x :: ms,b∈ms\/H b=none:=λ b hb=>by
  rcases ay.mp hb with rfl|hb
  ·exact .inr hx
  ·exact .inl hb
 refine ⟨{ w1 with m:=λ b hb=>aH _ (w.m b hb),hs:=λ b hb=>?_,hL:=⟨bvs,s _ _ h1,(r1.more mo).same s⟩,hR:=⟨rvs,s _ _ h2,(r2.more mo).same s⟩ },λ z=>nx (w.m x z)⟩;rcases ay.mp hb with rfl|hb
 ·exact ⟨_,upd_same⟩
 ·exact w1.hs b hb
theorem GS.less {x:Addr} (w:GS a (x :: ms) H0 H L R E B bs rs es ks) (nx:x ∉ ms4 L R E B):GS a ms H0 H L R E B bs rs es ks:=by
 obtain ⟨bvs,h1,r1⟩:=w.hL;obtain ⟨rvs,h2,r2⟩:=w.hR;have mo:∀ b∈ms,b∈x :: ms\/H b=none:=λ b hb=>.inl (aH _ hb);refine { w with m:=λ b hb=>?_,hs:=λ b hb=>w.hs b (aH _ hb),hL:=⟨bvs,h1,r1.more mo⟩,hR:=⟨rvs,h2,r2.more mo⟩ };rcases ay.mp (w.m b hb) with rfl|h
 ·exact absurd hb nx
 ·exact h
theorem GS.addL (w:GS a ms H0 H L R E B bs rs es ks) {H1:Hp} {v:V} {b:Int × Int} {bvs:List V} (e:H L=some (.lst bvs)) (s:Same H H1) (q:BtP a H1 (New H) v b):GS a ms H0 (upd H1 L (.lst (bvs ++ [v]))) L R E B (bs ++ [b]) rs es ks/\bvs.length=bs.length:=by
 have w1:=w.same s;obtain ⟨bvs',h1,r1⟩:=w1.hL;rw [s _ _ e] at h1;cases h1;obtain ⟨rvs,h2,r2⟩:=w1.hR;have f:Fr ms H1 (upd H1 L (.lst (bvs ++ [v]))):=qj (w.m L (by simp));refine ⟨{ w1 with f:=w1.f.trans (qj (by simp)),hs:=Jc w1.hs,hL:=⟨_,upd_same,?_⟩,hR:=⟨rvs,by rw [upd_ne w.nLR.symm];exact h2,r2.fr f⟩,hE:=by rw [upd_ne w.nLE.symm];exact w1.hE,hB:=by rw [upd_ne w.nLB.symm];exact w1.hB },by rw [r1.len,ae]⟩;rw [aV];exact (r1.fr f).append (.one (Rep.fr (q.keep λ b o hb ho=>⟨w.off hb,ho⟩) f))
theorem GS.addR (w:GS a ms H0 H L R E B bs rs es ks) {H1:Hp} {v:V} {r:Row} {rvs:List V} (e:H R=some (.lst rvs)) (s:Same H H1) (q:KnP a H1 (Off ms) v r):GS a ms H0 (upd H1 R (.lst (rvs ++ [v]))) L R E B bs (rs ++ [r]) es ks/\rvs.length=rs.length:=by
 have w1:=w.same s;obtain ⟨bvs,h1,r1⟩:=w1.hL;obtain ⟨rvs',h2,r2⟩:=w1.hR;rw [s _ _ e] at h2;cases h2;have f:Fr ms H1 (upd H1 R (.lst (rvs ++ [v]))):=qj (w.m R (by simp));refine ⟨{ w1 with f:=w1.f.trans (qj (by simp)),hs:=Jc w1.hs,hL:=⟨bvs,by rw [upd_ne w.nLR];exact h1,r1.fr f⟩,hR:=⟨_,upd_same,?_⟩,hE:=by rw [upd_ne w.nRE.symm];exact w1.hE,hB:=by rw [upd_ne w.nRB.symm];exact w1.hB },by rw [r2.len,ae]⟩;rw [aV];exact (r2.fr f).append (.one (Rep.fr q f))
theorem GS.newK (w:GS a ms H0 H L R E B bs rs es ks) {H1:Hp} {v:V} {r:Row} (q:KnP a H1 (New H) v r):KnP a H1 (Off ms) v r:=q.keep λ b o hb ho=>⟨w.off hb,ho⟩
end
theorem XW {A C P G:Prop} [Decidable A] (p:A\/C->P) (g:¬ A->(C->P)->G):if A then P else G:=by
 by_cases a:A
 ·rw [aA a];exact p (.inl a)
 ·rw [aw a];exact g a λ c=>p (.inr c)
theorem vT {α:Type} (xs:List α) (k:Nat):(xs.drop k ++ xs.take k).Perm xs:=by
 refine List.perm_append_comm.trans ?_;rw [eC]
theorem Vk (xs:List V) (k:Nat) (h:k<=xs.length):Zf xs (some (k:Int)) none=xs.drop k:=by
 unfold Zf;rw [HT.sIx_nat,HT.sIx_none,Nat.min_eq_left h];exact cz (by rw [cU];omega)
theorem Jf (xs:List V) (n:Nat):Zf xs none (some (n:Int))=xs.take n:=by
 have h:=HT.sIx_nat xs.length xs.length n;unfold Zf;rw [HT.sIx_none,h,Nat.sub_zero,List.drop_zero];by_cases e:n<=xs.length
 ·rw [Nat.min_eq_left e]
 ·rw [Nat.min_eq_right (by omega),aK,cz (by omega)]
theorem zfI (ns:List Int) (m:Nat):∃ cs:List Int,Zf (iv ns) (some 1) (some (1 + (m:Int)))=iv cs/\cs.length<=m:=by
 unfold Zf;rw [show (1:Int) + (m:Int)=((1 + m:Nat):Int) by omega,show (some (1:Int))=some ((1:Nat):Int) from rfl,HT.sIx_nat,HT.sIx_nat,zn];refine ⟨(ns.drop (min 1 ns.length)).take (min (1 + m) ns.length - min 1 ns.length),by simp [iv],?_⟩;rw [aI];omega
theorem zei {H:Hp} {z dz L R:Addr} {Q:VK} {EX:XK} {bvs rvs:List V} {bs:List (Int × Int)} {rs:List Row} {p q:Addr->Prop} (hz:H z=none) (hdz:H dz=none) (hL:H L=some (.lst bvs)) (hR:H R=some (.lst rvs)) (rB:Reps H p bvs (bs.map (vh a))) (rK:Reps H q rvs (rs.map (wo a))) (wok:qg bs rs) (bo:∀ b∈bs,zy b.1 b.2) (ro:∀ r∈rs,r.ok)
  (k:∀ H',Same H H'->Rep H' (Off []) (.ref z) (qk a bs rs)->Q .non H'):vn K a [.ref z,.ref L,.ref R] (upd (upd H dz (.own z)) z (.ins a.Work dz [])) Q EX:=by
 have lb:=wok.1.1.2;refine ⟨z,dz,L,R,bvs,rvs,bs,rs,λ b=>b≠z,rfl,upd_same,ne_of_none hL hz,ne_of_none hR hz,λ _ h=>h,qx hz hdz hL,qx hz hdz hR,
  (Bts.of rB).keep λ b o _ hb=>⟨ne_of_none hb hz,qx hz hdz hb⟩,(Kns.of rK).keep λ b o _ hb=>⟨ne_of_none hb hz,qx hz hdz hb⟩,bo,ro,by rw [wok.2.1.length_eq,XB];omega,by rw [wok.2.2.length_eq,XB];omega,by omega,λ _ H4 m1 m2 bv kv o4 g0 g1 g2 gB gK n1 n2=>?_,λ y=>absurd wok y⟩
 refine k _ (Own.of_new hz hdz o4) ?_;rw [zfU] at g0;exact x6 (λ z=>nomatch z) g0 rfl (.cons (gB.reps.all.mk' (λ z=>nomatch z) g1) (.cons (gK.reps.all.mk' (λ z=>nomatch z) g2) .nil))
theorem WInv.work {bs:List (Int × Int)} {rs rs':List Row} (h:WInv bs rs [] []) (pm:rs'.Perm rs) (b24:bs.length<=24) (r1:1<=rs.length) (r24:rs.length<=24):qg bs rs'/\(∀ r∈rs',r.ok):=by
 have tk:=h.tk;have fd:=h.fd;rw [cF] at tk fd;have pl:=pm.length_eq;have b1:1<=bs.length:=by
  obtain ⟨r,rs0,rfl⟩:=bZ (dl (by omega:0 < rs.length));have ok:=h.ro r (by simp);have lt:=tk.length_eq;have lf:=fd.length_eq;rw [XB] at lt lf;have e1:(qH (r :: rs0)).length=r.ins.length + (qH rs0).length:=by simp [qH]
  have e2:(jU (r :: rs0)).length=r.outs.length + (jU rs0).length:=by simp [jU]
  have:1<=r.ins.length + r.outs.length:=by
   obtain ⟨wd,ins,outs,pc,kd⟩:=r;cases wd
   ·obtain ⟨_,⟨o,q⟩,_⟩:=ok;simp only at q;subst q;simp
   ·obtain ⟨⟨o,q⟩,_⟩:=ok;simp only at q;subst q;simp
   ·obtain ⟨⟨o,q⟩,_⟩:=ok;simp only at q;subst q;simp
   ·obtain ⟨⟨o,q⟩,_⟩:=ok;simp only at q;subst q;simp
   ·obtain ⟨⟨o,q⟩,_⟩:=ok;simp only at q;subst q;simp
   ·obtain ⟨⟨o,q⟩,_⟩:=ok;simp only at q;subst q;simp
  omega
 refine ⟨⟨⟨⟨b1,b24⟩,by omega,by omega⟩,?_,?_⟩,λ r hr=>h.ro r (pm.mem_iff.mp hr)⟩
 ·exact (pm.flatMap_right _).trans fd
 ·exact (pm.flatMap_right _).trans tk
def Xa (ns:List Int) (k:Nat):Int:=ns.getD k 0
def ze0 (K:PySem.W.Frag):Sp:=λ vs H Q _=>∃ (l:Addr) (ns:List Int) (k:Nat),vs=[.ref l,.int k]/\SqL K H l (ns.map V.int)/\Q (.int (Xa ns k)) H
theorem zdJ (T:Txt K mg a):Cal P w K mg base "_law_at" 1 ["_law_script","_law_k"] [] (ze0 K):=T.h_L_at.cal λ F=>by
 refine F.okx zd2 ?_ ?_
 ·walk_at "i"
 walk_at "k";refine oE3 h λ l ns n z1_=>oA3 z1_ λ z2_ hl k=>?_;clear h;subst z2_;walk_at "T";refine ⟨_,(zi (zA (zm zcY (pq 1) (zP zY zX (za (pq 0) zb)) (zr _))  (zc (zk (zw (pq 0) (pq 1))))  zl)  (zc (zk zf))),?_⟩;walk_at "go";refine ⟨_,.inl ⟨_,hl,rfl⟩,?_⟩;walk_at "r";rw [ae];refine zI (λ h=>?_) (λ h=>?_)
 ·have h:n < ns.length:=by omega
  refine zu hl (zG (by rw [ak,ad h];rfl)) ?_;have e:ns[n]=Xa ns n:=by simp [Xa,h]
  rw [e];exact k
 ·have e:Xa ns n=0:=by
   have h:ns.length<=n:=by omega
   simp [Xa,h]
  rw [e] at k;walk_at "r";exact k
def xN (c f:Int):Int:=(c % 2147483647 + 1) * f % 2147483647
theorem jg (c f:Int):0<=xN c f:=aG _ (by decide)
theorem zbn (c f:Int):xN c f < 2147483647:=aB _ (by decide)
def zcv:Sp:=λ vs H Q _=>∃ c f:Int,vs=[.int c,.int f]/\0<=f/\f < 2147483647/\Q (.int (xN c f)) H
theorem qU (T:Txt K mg a):Cal P w K mg base "_law_spread" 1 ["_law_cell","_law_factor"] [] zcv:=T.h_L_spread.cal λ F=>by
 refine F.okx Wz ?_ ?_
 ·walk_at "i"
 walk_at "k";refine oE2 h λ c n z1_=>oA4 z1_ λ z2_ h0 h1 k=>?_;clear h;subst z2_;walk_at "T";refine ⟨_,(zc (zk (qv (zq jQ (zq zL (qv (pq 0)) zf) (pq 1))))),?_⟩;walk_at "r";exact ⟨mul_okR (by omega) (by omega),k⟩
def ze1 (a:Ad):Sp:=λ vs H Q _=>∃ (L:Addr) (bvs:List V) (n sp:Int),vs=[.ref L,.int n,.int sp]/\0<=n/\1<=sp/\sp<=4/\H L=some (.lst bvs)/\bvs.length<=100 /\
 ∀ rm pc z H1,zy rm pc->Same H H1->BtP a H1 (New H) (.ref z) (rm,pc)->Q (.int bvs.length) (upd H1 L (.lst (bvs ++ [.ref z])))
theorem wP (T:Txt K mg a):Cal P w K mg base "_law_belt" 3 ["_law_belts","_law_number","_law_span"] [] (ze1 a):=T.h_L_belt.cal λ F=>by
 refine F.okx zby ?_ ?_
 ·walk_at "i"
 walk_at "j";refine oE4 h λ L bvs n sp z1_=>oA7 z1_ λ z2_ n0 p1 p4 hL lb k=>?_;clear h;subst z2_;walk_at "T";refine ⟨_,(zi (zp 3 zby.nd (zq zL zf (qv (pq 1))))  (zK (zA (PW.pt (pw_and (zm (jv hr.units1) (qv (qm (pq 1))) zf (zr _)) (pw_and1 (zm zcY (zP zY zX (za (pq 0) zb)) zf (zr _)))))  (zc (zp 3 zby.nd (zq zL (pq 3) zf)))  zl)  (zi (zo (qp aj ao am zz (pq 0) (za (ju (x:="Belt") ⟨rfl,rfl,rfl⟩ hr (za (pq 3) (za (zq zL zf (zq qt (qm (pq 1)) (pq 2))) zb))) zb)))  (zc (zk (zq XH (zP zY zX (za (pq 0) zb)) zf)))))),?_⟩;walk_at "go";have z0:=aG n (show (3:Int)≠0 by decide);have z1:=aB n (show (0:Int) < 3 by decide);refine cut (λ σ' H'=>∃ rm:Int,σ'=[some (.ref L),some (.int n),some (.int sp),some (.int rm)]/\H'=H/\1<=rm/\rm<=6) ?_ ?_
 ·walk_at "go";refine (zI (λ _=>⟨m_len,⟨_,⟨.inl ⟨_,SqL.of hL,rfl⟩,zI (λ _=>⟨_,iA3 rfl (by omega) (by omega)⟩) (λ _=>⟨_,iA3 rfl (by omega) (by omega)⟩)⟩⟩⟩) (λ _=>⟨_,iA3 rfl (by omega) (by omega)⟩))
 intro σ' H' zz_;refine oE1 zz_ λ rm z1_=>oA4 z1_ λ z2_ z3_ r1 r6=>?_;clear zz_;subst z2_ z3_;walk_at "go";have y0:=aG (n / 24) (show (sp:Int)≠0 by omega);have y1:=aB (n / 24) (show (0:Int) < sp by omega);refine ⟨.inl ⟨rfl,_,SqL.of hL⟩,iE4 a.Belt _ _ _ (iA3 ((zdk T).mono) (by omega) ?_)⟩;intro z dz hz hdz hne;refine zej hz hdz (iA4 r1 r6 (by omega) (by omega)) λ H1 s1 q1=>⟨rfl,?_⟩;refine iE3 L bvs _ (iA5 rfl rfl (s1 _ _ hL) (zh (by omega)) ?_);have k:=k rm _ z H1 ⟨r1,r6,by omega,by omega⟩ s1 q1;have e:upd H1 L (.lst (bvs ++ [.ref z])) L=some (.lst (bvs ++ [.ref z])):=upd_same;generalize upd H1 L (.lst (bvs ++ [.ref z]))=H2 at k e ⊢;walk_at "go";refine ⟨_,.inl ⟨_,SqL.of e,rfl⟩,?_⟩;rw [aQ,cE,show (((bvs.length + 1:Nat):Int) - 1)=bvs.length by omega];exact k
def zdV (a:Ad):Sp:=λ vs H Q _=>∃ y n sp:Int,vs=[.int y,.int n,.int sp]/\0<=n/\1<=sp/\sp<=4/\∀ v H' pc,Same H H'->0<=pc->pc<=4->KnP a H' (New H) v ⟨.drain,[y],[],pc,[]⟩->Q v H'
theorem Xf (T:Txt K mg a):Cal P w K mg base "_law_drain" 4 ["_law_into","_law_number","_law_span"] [] (zdV a):=T.h_L_drain.cal λ F=>by
 refine F.okx VT ?_ ?_
 ·walk_at "i"
 walk_at "j";refine oE3 h λ y n sp z1_=>oA5 z1_ λ z2_ n0 p1 p4 k=>?_;clear h;subst z2_;walk_at "T";refine ⟨_,(zi (zA (zm (jv hr.units1) (qv (pq 1)) zf (zr _))  (zc (zk (ju (x:="Drain") ⟨rfl,rfl,rfl⟩ hr (za (pq 0) (za zf zb)))))  zl)  (zc (zk (ju (x:="Drain") ⟨rfl,rfl,rfl⟩ hr (za (pq 0) (za (zq zL zf (zq qt (qm (pq 1)) (pq 2))) zb)))))),?_⟩;walk_at "go";refine zI (λ _=>?_) (λ _=>?_)
 ·walk_at "go";refine iE4 a.Drain _ _ _ ⟨(XU T).mono,?_⟩;intro z dz hz hdz hne;exact WS hz hdz (by decide) (by decide) λ H1 s1 q1=>⟨rfl,k _ _ _ s1 (by decide) (by decide) q1⟩
 ·walk_at "go";have y0:=aG (n / 8) (show (sp:Int)≠0 by omega);have y1:=aB (n / 8) (show (0:Int) < sp by omega);refine iE4 a.Drain _ _ _ (iA3 ((XU T).mono) (by omega) ?_);intro z dz hz hdz hne;exact WS hz hdz (by omega) (by omega) λ H1 s1 q1=>⟨rfl,k _ _ _ s1 (by omega) (by omega) q1⟩
theorem zel {n u:Int} (u0:1<=u) (u6:u<=6):∃ m:Int,atI [V.int 1,.int 1,.int 2,.int 2,.int 3,.int u] (n % 6)=some (.int m)/\1<=m/\m<=6:=by
 have h0:=aG n (show (6:Int)≠0 by decide);have h1:=aB n (show (0:Int) < 6 by decide);generalize n % 6=j at h0 h1 ⊢;have:j=0\/j=1\/j=2\/j=3\/j=4\/j=5:=by omega
 rcases this with rfl|rfl|rfl|rfl|rfl|rfl
 ·exact ⟨1,iA3 rfl (by decide) (by decide)⟩
 ·exact ⟨1,iA3 rfl (by decide) (by decide)⟩
 ·exact ⟨2,iA3 rfl (by decide) (by decide)⟩
 ·exact ⟨2,iA3 rfl (by decide) (by decide)⟩
 ·exact ⟨3,iA3 rfl (by decide) (by decide)⟩
 ·exact ⟨u,iA3 rfl u0 u6⟩
def zcw (a:Ad):Sp:=λ vs H Q _=>∃ y c n sp:Int,vs=[.int y,.int c,.int n,.int sp]/\0<=n/\1<=sp/\sp<=4/\∀ v H' pc kd,Same H H'->1<=pc->pc<=4->1<=kd.length->kd.length<=6->wQ kd->KnP a H' (New H) v ⟨.source,[],[y],pc,kd⟩->Q v H'
theorem Jm (T:Txt K mg a):Cal P w K mg base "_law_source" 4 ["_law_out","_law_cell","_law_number","_law_span"] [] (zcw a):=T.h_L_source.cal λ F=>by
 refine F.okx WA ?_ ?_
 ·walk_at "i"
 walk_at "j";refine oE4 h λ y c n sp z1_=>oA5 z1_ λ z2_ n0 p1 p4 k=>?_;clear h;subst z2_;walk_at "T";refine ⟨_,(zg (zp 4 WA.nd (zw (zO (za zf (za zf (za zf (za zf (za zf (za (zq zL zf (qv (qm (pq 2)))) zb))))))) (qv (pq 2))))  (zK (zA (zm (jv hr.units1) (qv (qm (pq 2))) zf (zr _))  (zc (vB (i:=1) WA.nd rfl (Or.inr rfl) (qv (pq 1))))  zl)  (zg (ZS (i:=5) WA.nd rfl (Or.inl rfl) (vars:=["_law_k"]) (caps:=[1,2]) (N:=["_law_k","_law_cell","_law_number"]) (ON:=["_law_out","_law_cell","_law_number","_law_span","_law_many","_law_kinds"]) (osc:=zd xZ) rfl rfl (by first|decide +kernel|kernel_rfl) rfl rfl (x9 (za (pq 4) zb)) (λ s H fp pins=>(zW 0 (show (["_law_k","_law_cell","_law_number"]:List Str).Nodup from by decide +kernel))) (λ s H fp pins=>qc) (λ s H fp pins=>(V4 (zq zL (pq 1) (zq jQ (pq 0) (qv (qm (pq 2))))))))  (zc (zk (ju (x:="Source") ⟨rfl,rfl,rfl⟩ hr (za (pq 0) (za (zq zL zf (zq qt (qm (pq 2)) (pq 3))) (za (pq 5) zb))))))))),?_⟩;walk_at "go";have u0:=aG (n / 6) (show (6:Int)≠0 by decide);have u1:=aB (n / 6) (show (0:Int) < 6 by decide);refine oE1 (zel (n:=n) (u:=1 + n / 6 % 6) (by omega) (by omega)) λ m z1_=>oA3 z1_ λ em m1 m6=>?_;refine (λ q hq=>zu (SqL.of upd_same) em ?_);have s1:=ze (o:=.lst [V.int 1,.int 1,.int 2,.int 2,.int 3,.int (1 + n / 6 % 6)]) hq;generalize upd H q (.lst [V.int 1,.int 1,.int 2,.int 2,.int 3,.int (1 + n / 6 % 6)])=H1 at s1 ⊢;clear em u0 u1;walk_at "go";refine cut (λ σ' H'=>∃ c:Int,σ'=[some (.int y),some (.int c),some (.int n),some (.int sp),some (.int m),none]/\H'=H1) ?_ ?_
 ·walk_at "go";walk_at "sds";walk_at "go";exact zI (λ _=>⟨_,rfl⟩) (λ _=>⟨_,rfl⟩)
 rintro σ' H2 ⟨c2,rfl,rfl⟩;walk_at "lc";walk_at "go";refine ⟨by omega,by omega,λ _ _ _ _ acc hacc=>?_⟩;refine Zd (n:=m.toNat) (λ i σ H'=>∃ v ks,σ=[v,some (.int c2),some (.int n)]/\Same H2 H'/\ks.length=i/\wQ ks/\H' acc=some (.lst (iv ks))) (iE2 _ ([]) (iA5 rfl (ze hacc) rfl (λ _ z=>nomatch z) upd_same)) ?_ ?_
 ·intro i σ H3 hi zz_;refine oE2 zz_ λ v ks z1_=>oA5 z1_ λ z2_ s3 lk hkk ha=>?_;clear zz_;subst z2_;walk_at "go";have w0:=aG (n / 36) (show (3:Int)≠0 by decide);have w1:=aB (n / 36) (show (0:Int) < 3 by decide);refine ⟨mul_okR (by omega) (by omega),?_⟩;walk_at "go";have x0:=aG (c2 + (0 + (i:Int)) * (n / 36 % 3)) (show (1000000000000000000000000000000:Int)≠0 by decide);have x1:=aB (c2 + (0 + (i:Int)) * (n / 36 % 3)) (show (0:Int) < 1000000000000000000000000000000 by decide);generalize (c2 + (0 + (i:Int)) * (n / 36 % 3)) % 1000000000000000000000000000000=kk at x0 x1 ⊢;refine ⟨_,iA3 ha (zh (by rw [zn];omega)) (iE2 _ (ks ++ [kk]) (iA5 rfl (λ b o hb=>by rw [upd_ne (ne_of_none hb hacc)];exact s3 b o hb) (by simp [lk]) ?_ (by rw [upd_same,z8])))⟩;intro z hz;rcases az.mp hz with hz|hz
  ·exact hkk z hz
  ·rw [ar.mp hz];exact ⟨x0,x1⟩
 intro σ H3 zz_;refine oE2 zz_ λ v ks z1_=>oA5 z1_ λ z2_ s3 lk hkk ha=>?_;clear zz_;subst z2_;walk_at "go";have y0:=aG (n / 108) (show (sp:Int)≠0 by omega);have y1:=aB (n / 108) (show (0:Int) < sp by omega);refine iE4 a.Source _ _ _ (iA3 ((Va T).mono) (by omega) ?_);intro z dz hz hdz hne;have s13:=s1.trans s3;refine zbP hz hdz ha (by omega) (by omega) (by omega) (by omega) hkk λ H4 s4 q4=>⟨rfl,k _ _ _ _ (s13.trans s4) (by omega) (by omega) (by omega) (by omega) hkk (q4.keep λ b o hb ho=>⟨zT s13 hb,ho⟩)⟩
theorem zaf (T:Txt K mg a) (wd:Wd):PySem.W.kitOne K (.ref (jY a wd)) (.ref a.Source)=some (decide (wd=.source)):=by
 cases wd
 ·exact T.k1_Source_Source
 ·exact T.k1_Drain_Source
 ·exact T.k1_Parter_Source
 ·exact T.k1_FirstParter_Source
 ·exact T.k1_Sieve_Source
 ·exact T.k1_Joiner_Source
def zeY (a:Ad):Sp:=λ vs H Q _=>∃ (R:Addr) (rvs:List V) (rs:List Row) (c n:Int) (p:Addr->Prop),vs=[.ref R,.int c,.int n]/\H R=some (.lst rvs)/\Reps H p rvs (rs.map (wo a))/\(∀ r∈rs,r.ok)/\rs.length<=60/\0<=n/\∀ H' kk,Same H H'->0<=kk->kk < js->Q (.int kk) H'
theorem Vu (T:Txt K mg a):Cal P w K mg base "_law_kind" 1 ["_law_knots","_law_cell","_law_number"] [] (zeY a):=T.h_L_kind.cal λ F=>by
 refine F.okx zbu ?_ ?_
 ·walk_at "i"
 walk_at "j";obtain ⟨R,rvs,rs,c,n,p,rfl,hR,rR,ro,lr,n0,k⟩:=h;have lR:rvs.length=rs.length:=by rw [rR.len,ae]
 walk_at "T";refine ⟨_,(zi (zp 3 zbu.nd (zO (za (V4 (pq 1)) zb)))  (zK (qh qF rfl (z9 (pq 0)) (zW 4 zbu.nd)  (zc (zA (qf (zP jR zS (za (pq 4) (za jk zb))) (λ _=>rfl))  (zc (zo (qp aj b9 b8 wU (pq 3) (za (zj (pq 4) rfl) zb))))  zl)))  (zc (zk (zw (pq 3) (zq qt (pq 2) (zP zY zX (za (pq 3) zb)))))))),?_⟩;walk_at "go";have x0:=aG c (show (1000000000000000000000000000000:Int)≠0 by decide);have x1:=aB c (show (0:Int) < 1000000000000000000000000000000 by decide);intro I hI;have s1:=ze (o:=.lst [V.int (c % 1000000000000000000000000000000)]) hI;have hI1:upd H I (.lst [V.int (c % 1000000000000000000000000000000)]) I=some (.lst (iv [c % 1000000000000000000000000000000])):=upd_same;generalize upd H I (.lst [V.int (c % 1000000000000000000000000000000)])=H1 at s1 hI1 ⊢;generalize c % 1000000000000000000000000000000=k0 at x0 x1 hI1;refine cut (λ σ' H'=>∃ (v4:Option V) (ks:List Int),σ'=[some (.ref R),some (.int c),some (.int n),some (.ref I),v4]/\Same H H'/\H' I=some (.lst (iv ks))/\1<=ks.length/\ks.length<=1 + 6 * rs.length/\wQ ks) ?_ ?_
 ·walk_at "for";walk_at "go";refine ⟨R,rfl,.inl ⟨⟨_,SqL.of (s1 _ _ hR)⟩,?_⟩⟩;refine qG (K:=K) (a:=R) (xs:=rvs) (λ i σ H'=>∃ (v4:Option V) (ks:List Int),σ=[some (.ref R),some (.int c),some (.int n),some (.ref I),v4]/\Same H H'/\H' I=some (.lst (iv ks))/\1<=ks.length/\ks.length<=1 + 6 * i/\wQ ks) ⟨_,[k0],rfl,s1,hI1,av _,av _,λ z hz=>by rw [ar.mp hz];exact ⟨x0,x1⟩⟩ (λ i σ H' _ h=>by obtain ⟨_,_,_,s,_⟩:=h;exact SqL.of (s _ _ hR)) ?_ ?_
  ·rintro i x σ H2 hi ⟨v4,ks,rfl,s2,hI2,k1,k6,kk⟩;obtain ⟨d,hd,rx⟩:=rR.at hi;rw [ak,aq] at hd;obtain ⟨r,hr',rfl⟩:=hd;have hil:=(aa.mp hr').1;have ok:=ro r (ah hr');obtain ⟨y1,dx1,m1,m2,m3,fs1,rfl,_,_,_,_,g0,f1,f2,_,g1,g2,g3,_⟩:=KnP.inv rx;walk_at "go";refine ⟨.ref a.Source,_,T.g_Source,rfl,_,_,_,_,rfl,(WT T r.wd).ty (CT T r.wd) (s2 _ _ g0),.inl ⟨_,rfl,zaf T r.wd⟩,?_⟩;walk_at "go";refine zI (λ b=>?_) (λ b=>⟨_,ks,rfl,s2,hI2,k1,by omega,kk⟩);obtain ⟨f3,h3⟩:=g3 b;have ok:r.kinds.length<=6/\wQ r.kinds:=by
    unfold Row.ok at ok;rw [b] at ok;exact ⟨ok.2.2.2.2.2.1,ok.2.2.2.2.2.2⟩
   rw [b] at g0;refine ⟨.inl ⟨rfl,_,SqL.of hI2⟩,y1,a.Source,dx1,fs1,_,rfl,s2 _ _ g0,T.C_Source,T.N_Source_kinds,f3,?_⟩;refine ⟨I,m3,iv ks,iv r.kinds,rfl,rfl,hI2,s2 _ _ h3,?_,?_⟩
   ·rw [zn,zn];exact bL (zh (by omega))
   refine ⟨_,ks ++ r.kinds,rfl,(λ b o hb=>by rw [upd_ne (ne_of_none hb hI)];exact s2 b o hb),by rw [upd_same];simp [iv],by simp;omega,by simp;omega,λ z hz=>?_⟩;rcases az.mp hz with hz|hz
   ·exact kk z hz
   ·exact ok.2 z hz
  ·rintro σ H2 ⟨v4,ks,rfl,s2,hI2,k1,k6,kk⟩;rw [lR] at k6;exact ⟨v4,ks,rfl,s2,hI2,k1,k6,kk⟩
 rintro σ' H2 ⟨v4,ks,rfl,s2,hI2,k1,k6,kk⟩;walk_at "go";refine ⟨_,.inl ⟨_,SqL.of hI2,rfl⟩,?_⟩;rw [zn];refine ⟨by omega,?_⟩;have v0:=aG n (show (ks.length:Int)≠0 by omega);have v1:=aB n (show (0:Int) < (ks.length:Int) by omega);obtain ⟨j,ej⟩:∃ j:Nat,n % (ks.length:Int)=j:=⟨(n % (ks.length:Int)).toNat,by omega⟩;rw [ej] at v1 ⊢;obtain ⟨y,hy⟩:∃ y,ks[j]?=some y:=⟨ks[j]'(by omega),ad _⟩;refine zu (SqL.of hI2) (zG (jf hy)) ?_;have:=kk y (ah hy);exact k _ y s2 this.1 this.2
def zeT (n:Int):Wd:=if n=0 then .first else if n=1 then .sieve else .parter
def JX (y kk wt:Int) (outs:List Int):Row:=⟨zeT wt,[y],outs,0,if wt=1 then [kk] else []⟩
theorem WN {y kk wt:Int} {outs:List Int} (h2:2<=outs.length) (h4:outs.length<=4) (h1:wt=1->outs.length=2) (k0:0<=kk) (k1:kk < js):(JX y kk wt outs).ok:=by
 unfold JX zeT Row.ok;by_cases z:wt=0
 ·subst z;exact ⟨⟨_,rfl⟩,h2,h4⟩
 ·by_cases o:wt=1
  ·subst o;exact iA3 ⟨_,rfl⟩ (h1 rfl) ⟨kk,iA3 rfl k0 k1⟩
  ·simp only [aw z,aw o];exact ⟨⟨_,rfl⟩,h2,h4⟩
def zcy (a:Ad):Sp:=λ vs H Q _=>∃ (y kk wt:Int) (O:Addr) (outs:List Int),vs=[.int y,.ref O,.int kk,.int wt]/\H O=some (.lst (iv outs))/\2<=outs.length/\outs.length<=4/\(wt=1->outs.length=2)/\0<=kk/\kk < js/\∀ v H',Same H H'->KnP a H' (New H) v (JX y kk wt outs)->Q v H'
theorem Jn (T:Txt K mg a):Cal P w K mg base "_law_parted" 4 ["_law_into","_law_outs","_law_kind_here","_law_what"] [] (zcy a):=T.h_L_parted.cal λ F=>by
 refine F.okx WB ?_ ?_
 ·walk_at "i"
 walk_at "j";refine oE5 h λ y kk wt O outs z1_=>oA8 z1_ λ z2_ hO o2 o4 o1 k0 k1 k=>?_;clear h;subst z2_;walk_at "T";refine ⟨_,(zi (zA (zm (jv hr.units1) (pq 3) zf (zr _))  (zc (zk (ju (x:="FirstParter") ⟨rfl,rfl,rfl⟩ hr (za (pq 0) (za (pq 1) zb)))))  zl)  (zi (zA (zm (jv hr.units1) (pq 3) zf (zr _))  (zc (zk (ju (x:="Sieve") ⟨rfl,rfl,rfl⟩ hr (za (pq 0) (za (xE Zn (pq 1) vW (x8 zf)) (za (pq 2) zb))))))  zl)  (zc (zk (ju (x:="Parter") ⟨rfl,rfl,rfl⟩ hr (za (pq 0) (za (pq 1) zb))))))),?_⟩;walk_at "go";refine zI (λ b=>?_) (λ b=>?_)
 ·subst b;walk_at "go";refine iE4 a.FirstParter _ _ _ ⟨(vd T).mono,?_⟩;intro z dz hz hdz hne;exact zc9 hz hdz hO o2 o4 λ H1 s1 q1=>⟨rfl,k _ _ s1 q1⟩
 walk_at "go";refine zI (λ b1=>?_) (λ b1=>?_)
 ·subst b1;walk_at "go";refine iE4 a.Sieve _ _ _ ⟨(zaQ T).mono,ZC (SqL.of hO) λ q hq=>?_⟩;have s1:=ze (o:=.lst (iv outs)) hq;rw [show Zf (iv outs) none (some 2)=iv outs from (Jf (iv outs) 2).trans (cz (by rw [zn];have:=o1 rfl;omega))];have hq1:upd H q (.lst (iv outs)) q=some (.lst (iv outs)):=upd_same;generalize upd H q (.lst (iv outs))=H1 at s1 hq1 ⊢;intro z dz hz hdz hne;exact zc8 hz hdz hq1 (o1 rfl) k0 k1 λ H2 s2 q2=>⟨rfl,k _ _ (s1.trans s2) (q2.keep λ b o hb ho=>⟨zT s1 hb,ho⟩)⟩
 walk_at "go";refine iE4 a.Parter _ _ _ ⟨(Vb T).mono,?_⟩;intro z dz hz hdz hne;refine zbQ hz hdz hO o2 o4 λ H1 s1 q1=>⟨rfl,k _ _ s1 ?_⟩;unfold JX zeT;rw [aw b,aw b1,aw b1];exact q1
theorem zfn {H:Hp} {Q:VK} {p q:Addr} {xs:List Int} (h1:H p=some (.lst (iv xs))) (h2:H q=some (.lst [])) (k:Q (.bl (!decide (xs=[]))) H):XF K (.ref p) (.ref q) H Q:=by
 refine .inr (.inl (iE4 p q (iv xs) ([]) (iA6 rfl rfl (.inl ⟨SqL.of h1,SqL.of h2⟩) (by simp [iv,jT]) rfl ?_)));cases xs with
 | nil=>exact k
 | cons x xs=>exact k
theorem zdw {H:Hp} {Q:VK} {p q:Addr} {xs:List Int} (h1:H p=some (.lst (iv xs))) (h2:H q=some (.lst [])) (k:Q (.bl (decide (xs=[]))) H):WH K (.ref p) (.ref q) H Q:=by
 refine .inr (.inl (iE4 p q (iv xs) ([]) (iA6 rfl rfl (.inl ⟨SqL.of h1,SqL.of h2⟩) (by simp [iv,jT]) rfl ?_)));cases xs with
 | nil=>exact k
 | cons x xs=>exact k
theorem Zl {xs:List Int} {y:Int}:atI (iv (xs ++ [y])) (-1)=some (.int y):=by
 rw [show iv (xs ++ [y])=iv xs ++ [V.int y] by simp [iv]];unfold atI ixN;rw [aw (by decide),aQ,cE,aA (by omega),show (-1 + (((iv xs).length + 1:Nat):Int)).toNat=(iv xs).length by omega];simp
def zcB (a:Ad):Sp:=λ vs H Q _=>∃ (ms:List Addr) (L R En B:Addr) (bs:List (Int × Int)) (rs:List Row) (es ks:List Int) (y c sp:Int),vs=[.ref L,.ref En,.ref B,.int y,.int c,.int sp]/\GS a ms H H L R En B bs rs es ks/\WInv bs rs (y :: es) ks/\1<=sp/\sp<=4/\bs.length<=60/\es.length<=60/\ks.length<=60 /\
 ∀ v H' bs' es' ks' r,GS a ms H H' L R En B bs' rs es' ks'->KnP a H' (Off ms) v r->WInv bs' (rs ++ [r]) es' ks'->bs'.length + ks'.length<=bs.length + ks.length + 3->es'.length + ks'.length<=es.length + ks.length + 2->Q v H'
theorem zay (T:Txt K mg a):Cal P w K mg base "_law_joined" 4 ["_law_belts","_law_ends","_law_loops","_law_into","_law_cell","_law_span"] [] (zcB a):=T.h_L_joined.cal λ F=>by
 refine F.okx WC ?_ ?_
 ·walk_at "i"
 walk_at "j";refine oE8 h λ ms L R E B bs rs es z1_=>oE4 z1_ λ ks y c sp z2_=>oA9 z2_ λ z3_ W I0 p1 p4 lb le lk k=>?_;clear h;subst z3_;walk_at "T";refine ⟨_,(zg (zp 6 WC.nd (zt ⟨rfl,rfl,rfl⟩ hr (za (pq 4) (za zf zb))))  (zg (zp 7 WC.nd (zO (za (pq 3) zb)))  (zK (qh qF rfl (x9 (za (qv (pq 6)) zb)) (zW 8 WC.nd)  (zc (zA (zm (xF hr.units1) (pq 1) (zO zb) (zr _))  (zc (zo (qp aj ao am zz (pq 7) (za (qp aj c8 c7 QZ (pq 1) (za (zq qt (qm (pq 6)) (zP zY zX (za (pq 1) zb))) zb)) zb))))  zl)))  (zK (zA (zm (jv hr.units1) (zP zY zX (za (pq 7) zb)) zf (zr _))  (zg (zo (qp aj ao am zz (pq 2) (za (zt ⟨rfl,rfl,rfl⟩ hr (za (pq 0) (za (zt ⟨rfl,rfl,rfl⟩ hr (za (pq 4) (za zf zb))) (za (pq 5) zb)))) zb)))  (zc (zo (qp aj ao am zz (pq 7) (za (zw (pq 2) (w6 xu zf)) zb)))))  zl)  (zK (zA (zm (jv hr.units1) (qv (qm (pq 6))) zf (zr _))  (zc (zp 7 WC.nd (zq zL (xE Zn (pq 7) (x8 zf) vW) (xE Zn (pq 7) vW (x8 zf)))))  zl)  (zg (zo (qp aj ao am zz (pq 1) (za (zt ⟨rfl,rfl,rfl⟩ hr (za (pq 0) (za (qm (pq 6)) (za (pq 5) zb)))) zb)))  (zc (zk (ju (x:="Joiner") ⟨rfl,rfl,rfl⟩ hr (za (pq 7) (za (zw (pq 1) (w6 xu zf)) zb))))))))))),?_⟩;walk_at "go";refine uc (qU T).mono (iE2 c _ (iA4 rfl (by decide) (by decide) ?_));have n0:=jg c 1618033989;generalize xN c 1618033989=nu at n0 ⊢;walk_at "go";intro I hI;obtain ⟨W1,nI⟩:=W.ext (xs:=[V.int y]) hI;have hI1:upd H I (.lst [V.int y]) I=some (.lst (iv [y])):=upd_same;generalize upd H I (.lst [V.int y])=H1 at W1 hI1 ⊢;have mI:I∈I :: ms:=by simp
 have nu0:=aG nu (show (4:Int)≠0 by decide);have nu1:=aB nu (show (0:Int) < 4 by decide);walk_at "go";refine cut (λ σ' H'=>∃ (v8:Option V) (ins es2:List Int),σ'=[some (.ref L),some (.ref E),some (.ref B),some (.int y),some (.int c),some (.int sp),some (.int nu),some (.ref I),v8]/\GS a (I :: ms) H H' L R E B bs rs es2 ks/\H' I=some (.lst (iv ins))/\(ins ++ es2).Perm (y :: es)/\1<=ins.length/\ins.length<=4) ?_ ?_
 ·walk_at "for";walk_at "go";refine ⟨by omega,by omega,?_⟩;refine Zd (n:=(nu % 4).toNat) (λ i σ' H'=>∃ (v8:Option V) (ins es2:List Int),σ'=[some (.ref L),some (.ref E),some (.ref B),some (.int y),some (.int c),some (.int sp),some (.int nu),some (.ref I),v8]/\GS a (I :: ms) H H' L R E B bs rs es2 ks/\H' I=some (.lst (iv ins))/\(ins ++ es2).Perm (y :: es)/\1<=ins.length/\ins.length<=1 + i) (iE3 _ ([y]) es (iA6 rfl W1 hI1 (aR _) (av _) (av _))) ?_ ?_
  ·clear W1 hI1;intro i σ' H3 hi zz_;refine oE3 zz_ λ v8 ins es2 z1_=>oA6 z1_ λ z2_ W3 hI3 p3 i1 ii=>?_;clear zz_;subst z2_;have pl:=p3.length_eq;rw [aQ,bH] at pl;walk_at "go";intro q hq;have sq:=ze (o:=.lst []) hq;have W4:=W3.same sq;have hI4:=sq _ _ hI3;refine zfn W4.hE (upd_same) ?_;generalize upd H3 q (.lst [])=H4 at W4 hI4 ⊢;clear W3 hI3 hq sq;walk_at "go";refine zI (λ b=>?_) (λ b=>(iE3 _ ins es2 (iA6 rfl W4 hI4 p3 i1 (by omega))));have el:(0:Int) < es2.length:=by
    rcases di es2.length with z|z
    ·exact absurd (bQ.mp z) (by simpa using b)
    ·omega
   refine iA4 (.inl ⟨rfl,_,SqL.of hI4⟩) (.inl ⟨rfl,_,SqL.of W4.hE⟩) m_len ⟨_,⟨.inl ⟨_,SqL.of W4.hE,rfl⟩,?_⟩⟩;rw [zn];refine ⟨el,?_⟩;have v0:=aG (nu / 4) (show (es2.length:Int)≠0 by omega);have v1:=aB (nu / 4) el;generalize nu / 4 % (es2.length:Int)=jj at v0 v1 ⊢;obtain ⟨y2,hy⟩:∃ y,es2[jj.toNat]?=some y:=⟨es2[jj.toNat]'(by omega),ad _⟩;refine iE5 E (iv es2) jj jj.toNat (.int y2) (iA8 rfl rfl W4.hE (by omega) (by omega) (QO v0 (by rw [zn];exact v1)) (jf hy) ?_);rw [Q8];have W5:=W4.setE (es2.eraseIdx jj.toNat);have p5:=vV hy;have nIE:I≠E:=λ z=>nI (by rw [z];simp);have hI5:upd H4 E (.lst (iv (es2.eraseIdx jj.toNat))) I=some (.lst (iv ins)):=by rw [upd_ne nIE];exact hI4
   generalize upd H4 E (.lst (iv (es2.eraseIdx jj.toNat)))=H5 at W5 hI5 ⊢;generalize es2.eraseIdx jj.toNat=es3 at p5 W5 ⊢;refine iE3 I _ _ (iA5 rfl rfl hI5 (zh (by rw [zn];omega)) ?_);rw [z8];refine iE3 _ (ins ++ [y2]) es3 (iA6 rfl (W5.setX mI nI hI) upd_same ?_ (by simp) (by simp;omega));rw [bN];exact (bF _ p5).trans p3
  ·intro σ' H3 zz_;refine oE3 zz_ λ v8 ins es2 z1_=>oA6 z1_ λ z2_ W3 hI3 p3 i1 ii=>?_;clear zz_;subst z2_;exact iE3 v8 ins es2 (iA6 rfl W3 hI3 p3 i1 (by omega))
 clear W1 hI1;intro σ' H2 zz_;refine oE3 zz_ λ v8 ins es2 z1_=>oA6 z1_ λ z2_ W2 hI2 p2 i1 i4=>?_;clear zz_;subst z2_;have I2:WInv bs rs (ins ++ es2) ks:=I0.perm p2 (aR _);have pl:=p2.length_eq;rw [aQ,bH] at pl;clear I0 p2;walk_at "go";refine cut (λ σ' H'=>∃ (bs1:List (Int × Int)) (ins ks1:List Int),σ'=[some (.ref L),some (.ref E),some (.ref B),some (.int y),some (.int c),some (.int sp),some (.int nu),some (.ref I),v8]/\GS a (I :: ms) H H' L R E B bs1 rs es2 ks1/\H' I=some (.lst (iv ins))/\WInv bs1 rs (ins ++ es2) ks1/\2<=ins.length/\ins.length<=4/\bs1.length + ks1.length<=bs.length + ks.length + 2/\ks1.length<=ks.length + 1/\bs1.length<=bs.length + 1) ?_ ?_
 ·walk_at "go";refine ⟨_,.inl ⟨_,SqL.of hI2,rfl⟩,?_⟩;rw [zn];walk_at "go";refine zI (λ b=>?_) (λ b=>(iE3 bs ins ks (iA8 W2 hI2 I2 (by omega) i4 (by omega) (by omega) (by omega))));obtain ⟨bv,hL,rL⟩:=W2.hL;have lL:bv.length=bs.length:=by rw [rL.len,ae]
  walk_at "go";refine ⟨.inl ⟨rfl,_,SqL.of W2.hB⟩,iE3 _ _ _ ⟨(wP T).mono,iE3 _ _ _ ⟨(qU T).mono,⟨c,_,rfl,by decide,by decide,?_⟩⟩⟩⟩;refine iE4 L bv _ sp (iA7 rfl (jg _ _) p1 p4 hL (by omega) (λ rm pc z H3 bk s3 q3=>?_));obtain ⟨W3,_⟩:=W2.addL hL s3 q3;rw [lL];have nIL:I≠L:=λ z=>nI (by rw [z];simp);have hI3:upd H3 L (.lst (bv ++ [.ref z])) I=some (.lst (iv ins)):=by rw [upd_ne nIL];exact s3 _ _ hI2
  generalize upd H3 L (.lst (bv ++ [.ref z]))=H4 at W3 hI3 ⊢;have I3:=I2.belt (b:=(rm,pc)) bk;refine iE3 B _ _ (iA5 rfl rfl W3.hB (zh (by rw [zn];omega)) ?_);rw [z8];have W4:=W3.setB (ks ++ [(bs.length:Int)]);have nIB:I≠B:=λ z=>nI (by rw [z];simp);have hI4:upd H4 B (.lst (iv (ks ++ [(bs.length:Int)]))) I=some (.lst (iv ins)):=by rw [upd_ne nIB];exact hI3
  generalize upd H4 B (.lst (iv (ks ++ [(bs.length:Int)])))=H5 at W4 hI4 ⊢;walk_at "go";refine ⟨.inl ⟨rfl,_,SqL.of hI4⟩,zu (SqL.of W4.hB) Zl ?_⟩;refine iE3 I _ _ (iA5 rfl rfl hI4 (zh (by rw [zn];omega)) ?_);rw [z8];refine iE3 (bs ++ [(rm,pc)]) (ins ++ [(bs.length:Int)]) (ks ++ [(bs.length:Int)]) (iA8 (W4.setX mI nI hI) upd_same (I3.perm ?_ (aR _)) (by simp;omega) (by simp;omega) (by simp;omega) (by simp) (by simp));rw [bN,bN];exact bF _ cD
 have e2l:es2.length<=es.length:=by omega
 clear W2 hI2 I2 i1 i4;intro σ' H3 zz_;refine oE3 zz_ λ bs1 ins ks1 z1_=>oA9 z1_ λ z2_ W3 hI3 I3 i2 i4 q1 q2 q3=>?_;clear zz_;subst z2_;walk_at "go";refine cut (λ σ' H'=>∃ (J:Addr) (ins:List Int),σ'=[some (.ref L),some (.ref E),some (.ref B),some (.int y),some (.int c),some (.int sp),some (.int nu),some (.ref J),v8]/\GS a ms H H' L R E B bs1 rs es2 ks1/\H' J=some (.lst (iv ins))/\J ∉ ms4 L R E B/\WInv bs1 rs (ins ++ es2) ks1/\2<=ins.length/\ins.length<=4) ?_ ?_
 ·walk_at "go";walk_at "sds";walk_at "go";refine zI (λ b=>?_) (λ b=>(iE2 I ins (iA7 rfl (W3.less nI) hI3 nI I3 i2 i4)));walk_at "go";refine ZC (SqL.of hI3) λ j1 hj1=>?_;rw [show Zf (iv ins) (some 1) none=iv (ins.drop 1) from (Vk (iv ins) 1 (by rw [zn];omega)).trans (by simp [iv])];have a1:=ze (o:=.lst (iv (ins.drop 1))) hj1;refine ZC (SqL.of (a1 _ _ hI3)) λ j2 hj2=>?_;rw [show Zf (iv ins) none (some 1)=iv (ins.take 1) from (Jf (iv ins) 1).trans (by simp [iv])];have a2:=ze (o:=.lst (iv (ins.take 1))) hj2;refine XE (SqL.of (a2 _ _ upd_same)) (SqL.of upd_same) (Xq (by rw [zn,zn,cU,aI];omega)) λ j3 hj3=>?_;have a3:=ze (o:=.lst (iv (ins.drop 1) ++ iv (ins.take 1))) hj3;have sA:=(a1.trans a2).trans a3;have W4:=W3.same sA;have n3:=(W3.same (a1.trans a2)).off hj3;refine iE2 j3 (ins.drop 1 ++ ins.take 1) (iA7 rfl (W4.less nI) (by rw [upd_same];simp [iv]) (λ z=>n3 (aH _ ?_)) (I3.perm (cq _ (vT ins 1)) (aR _)) (by rw [(vT ins 1).length_eq];exact i2) (by rw [(vT ins 1).length_eq];exact i4));exact W.m _ z
 clear W3 hI3 I3 i2 i4;intro σ' H4 zz_;refine oE2 zz_ λ J ins z1_=>oA7 z1_ λ z2_ W4 hJ4 nJ I4 i2 i4=>?_;clear zz_;subst z2_;obtain ⟨bv,hL,rL⟩:=W4.hL;have lL:bv.length=bs1.length:=by rw [rL.len,ae]
 walk_at "go";refine ⟨.inl ⟨rfl,_,SqL.of W4.hE⟩,iE3 _ _ _ ⟨(wP T).mono,?_⟩⟩;refine iE4 L bv _ sp (iA7 rfl (bI n0 (by decide)) p1 p4 hL (by omega) (λ rm pc z H5 bk s5 q5=>?_));obtain ⟨W5,_⟩:=W4.addL hL s5 q5;rw [lL];have nJL:J≠L:=λ z=>nJ (by rw [z];simp);have hJ5:upd H5 L (.lst (bv ++ [.ref z])) J=some (.lst (iv ins)):=by rw [upd_ne nJL];exact s5 _ _ hJ4
 generalize upd H5 L (.lst (bv ++ [.ref z]))=H6 at W5 hJ5 ⊢;have I5:=I4.belt (b:=(rm,pc)) bk;refine iE3 E _ _ (iA5 rfl rfl W5.hE (zh (by rw [zn];omega)) ?_);rw [z8];have W6:=W5.setE (es2 ++ [(bs1.length:Int)]);have nJE:J≠E:=λ z=>nJ (by rw [z];simp);have hJ6:upd H6 E (.lst (iv (es2 ++ [(bs1.length:Int)]))) J=some (.lst (iv ins)):=by rw [upd_ne nJE];exact hJ5
 generalize upd H6 E (.lst (iv (es2 ++ [(bs1.length:Int)])))=H7 at W6 hJ6 ⊢;walk_at "go";refine iE4 a.Joiner _ _ _ ⟨(Vc T).mono,zu (SqL.of W6.hE) Zl ?_⟩;intro z dz hz hdz hne;refine zbR hz hdz hJ6 i2 i4 λ H8 s8 q8=>⟨rfl,?_⟩;refine k _ H8 (bs1 ++ [(rm,pc)]) (es2 ++ [(bs1.length:Int)]) ks1 ⟨.joiner,ins,[(bs1.length:Int)],0,[]⟩ (W6.same s8) (W6.newK q8) (I5.knot ?_ cD ⟨⟨_,rfl⟩,i2,i4⟩) (by simp;omega) (by simp;omega);rw [bN]
def HasS (rs:List Row):Prop:=∃ r∈rs,r.wd=.source
theorem HasS.snoc {rs:List Row} {r:Row} (h:HasS rs):HasS (rs ++ [r]):=by
 obtain ⟨x,hx,e⟩:=h;exact ⟨x,aZ _ hx,e⟩
theorem zb1 {rs:List Row} {r:Row} (h:r.wd=.source):HasS (rs ++ [r]):=⟨r,by simp,h⟩
theorem HasS.perm {rs rs':List Row} (h:HasS rs) (p:rs'.Perm rs):HasS rs':=by
 obtain ⟨x,hx,e⟩:=h;exact ⟨x,p.mem_iff.mpr hx,e⟩
abbrev stG (L R E B:Addr) (c sp nu:Int) (v8 v9 v10 v11 v12:Option V):St:=[some (.ref L),some (.ref R),some (.ref E),some (.ref B),some (.int c),some (.int sp),some (.int nu),some (.int (nu % 9)),v8,v9,v10,v11,v12]
theorem zfG {k:Nat} (h:k < 4):∃ m:Int,atI [V.int 941083987,.int 1726512289,.int 1999483721,.int 1103527591] (0 + (k:Int))=some (.int m)/\0<=m/\m < 2147483647:=by
 match k,h with
 | 0,_=>exact ⟨_,rfl,by decide,by decide⟩
 | 1,_=>exact ⟨_,rfl,by decide,by decide⟩
 | 2,_=>exact ⟨_,rfl,by decide,by decide⟩
 | 3,_=>exact ⟨_,rfl,by decide,by decide⟩
theorem zeh {n:Int}:∃ m:Int,atI [V.int 0,.int 0,.int 1,.int 2] (n % 4)=some (.int m)/\0<=m/\m<=2:=by
 have h0:=aG n (show (4:Int)≠0 by decide);have h1:=aB n (show (0:Int) < 4 by decide);generalize n % 4=j at h0 h1 ⊢;have:j=0\/j=1\/j=2\/j=3:=by omega
 rcases this with rfl|rfl|rfl|rfl <;> exact ⟨_,rfl,by decide,by decide⟩
def zcC (a:Ad):Sp:=λ vs H Q _=>∃ (ms:List Addr) (L R En B:Addr) (bs:List (Int × Int)) (rs:List Row) (es ks:List Int) (c sp:Int),vs=[.ref L,.ref R,.ref En,.ref B,.int c,.int sp]/\GS a ms H H L R En B bs rs es ks/\WInv bs rs es ks/\1<=sp/\sp<=4/\bs.length<=50/\rs.length<=50/\es.length<=50/\ks.length<=50 /\
 ∀ H' bs' rs' es' ks',GS a ms H H' L R En B bs' rs' es' ks'->WInv bs' rs' es' ks'->bs'.length + ks'.length<=bs.length + ks.length + 4->rs'.length + es'.length + ks'.length<=rs.length + es.length + ks.length + 4->(es=[]->bs'.length + ks'.length<=bs.length + ks.length + 1/\rs'.length + es'.length + ks'.length<=rs.length + es.length + ks.length + 2)->1<=rs'.length->(es=[]\/HasS rs->HasS rs')->Q .non H'
theorem zbN (T:Txt K mg a) (F:Fun K "_law_grow" "_law_grow" vR f fd):FnOk P w K mg base (CXr P w) 5 f fd ["_law_belts","_law_knots","_law_ends","_law_loops","_law_cell","_law_span"] (zcC a):=by
 refine F.okx zbv ?_ ?_
 ·walk_at "i"
 walk_at "j";refine oE8 h λ ms L R E B bs rs es z1_=>oE3 z1_ λ ks c sp z2_=>oA6 z2_ λ z3_ W I0 p1 p4 z4_=>oA5 z4_ λ lb lr le lk k=>?_;clear h;subst z3_;walk_at "T";refine ⟨_,(zg (zp 6 zbv.nd (zt ⟨rfl,rfl,rfl⟩ hr (za (pq 4) (za zf zb))))  (zg (zp 7 zbv.nd (qv (pq 6)))  (zg (zA (PW.pt (pw_or (zm (jv hr.units1) (pq 2) (zO zb) (zr _)) (pw_or1 (zm (jv hr.units1) (pq 7) zf (zr _)))))  (zg (zo (qp aj ao am zz (pq 2) (za (zt ⟨rfl,rfl,rfl⟩ hr (za (pq 0) (za (qm (pq 6)) (za (pq 5) zb)))) zb)))  (zg (zo (qp aj ao am zz (pq 1) (za (zt ⟨rfl,rfl,rfl⟩ hr (za (zw (pq 2) (w6 xu zf)) (za (pq 4) (za (qm (pq 6)) (za (pq 5) zb))))) zb)))  (zc (zk zD))))  zl)  (zg (zp 8 zbv.nd (qp aj c8 c7 QZ (pq 2) (za (zq qt (qm (pq 6)) (zP zY zX (za (pq 2) zb))) zb)))  (zK (zA (zm (jv hr.units1) (pq 7) zf (zr _))  (zc (zo (qp aj ao am zz (pq 1) (za (zt ⟨rfl,rfl,rfl⟩ hr (za (pq 8) (za (qm (pq 6)) (za (pq 5) zb)))) zb))))  (zc (zA (zm zcZ (pq 7) zf (zr _))  (zc (zo (qp aj ao am zz (pq 1) (za (zt ⟨rfl,rfl,rfl⟩ hr (za (pq 0) (za (pq 2) (za (pq 3) (za (pq 8) (za (pq 4) (za (pq 5) zb))))))) zb))))  (zg (zp 9 zbv.nd (zO zb))  (zg (zp 10 zbv.nd zf)  (zK (zA (zm (xF hr.units1) (pq 7) zf (zr _))  (zc (zp 10 zbv.nd (zq zL zf (zw (zO (za zf (za zf (za zf (za zf zb))))) (qv (qm (pq 6)))))))  zl)  (zK (qh qF rfl (x9 (za (pq 10) zb)) (zW 11 zbv.nd)  (zg (zp 12 zbv.nd (zw (zO (za zf (za zf (za zf (za zf zb))))) (pq 11)))  (zc (zo (qp aj ao am zz (pq 9) (za (zt ⟨rfl,rfl,rfl⟩ hr (za (pq 0) (za (zt ⟨rfl,rfl,rfl⟩ hr (za (pq 4) (za (pq 12) zb))) (za (pq 5) zb)))) zb))))))  (zg (zo (qp aj b9 b8 wU (pq 2) (za (pq 9) zb)))  (zc (zo (qp aj ao am zz (pq 1) (za (zt ⟨rfl,rfl,rfl⟩ hr (za (pq 8) (za (pq 9) (za (zt ⟨rfl,rfl,rfl⟩ hr (za (pq 1) (za (pq 4) (za (qm (pq 6)) zb)))) (za (pq 7) zb))))) zb))))))))))))  (zc (zk zD))))))),?_⟩;walk_at "go";refine uc (qU T).mono (iE2 c _ (iA4 rfl (by decide) (by decide) ?_));have n0:=jg c 1530421987;generalize xN c 1530421987=nu at n0 ⊢;walk_at "go";intro q hq;have sq:=ze (o:=.lst []) hq;have W1:=W.same sq;refine zdw W1.hE upd_same ?_;generalize upd H q (.lst [])=H1 at W1 ⊢;clear sq hq;walk_at "go";refine XW (C:=nu % 9=8) (λ z=>?_) (λ a0 hp=>?_)
 ·obtain ⟨bv,hL,rL⟩:=W1.hL;have lL:bv.length=bs.length:=by rw [rL.len,ae]
  walk_at "go";refine ⟨.inl ⟨rfl,_,SqL.of W1.hE⟩,iE3 _ _ _ ⟨(wP T).mono,?_⟩⟩;refine iE4 L bv _ sp (iA7 rfl (bI n0 (by decide)) p1 p4 hL (by omega) (λ rm pc z H3 bk s3 q3=>?_));obtain ⟨W3,_⟩:=W1.addL hL s3 q3;rw [lL];generalize upd H3 L (.lst (bv ++ [.ref z]))=H4 at W3 ⊢;have I3:=I0.belt (b:=(rm,pc)) bk;refine iE3 E _ _ (iA5 rfl rfl W3.hE (zh (by rw [zn];omega)) ?_);rw [z8];have W4:=W3.setE (es ++ [(bs.length:Int)]);generalize upd H4 E (.lst (iv (es ++ [(bs.length:Int)])))=H5 at W4 ⊢;obtain ⟨rv,hR,rR⟩:=W4.hR;have lR:rv.length=rs.length:=by rw [rR.len,ae]
  walk_at "go";refine ⟨.inl ⟨rfl,_,SqL.of hR⟩,iE3 _ _ _ ⟨(Jm T).mono,zu (SqL.of W4.hE) Zl ?_⟩⟩;refine iE4 _ c _ sp (iA5 rfl (bI n0 (by decide)) p1 p4 (λ v H6 pc' kd s6 c1 c4 d1 d6 dk q6=>?_));obtain ⟨W6,_⟩:=W4.addR hR s6 (W4.newK q6);refine iE3 R _ _ (iA5 rfl rfl (s6 _ _ hR) (zh (by omega)) ?_);walk_at "go";exact k _ _ _ _ _ W6 (I3.knot (r:=⟨.source,[],[(bs.length:Int)],pc',kd⟩) (aR _) cD (iA7 rfl ⟨_,rfl⟩ c1 c4 d1 d6 dk)) (by simp;omega) (by simp;omega) (λ _=>⟨by simp;omega,by simp;omega⟩) (by simp) (λ _=>zb1 rfl)
 refine zI (λ z=>hp z) (λ n8=>?_);clear hp;have el:(0:Int) < es.length:=by
  rcases di es.length with z|z
  ·exact absurd (bQ.mp z) a0
  ·omega
 have k:=λ H' bs' (rs':List Row) es' ks' a b c d (e:1<=rs'.length) (f:HasS rs->HasS rs')=>k H' bs' rs' es' ks' a b c d (λ z=>absurd z a0) e (λ z=>z.elim (λ z=>absurd z a0) f);walk_at "go";refine iA3 (.inl ⟨rfl,_,SqL.of W1.hE⟩) m_len ⟨_,⟨.inl ⟨_,SqL.of W1.hE,rfl⟩,?_⟩⟩;rw [zn];refine ⟨el,?_⟩;have v0:=aG (nu / 9) (show (es.length:Int)≠0 by omega);have v1:=aB (nu / 9) el;generalize nu / 9 % (es.length:Int)=jj at v0 v1 ⊢;obtain ⟨y,hy⟩:∃ y,es[jj.toNat]?=some y:=⟨es[jj.toNat]'(by omega),ad _⟩;refine iE5 E (iv es) jj jj.toNat (.int y) (iA8 rfl rfl W1.hE (by omega) (by omega) (QO v0 (by rw [zn];exact v1)) (jf hy) ?_);rw [Q8];have W2:=W1.setE (es.eraseIdx jj.toNat);have pp:=vV hy;have pl:=pp.length_eq;rw [bH] at pl;have I2:=I0.perm pp (aR _);generalize upd H1 E (.lst (iv (es.eraseIdx jj.toNat)))=H2 at W2 ⊢;generalize es.eraseIdx jj.toNat=es1 at pp pl W2 I2 ⊢;clear W W1 I0 pp;obtain ⟨rv,hR,rR⟩:=W2.hR;have lR:rv.length=rs.length:=by rw [rR.len,ae]
 walk_at "go";let M1_:St->Hp->Prop:=λ σ' H'=>∃ (v9 v10 v11 v12:Option V) (bs':List (Int × Int)) (rs':List Row) (es' ks':List Int),σ'=stG L R E B c sp nu (some (.int y)) v9 v10 v11 v12/\GS a ms H H' L R E B bs' rs' es' ks'/\WInv bs' rs' es' ks'/\bs'.length + ks'.length<=bs.length + ks.length + 4/\rs'.length + es'.length + ks'.length<=rs.length + es.length + ks.length + 4/\1<=rs'.length/\(HasS rs->HasS rs');refine cut M1_ ?_ ?_
 ·walk_at "go";refine zI (λ w7=>?_) (λ w7=>?_)
  ·walk_at "go";refine ⟨.inl ⟨rfl,_,SqL.of hR⟩,iE3 _ _ _ ⟨(Xf T).mono,?_⟩⟩;refine iE3 y _ sp (iA5 rfl (bI n0 (by decide)) p1 p4 (λ v H3 pc s3 c0 c4 q3=>?_));obtain ⟨W3,_⟩:=W2.addR hR s3 (W2.newK q3);refine iE3 R _ _ (iA5 rfl rfl (s3 _ _ hR) (zh (by omega)) (iE8 _ _ _ _ bs _ es1 ks (iA7 rfl W3 (I2.knot (r:=⟨.drain,[y],[],pc,[]⟩) (aR _) (aR _) (iA4 ⟨_,rfl⟩ rfl c0 c4)) (by omega) (by simp;omega) (by simp) HasS.snoc)))
  walk_at "go";refine zI (λ w3=>?_) (λ w3=>?_)
  ·walk_at "go";refine ⟨.inl ⟨rfl,_,SqL.of hR⟩,iE3 _ _ _ ⟨(zay T).mono,⟨ms,L,R,E,B,bs,rs,es1,ks,y,c,sp,rfl,W2.here,I2,p1,p4,by omega,by omega,by omega,λ v H3 bs' es' ks' r W3 q3 I3 l1 l2=>?_⟩⟩⟩;have W3:=W2.trans W3;obtain ⟨rv3,hR3,rR3⟩:=W3.hR;obtain ⟨W4,_⟩:=W3.addR hR3 (Same.refl _) q3;have lR3:rv3.length=rs.length:=by rw [rR3.len,ae]
   refine iE3 R _ _ (iA5 rfl rfl hR3 (zh (by omega)) (iE8 _ _ _ _ bs' _ es' ks' (iA7 rfl W4 I3 (by omega) (by simp;omega) (by simp) HasS.snoc)))
  walk_at "go";intro O hO;obtain ⟨W3,nO⟩:=W2.ext (xs:=[]) hO;have hO3:upd H2 O (.lst []) O=some (.lst (iv [])):=upd_same;have hO0:H O=none:=by
   cases e:H O with
   | none=>rfl
   | some u=>rw [W2.f O u nO e] at hO;cases hO
  generalize upd H2 O (.lst [])=H3 at W3 hO3 ⊢;have mO:O∈O :: ms:=by simp
  walk_at "go";let M2_:St->Hp->Prop:=λ σ' H'=>∃ (v10:Nat),σ'=stG L R E B c sp nu (some (.int y)) (some (.ref O)) (some (.int v10)) none none/\GS a (O :: ms) H H' L R E B bs rs es1 ks/\H' O=some (.lst (iv []))/\2<=v10/\v10<=4/\(nu % 9=1->v10=2);refine cut M2_ ?_ ?_
  ·walk_at "go";refine zI (λ w1=>?_) (λ w1=>⟨2,iA6 rfl W3 hO3 (by decide) (by decide) (λ _=>rfl)⟩);refine oE1 (zeh (n:=nu / 216)) λ m z1_=>oA3 z1_ λ em m0 m2=>?_;walk_at "go";intro q hq;refine (zu (SqL.of upd_same) em ?_);have sq:=ze (o:=.lst [V.int 0,.int 0,.int 1,.int 2]) hq;walk_at "go";refine ⟨(2 + m).toNat,iA6 ?_ (W3.same sq) (sq _ _ hO3) (by omega) (by omega) (λ z=>absurd z w1)⟩;rw [show (((2 + m).toNat:Nat):Int)=2 + m by omega]
  clear W3 hO3;intro σ' H4 zz_;refine oE1 zz_ λ mn z1_=>oA6 z1_ λ z2_ W4 hO4 m2 m4 m1=>?_;clear zz_;subst z2_;walk_at "go";let M3_:St->Hp->Prop:=λ σ' H'=>∃ (v11 v12:Option V) (bs':List (Int × Int)) (outs:List Int),σ'=stG L R E B c sp nu (some (.int y)) (some (.ref O)) (some (.int mn)) v11 v12/\GS a (O :: ms) H H' L R E B bs' rs es1 ks/\H' O=some (.lst (iv outs))/\WInv bs' rs (y :: (es1 ++ outs)) (ks ++ outs)/\outs.length=mn/\bs'.length=bs.length + mn;refine cut M3_ ?_ ?_
  ·walk_at "for";walk_at "go";refine ⟨by omega,by omega,?_⟩;let M4_:Nat->St->Hp->Prop:=λ i σ' H'=>∃ (v11 v12:Option V) (bs':List (Int × Int)) (outs:List Int),σ'=stG L R E B c sp nu (some (.int y)) (some (.ref O)) (some (.int mn)) v11 v12/\GS a (O :: ms) H H' L R E B bs' rs es1 ks/\H' O=some (.lst (iv outs))/\WInv bs' rs (y :: (es1 ++ outs)) (ks ++ outs)/\outs.length=i/\bs'.length=bs.length + i;refine Zd (n:=(mn:Int).toNat) M4_ (iE4 _ _ bs ([]) (iA6 rfl W4 hO4 (by rw [cF,cF];exact I2) rfl rfl)) ?_ ?_
   ·clear W4 hO4;intro i σ' H5 hi zz_;refine oE4 zz_ λ v11 v12 bs' outs z1_=>oA6 z1_ λ z2_ W5 hO5 I5 lo lb'=>?_;clear zz_;subst z2_;have hi4:i < 4:=by omega
    refine oE1 (zfG hi4) λ fa z1_=>oA3 z1_ λ efa f0 f1=>?_;walk_at "go";intro q hq;refine zu (SqL.of upd_same) efa ?_;have sq:=ze (o:=.lst [V.int 941083987,.int 1726512289,.int 1999483721,.int 1103527591]) hq;have W6:=W5.same sq;have hO6:=sq _ _ hO5;generalize upd H5 q (.lst [V.int 941083987,.int 1726512289,.int 1999483721,.int 1103527591])=H6 at W6 hO6 ⊢;clear W5 hO5 sq hq efa;obtain ⟨bv,hL,rL⟩:=W6.hL;have lL:bv.length=bs'.length:=by rw [rL.len,ae]
    walk_at "go";refine ⟨.inl ⟨rfl,_,SqL.of hO6⟩,iE3 _ _ _ ⟨(wP T).mono,iE3 _ _ _ ⟨(qU T).mono,⟨c,fa,rfl,f0,f1,?_⟩⟩⟩⟩;refine iE4 L bv _ sp (iA7 rfl (jg _ _) p1 p4 hL (by omega) (λ rm pc z H7 bk s7 q7=>?_));obtain ⟨W7,_⟩:=W6.addL hL s7 q7;rw [lL];have nOL:O≠L:=λ z=>nO (by rw [z];simp);have hO7:upd H7 L (.lst (bv ++ [.ref z])) O=some (.lst (iv outs)):=by rw [upd_ne nOL];exact s7 _ _ hO6
    generalize upd H7 L (.lst (bv ++ [.ref z]))=H8 at W7 hO7 ⊢;have I7:=I5.belt (b:=(rm,pc)) bk;refine iE3 O _ _ (iA5 rfl rfl hO7 (zh (by rw [zn];omega)) ?_);rw [z8];refine iE4 _ _ (bs' ++ [(rm,pc)]) (outs ++ [(bs'.length:Int)]) (iA6 rfl (W7.setX mO nO hO0) upd_same ?_ (by simp [lo]) (by simp [lb'];omega));rw [<- bN,<- bN];exact I7
   ·intro σ' H5 zz_;refine oE4 zz_ λ v11 v12 bs' outs z1_=>oA6 z1_ λ z2_ W5 hO5 I5 lo lb'=>?_;clear zz_;subst z2_;exact iE4 v11 v12 bs' outs (iA6 rfl W5 hO5 I5 (by omega) (by omega))
  clear W4 hO4;intro σ' H5 zz_;refine oE4 zz_ λ v11 v12 bs' outs z1_=>oA6 z1_ λ z2_ W5 hO5 I5 lo lb'=>?_;clear zz_;subst z2_;walk_at "go";refine ⟨.inl ⟨rfl,_,SqL.of W5.hE⟩,iE4 E O (iv es1) (iv outs) (iA6 rfl rfl W5.hE hO5 ?_ ?_)⟩
  ·rw [zn,zn];exact bL (zh (by omega))
  rw [show iv es1 ++ iv outs=iv (es1 ++ outs) by simp [iv]];have W6:=W5.setE (es1 ++ outs);have nOE:O≠E:=λ z=>nO (by rw [z];simp);have hO6:upd H5 E (.lst (iv (es1 ++ outs))) O=some (.lst (iv outs)):=by rw [upd_ne nOE];exact hO5
  generalize upd H5 E (.lst (iv (es1 ++ outs)))=H6 at W6 hO6 ⊢;have W7:=W6.less nO;obtain ⟨rv7,hR7,rR7⟩:=W7.hR;have lR7:rv7.length=rs.length:=by rw [rR7.len,ae]
  walk_at "go";refine ⟨.inl ⟨rfl,_,SqL.of hR7⟩,iE3 _ _ _ ⟨(Jn T).mono,iE3 _ _ _ ⟨(Vu T).mono,?_⟩⟩⟩;refine iE6 R rv7 rs c _ _ (iA7 rfl hR7 rR7 I5.ro (by omega) (bI n0 (by decide)) (λ H8 kk s8 k0 k1=>?_));refine iE5 y kk (nu % 9) O outs (iA8 rfl (s8 _ _ hO6) (by omega) (by omega) (λ z=>by rw [lo];exact m1 z) k0 k1 (λ v H9 s9 q9=>?_));have s79:=s8.trans s9;have q9:KnP a H9 (New H6) v (JX y kk (nu % 9) outs):=q9.keep λ b o hb ho=>⟨zT s8 hb,ho⟩;obtain ⟨W9,_⟩:=W7.addR hR7 s79 (W7.newK q9);refine iE3 R _ _ (iA5 rfl rfl (s79 _ _ hR7) (zh (by omega)) ?_);refine iE8 _ _ _ _ bs' _ (es1 ++ outs) ks (iA7 rfl W9 (I5.knot (aR _) cD (WN (by omega) (by omega) (λ z=>by rw [lo];exact m1 z) k0 k1)) (by omega) (by simp;omega) (by simp) HasS.snoc)
 intro σ' H3 zz_;refine oE8 zz_ λ v9 v10 v11 v12 bs' rs' es' ks' z1_=>oA7 z1_ λ z2_ W3 I3 l1 l2 r1 hS=>?_;clear zz_;subst z2_;walk_at "go";exact k _ _ _ _ _ W3 I3 l1 l2 r1 hS
theorem Vv (T:Txt K mg a):Cal P w K mg base "_law_grow" 5 ["_law_belts","_law_knots","_law_ends","_law_loops","_law_cell","_law_span"] [] (zcC a):=T.h_L_grow.cal (zbN T)
abbrev stC (L R E B:Addr) (c sp:Int) (v6 v7 v8 v9 v10 v11:Option V):St:=[some (.ref L),some (.ref R),some (.ref E),some (.ref B),some (.int c),some (.int sp),v6,v7,v8,v9,v10,v11]
def zdW (a:Ad):Sp:=λ vs H Q _=>∃ (ms:List Addr) (L R En B:Addr) (bs:List (Int × Int)) (rs:List Row) (es ks:List Int) (c sp:Int),vs=[.ref L,.ref R,.ref En,.ref B,.int c,.int sp]/\GS a ms H H L R En B bs rs es ks/\WInv bs rs es ks/\1<=sp/\sp<=4/\bs.length + ks.length<=24/\rs.length + es.length + ks.length<=24 /\
 ∀ H' bs' rs' es',GS a ms H H' L R En B bs' rs' es' ks->WInv bs' rs' [] []->bs'.length<=bs.length + ks.length->rs'.length<=rs.length + es.length + ks.length->rs.length<=rs'.length->(HasS rs->HasS rs')->Q .non H'
theorem zce (T:Txt K mg a):Cal P w K mg base "_law_close" 5 ["_law_belts","_law_knots","_law_ends","_law_loops","_law_cell","_law_span"] [] (zdW a):=T.h_L_close.cal λ F=>by
 refine F.okx VU ?_ ?_
 ·walk_at "i"
 walk_at "j";refine oE8 h λ ms L R E B bs rs es z1_=>oE3 z1_ λ ks c sp z2_=>oA8 z2_ λ z3_ W I0 p1 p4 lb lr k=>?_;clear h;subst z3_;walk_at "T";refine ⟨_,(zK (qh qF rfl (qu (za (pq 3) zb)) (jr (n:=2) rfl (zF (zW 6 VU.nd) (zF (zW 7 VU.nd) qN)))  (zg (zp 8 VU.nd (zt ⟨rfl,rfl,rfl⟩ hr (za (zq zL (pq 4) (zq jQ (pq 6) (pq 6))) (za zf zb))))  (zc (zA (zm (jv hr.units1) (pq 2) (zO zb) (zr _))  (zc (zo (qp aj ao am zz (pq 1) (za (zt ⟨rfl,rfl,rfl⟩ hr (za (pq 7) (za (pq 4) (za (pq 8) (za (pq 5) zb))))) zb))))  (zg (zp 9 VU.nd (qp aj c8 c7 QZ (pq 2) (za (zq qt (pq 8) (zP zY zX (za (pq 2) zb))) zb)))  (zg (zo (qp aj ao am zz (pq 2) (za (zt ⟨rfl,rfl,rfl⟩ hr (za (pq 0) (za (qm (pq 8)) (za (pq 5) zb)))) zb)))  (zg (zp 10 VU.nd (zO (za (pq 7) (za (zw (pq 2) (w6 xu zf)) zb))))  (zK (zA (zm (jv hr.units1) (qv (qm (pq 8))) zf (zr _))  (zc (zp 10 VU.nd (zO (za (zw (pq 2) (w6 xu zf)) (za (pq 7) zb)))))  zl)  (zc (zo (qp aj ao am zz (pq 1) (za (zt ⟨rfl,rfl,rfl⟩ hr (za (pq 9) (za (pq 10) (za (zt ⟨rfl,rfl,rfl⟩ hr (za (pq 1) (za (pq 4) (za (qm (pq 8)) zb)))) (za (qv (qm (pq 8))) zb))))) zb))))))))))))  (zc (qh qF rfl (qu (za (pq 2) zb)) (jr (n:=2) rfl (zF (zW 6 VU.nd) (zF (zW 11 VU.nd) qN)))  (zc (zo (qp aj ao am zz (pq 1) (za (zt ⟨rfl,rfl,rfl⟩ hr (za (pq 11) (za (zt ⟨rfl,rfl,rfl⟩ hr (za (zq zL (pq 4) (zq jQ (pq 6) (pq 6))) (za zf zb))) (za (pq 5) zb)))) zb))))))),?_⟩;walk_at "go";let M1_:St->Hp->Prop:=λ σ' H'=>∃ (v6 v7 v8 v9 v10:Option V) (bs1:List (Int × Int)) (rs1:List Row) (es1:List Int),σ'=stC L R E B c sp v6 v7 v8 v9 v10 none/\GS a ms H H' L R E B bs1 rs1 es1 ks/\WInv bs1 rs1 es1 []/\bs1.length<=bs.length + ks.length/\rs1.length + es1.length<=rs.length + es.length + ks.length/\rs.length<=rs1.length/\(HasS rs->HasS rs1);refine cut M1_ ?_ ?_
 ·walk_at "for";walk_at "go";refine iE2 B _ (iA3 rfl W.hB ?_);let M2_:Nat->St->Hp->Prop:=λ i σ H'=>∃ (v6 v7 v8 v9 v10:Option V) (bs1:List (Int × Int)) (rs1:List Row) (es1:List Int),σ=stC L R E B c sp v6 v7 v8 v9 v10 none/\GS a ms H H' L R E B bs1 rs1 es1 ks/\WInv bs1 rs1 es1 (ks.drop i)/\bs1.length<=bs.length + i/\rs1.length + es1.length<=rs.length + es.length + i/\rs.length<=rs1.length/\(HasS rs->HasS rs1);refine Ze (K:=K) (a:=B) (xs:=iv ks) M2_
   ⟨_,_,_,_,_,bs,rs,es,rfl,W,I0,av _,av _,av _,λ z=>z⟩ (λ i σ H' _ h=>by obtain ⟨_,_,_,_,_,_,_,_,_,W,_⟩:=h;exact SqL.of W.hB) ?_ ?_
  ·clear W I0;intro i x t σ H1 hi ht zz_;refine oE8 zz_ λ v6 v7 v8 v9 v10 bs1 rs1 es1 z1_=>oA7 z1_ λ z2_ W1 I1 l1 l2 l3 l4=>?_;clear zz_;subst z2_;obtain ⟨yl,hyl,rfl⟩:=xH hi;have hil:=(aa.mp hyl).1;rw [za2 hyl] at I1;have s2:=ze (o:=.tup [.int i,.int yl]) ht;have W2:=W1.same s2;refine un2 upd_same ?_;generalize upd H1 t (.tup [.int i,.int yl])=H2 at W2 ⊢;clear W1 s2 ht;walk_at "go";refine uc (qU T).mono ⟨mul_okR (by omega) (by omega),iE2 _ _ (iA4 rfl (by decide) (by decide) ?_)⟩;have n0:=jg (c + (i:Int) * i) 1726512289;generalize xN (c + (i:Int) * i) 1726512289=nu at n0 ⊢;walk_at "go";intro q hq;have W3:=W2.same (ze (o:=.lst []) hq);refine zdw W3.hE upd_same ?_;generalize upd H2 q (.lst [])=H3 at W3 ⊢;clear W2 hq;obtain ⟨rv,hR,rR⟩:=W3.hR;have lR:rv.length=rs1.length:=by rw [rR.len,ae]
   walk_at "go";refine zI (λ z=>?_) (λ z=>?_)
   ·walk_at "go";refine ⟨.inl ⟨rfl,_,SqL.of hR⟩,iE3 _ _ _ ⟨(Jm T).mono,⟨yl,c,nu,sp,rfl,n0,p1,p4,λ v H4 pc kd s4 c1 c4 d1 d6 dk q4=>?_⟩⟩⟩;obtain ⟨W4,_⟩:=W3.addR hR s4 (W3.newK q4);refine iE3 R _ _ (iA5 rfl rfl (s4 _ _ hR) (zh (by omega)) ?_);exact iE8 _ _ _ _ _ bs1 _ es1 (iA7 rfl W4 (I1.knot (r:=⟨.source,[],[yl],pc,kd⟩) (aR _) (aR _) (iA7 rfl ⟨_,rfl⟩ c1 c4 d1 d6 dk)) (by omega) (by simp;omega) (by simp;omega) (λ z=>(l4 z).snoc))
   have el:(0:Int) < es1.length:=by
    rcases di es1.length with y|y
    ·exact absurd (bQ.mp y) z
    ·omega
   walk_at "go";refine iA3 (.inl ⟨rfl,_,SqL.of W3.hE⟩) m_len ⟨_,⟨.inl ⟨_,SqL.of W3.hE,rfl⟩,?_⟩⟩;rw [zn];refine ⟨el,?_⟩;have v0:=aG nu (show (es1.length:Int)≠0 by omega);have v1:=aB nu el;generalize nu % (es1.length:Int)=jj at v0 v1 ⊢;obtain ⟨y,hy⟩:∃ y,es1[jj.toNat]?=some y:=⟨es1[jj.toNat]'(by omega),ad _⟩;refine iE5 E (iv es1) jj jj.toNat (.int y) (iA8 rfl rfl W3.hE (by omega) (by omega) (QO v0 (by rw [zn];exact v1)) (jf hy) ?_);rw [Q8];have W4:=W3.setE (es1.eraseIdx jj.toNat);have pp:=vV hy;have pl:=pp.length_eq;rw [bH] at pl;have I2:=I1.perm pp (aR _);generalize upd H3 E (.lst (iv (es1.eraseIdx jj.toNat)))=H4 at W4 ⊢;generalize es1.eraseIdx jj.toNat=es2 at pp pl W4 I2 ⊢;clear W3 I1 pp rR hR lR;obtain ⟨bv,hL,rL⟩:=W4.hL;have lL:bv.length=bs1.length:=by rw [rL.len,ae]
   walk_at "go";refine ⟨.inl ⟨rfl,_,SqL.of W4.hE⟩,iE3 _ _ _ ⟨(wP T).mono,?_⟩⟩;refine iE4 L bv _ sp (iA7 rfl (bI n0 (by decide)) p1 p4 hL (by omega) (λ rm pc z H5 bk s5 q5=>?_));obtain ⟨W5,_⟩:=W4.addL hL s5 q5;rw [lL];generalize upd H5 L (.lst (bv ++ [.ref z]))=H6 at W5 ⊢;have I5:=I2.belt (b:=(rm,pc)) bk;refine iE3 E _ _ (iA5 rfl rfl W5.hE (zh (by rw [zn];omega)) ?_);rw [z8];have W6:=W5.setE (es2 ++ [(bs1.length:Int)]);generalize upd H6 E (.lst (iv (es2 ++ [(bs1.length:Int)])))=H7 at W6 ⊢;clear W5 W4 hL rL lL;walk_at "go";refine zu (SqL.of W6.hE) Zl λ O hO=>?_;have W7:=W6.same (ze (o:=.lst [V.int yl,.int (bs1.length:Int)]) hO);have hO7:upd H7 O (.lst [V.int yl,.int (bs1.length:Int)]) O=some (.lst (iv [yl,(bs1.length:Int)])):=upd_same;generalize upd H7 O (.lst [V.int yl,.int (bs1.length:Int)])=H8 at W7 hO7 ⊢;clear W6 hO;walk_at "go";let M3_:St->Hp->Prop:=λ σ' H'=>∃ (O:Addr) (outs:List Int),σ'=stC L R E B c sp (some (.int i)) (some (.int yl)) (some (.int nu)) (some (.int y)) (some (.ref O)) none/\GS a ms H H' L R E B (bs1 ++ [(rm,pc)]) rs1 (es2 ++ [(bs1.length:Int)]) ks/\H' O=some (.lst (iv outs))/\outs.Perm [yl,(bs1.length:Int)];refine cut M3_ ?_ ?_
   ·walk_at "go";walk_at "sds";walk_at "go";refine zI (λ b=>?_) (λ b=>(iE2 O _ (iA4 rfl W7 hO7 (aR _))));walk_at "go";refine zu (SqL.of W7.hE) Zl λ O2 hO2=>?_;walk_at "go";exact iE2 O2 ([(bs1.length:Int),yl]) (iA4 rfl (W7.same (ze hO2)) upd_same (List.Perm.swap _ _ _))
   clear W7 hO7;intro σ' H9 zz_;refine oE2 zz_ λ O outs z1_=>oA4 z1_ λ z2_ W8 hO8 po=>?_;clear zz_;subst z2_;have lo:outs.length=2:=po.length_eq;obtain ⟨rv,hR,rR⟩:=W8.hR;have lR:rv.length=rs1.length:=by rw [rR.len,ae]
   walk_at "go";refine ⟨.inl ⟨rfl,_,SqL.of hR⟩,iE3 _ _ _ ⟨(Jn T).mono,iE3 _ _ _ ⟨(Vu T).mono,?_⟩⟩⟩;refine iE6 R rv rs1 c _ _ (iA7 rfl hR rR I5.ro (by omega) (bI n0 (by decide)) (λ H10 kk s10 k0 k1=>?_));refine iE5 y kk (nu / 48 % 3) O outs (iA8 rfl (s10 _ _ hO8) (by omega) (by omega) (λ z=>lo) k0 k1 (λ v H11 s11 q11=>?_));have s9:=s10.trans s11;have q11:KnP a H11 (New H9) v (JX y kk (nu / 48 % 3) outs):=q11.keep λ b o hb ho=>⟨zT s10 hb,ho⟩;obtain ⟨W11,_⟩:=W8.addR hR s9 (W8.newK q11);refine iE3 R _ _ (iA5 rfl rfl (s9 _ _ hR) (zh (by omega)) ?_);refine iE8 _ _ _ _ _ _ _ (es2 ++ [(bs1.length:Int)]) (iA7 rfl W11 (I5.knot (ks':=ks.drop (i + 1)) (aR _) ?_ (WN (by omega) (by omega) (λ _=>lo) k0 k1)) (by simp;omega) (by simp;omega) (by simp;omega) (λ z=>(l4 z).snoc));refine (cq _ po).trans ?_;exact List.Perm.cons _ cD
  ·intro σ H1 zz_;refine oE8 zz_ λ v6 v7 v8 v9 v10 bs1 rs1 es1 z1_=>oA7 z1_ λ z2_ W1 I1 l1 l2 l3 l4=>?_;clear zz_;subst z2_;rw [zn] at I1 l1 l2;rw [List.drop_length] at I1;exact iE8 _ _ _ _ _ bs1 rs1 es1 (iA7 rfl W1 I1 l1 l2 l3 l4)
 clear W I0;intro σ' H1 zz_;refine oE8 zz_ λ v6 v7 v8 v9 v10 bs1 rs1 es1 z1_=>oA7 z1_ λ z2_ W1 I1 l1 l2 l3 l4=>?_;clear zz_;subst z2_;walk_at "for";walk_at "go";refine iE2 E _ (iA3 rfl W1.hE ?_);let M4_:Nat->St->Hp->Prop:=λ i σ H'=>∃ (v6 v11:Option V) (rs2:List Row),σ=stC L R E B c sp v6 v7 v8 v9 v10 v11/\GS a ms H H' L R E B bs1 rs2 es1 ks/\WInv bs1 rs2 (es1.drop i) []/\rs2.length + (es1.length - i)<=rs1.length + es1.length/\rs1.length<=rs2.length/\(HasS rs1->HasS rs2);refine Ze (K:=K) (a:=E) (xs:=iv es1) M4_
  ⟨_,_,rs1,rfl,W1,I1,by omega,av _,λ z=>z⟩ (λ i σ H' _ h=>by obtain ⟨_,_,_,_,W,_⟩:=h;exact SqL.of W.hE) ?_ ?_
 ·clear W1 I1;intro i x t σ H2 hi ht zz_;refine oE3 zz_ λ v6 v11 rs2 z1_=>oA6 z1_ λ z2_ W2 I2 m1 m2 m3=>?_;clear zz_;subst z2_;obtain ⟨y,hy,rfl⟩:=xH hi;have hil:=(aa.mp hy).1;rw [za2 hy] at I2;have s3:=ze (o:=.tup [.int i,.int y]) ht;have W3:=W2.same s3;refine un2 upd_same ?_;generalize upd H2 t (.tup [.int i,.int y])=H3 at W3 ⊢;clear W2 s3 ht;obtain ⟨rv,hR,rR⟩:=W3.hR;have lR:rv.length=rs2.length:=by rw [rR.len,ae]
  walk_at "go";refine ⟨.inl ⟨rfl,_,SqL.of hR⟩,iE3 _ _ _ ⟨(Xf T).mono,iE3 _ _ _ (iA3 ((qU T).mono) (mul_okR (by omega) (by omega)) ⟨_,_,rfl,by decide,by decide,?_⟩)⟩⟩;refine iE3 y _ sp (iA5 rfl (jg _ _) p1 p4 (λ v H4 pc s4 c0 c4 q4=>?_));obtain ⟨W4,_⟩:=W3.addR hR s4 (W3.newK q4);refine iE3 R _ _ (iA5 rfl rfl (s4 _ _ hR) (zh (by omega)) ?_);exact iE3 _ _ _ (iA6 rfl W4 (I2.knot (r:=⟨.drain,[y],[],pc,[]⟩) (aR _) (aR _) (iA4 ⟨_,rfl⟩ rfl c0 c4)) (by simp;omega) (by simp;omega) (λ z=>(m3 z).snoc))
 ·intro σ H2 zz_;refine oE3 zz_ λ v6 v11 rs2 z1_=>oA6 z1_ λ z2_ W2 I2 m1 m2 m3=>?_;clear zz_;subst z2_;rw [zn] at I2 m1;rw [List.drop_length] at I2;walk_at "go";exact k _ _ _ _ W2 I2 l1 (by omega) (by omega) λ z=>m3 (l4 z)
abbrev stK (l:Addr) (c nu:Int) (v4 v9 v10 v11 v12 v13 v14:Option V):St:=[some (.ref l),some (.int c),some (.int nu),some (.int (1 + nu % 4)),v4,v9,v10,v11,v12,v13,v14]
def Wj (K:PySem.W.Frag) (a:Ad):Sp:=λ vs H Q _=>∃ (l:Addr) (ns:List Int),vs=[.ref l]/\SqL K H l (iv ns)/\∀ v H' bs rs,Same H H'->Rep H' (Off []) v (qk a bs rs)->qg bs rs->(∀ b∈bs,zy b.1 b.2)->(∀ r∈rs,r.ok)->HasS rs->Q v H'
theorem zan {K:PySem.W.Frag} {a:Ad} {vs:List V} {H:Hp} {Q:VK} {E:XK} (l:Addr) (ns:List Int) (q0:vs=[.ref l]) (q1:SqL K H l (iv ns)) (q2:∀ v H' bs rs,Same H H'->Rep H' (Off []) v (qk a bs rs)->qg bs rs->(∀ b∈bs,zy b.1 b.2)->(∀ r∈rs,r.ok)->HasS rs->Q v H'):Wj K a vs H Q E:=⟨l,ns,q0,q1,q2⟩
theorem zdF (T:Txt K mg a):Cal P w K mg base "_law_work" 7 ["_law_script"] [] (Wj K a):=T.h_L_work.cal λ F=>by
 refine F.okx zbs ?_ ?_
 ·walk_at "i"
 walk_at "j";refine oE2 h λ l ns z1_=>oA3 z1_ λ z2_ hl k=>?_;clear h;subst z2_;walk_at "T";refine ⟨_,(zg (zp 1 zbs.nd (zt ⟨rfl,rfl,rfl⟩ hr (za (pq 0) (za zf zb))))  (zg (zp 2 zbs.nd (zt ⟨rfl,rfl,rfl⟩ hr (za (pq 1) (za zf zb))))  (zg (zp 3 zbs.nd (zq zL zf (qv (pq 2))))  (zg (zp 4 zbs.nd (zq zL zf (qv (qm (pq 2)))))  (zK (zA (zm (jv hr.units1) (qv (qm (pq 2))) zf (zr _))  (zc (zp 4 zbs.nd (zq zL (pq 4) zf)))  zl)  (zg (zp 5 zbs.nd (zO zb))  (zg (zp 6 zbs.nd (zO zb))  (zg (zp 7 zbs.nd (zO zb))  (zg (zp 8 zbs.nd (zO zb))  (zK (qh qF rfl (z9 (xE Zn (pq 0) (x8 zf) (x8 (zq zL zf (pq 4))))) (zW 9 zbs.nd)  (zc (zo (zt ⟨rfl,rfl,rfl⟩ hr (za (pq 5) (za (pq 6) (za (pq 7) (za (pq 8) (za (pq 9) (za (pq 3) zb))))))))))  (zK (zA (zm (zfm hr.units1) (pq 6) (zO zb) (zr _))  (zc (zo (zt ⟨rfl,rfl,rfl⟩ hr (za (pq 5) (za (pq 6) (za (pq 7) (za (pq 8) (za (pq 1) (za (pq 3) zb)))))))))  zl)  (zg (zo (zt ⟨rfl,rfl,rfl⟩ hr (za (pq 5) (za (pq 6) (za (pq 7) (za (pq 8) (za (pq 1) (za (pq 3) zb))))))))  (zg (zp 10 zbs.nd (zq qt (qm (pq 2)) (zP zY zX (za (pq 6) zb))))  (zg (zp 6 zbs.nd (zq zL (xE Zn (pq 6) (x8 (pq 10)) vW) (xE Zn (pq 6) vW (x8 (pq 10)))))  (zK (zA (zm (jv hr.units1) (qv (qm (pq 2))) zf (zr _))  (zc (zp 6 zbs.nd (zeb rfl (za (pq 6) zb))))  zl)  (zc (zk (ju (x:="Work") ⟨rfl,rfl,rfl⟩ hr (za (pq 5) (za (pq 6) zb)))))))))))))))))))),?_⟩;walk_at "go";refine uc (zdJ T).mono (iE3 l ns 0 (iA3 rfl hl ?_));generalize Xa ns 0=c;walk_at "go";refine uc (qU T).mono (iE2 c _ (iA4 rfl (by decide) (by decide) ?_));have n0:=jg c 1873046521;generalize xN c 1873046521=nu at n0 ⊢;have s0:=aG nu (show (4:Int)≠0 by decide);have s1:=aB nu (show (0:Int) < 4 by decide);have m0:=aG (nu / 4) (show (4:Int)≠0 by decide);have m1:=aB (nu / 4) (show (0:Int) < 4 by decide);walk_at "go";walk_at "sds";walk_at "go";let M1_:St->Hp->Prop:=λ σ' H'=>∃ m:Nat,σ'=stK l c nu (some (.int m)) none none none none none none/\H'=H/\m<=6;refine cut M1_ ?_ ?_
 ·walk_at "go";walk_at "sds";walk_at "go";refine zI (λ _=>?_) (λ _=>?_)
  ·walk_at "go";refine ⟨(1 + nu / 4 % 4 + 2).toNat,iA3 ?_ rfl (by omega)⟩;rw [show (((1 + nu / 4 % 4 + 2).toNat:Nat):Int)=1 + nu / 4 % 4 + 2 by omega]
  ·refine ⟨(1 + nu / 4 % 4).toNat,iA3 ?_ rfl (by omega)⟩;rw [show (((1 + nu / 4 % 4).toNat:Nat):Int)=1 + nu / 4 % 4 by omega]
 intro σ' H' zz_;refine oE1 zz_ λ mn z1_=>oA3 z1_ λ z2_ z3_ m6=>?_;clear zz_;subst z2_ z3_;clear m0 m1;walk_at "go";intro L hL;walk_at "go";intro R hR;walk_at "go";intro E hE;walk_at "go";intro B hB;have sH:=(((ze (o:=.lst []) hL).trans (ze (o:=.lst []) hR)).trans (ze (o:=.lst []) hE)).trans (ze (o:=.lst []) hB);have nw:∀ m∈ms4 L R E B,H' m=none:=λ m hm=>by
  simp only [ay,be,bR] at hm;rcases hm with rfl|rfl|rfl|rfl
  ·exact hL
  ·exact zJ hR
  ·exact zJ (zJ hE)
  ·exact zJ (zJ (zJ hB))
 have e1:=upd_keep (o:=.lst []) (upd_keep (o:=.lst []) (upd_keep (o:=.lst []) (upd_same (H:=H') (a:=L) (o:=.lst [])) hR) hE) hB;have e2:=upd_keep (o:=.lst []) (upd_keep (o:=.lst []) (upd_same (H:=upd H' L (.lst [])) (a:=R) (o:=.lst [])) hE) hB;have e3:=upd_keep (o:=.lst []) (upd_same (H:=upd (upd H' L (.lst [])) R (.lst [])) (a:=E) (o:=.lst [])) hB;have e4:upd (upd (upd (upd H' L (.lst [])) R (.lst [])) E (.lst [])) B (.lst []) B=some (.lst []):=upd_same;have W0:GS a (ms4 L R E B) (upd (upd (upd (upd H' L (.lst [])) R (.lst [])) E (.lst [])) B (.lst [])) (upd (upd (upd (upd H' L (.lst [])) R (.lst [])) E (.lst [])) B (.lst [])) L R E B [] [] [] [] :=
  ⟨Fr.refl,ne_of_none upd_same hR,ne_of_none (upd_keep upd_same hR) hE,ne_of_none (upd_keep (upd_keep upd_same hR) hE) hB,ne_of_none upd_same hE,ne_of_none (upd_keep upd_same hE) hB,ne_of_none upd_same hB,λ _ h=>h,λ m hm=>by
   simp only [ay,be,bR] at hm;rcases hm with rfl|rfl|rfl|rfl
   ·exact ⟨_,e1⟩
   ·exact ⟨_,e2⟩
   ·exact ⟨_,e3⟩
   ·exact ⟨_,e4⟩,⟨[],e1,.nil⟩,⟨[],e2,.nil⟩,e3,e4⟩
 generalize upd (upd (upd (upd H' L (.lst [])) R (.lst [])) E (.lst [])) B (.lst [])=H1 at sH W0 ⊢;clear e1 e2 e3 e4 hL hR hE hB;walk_at "go";let M2_:St->Hp->Prop:=λ σ' H2=>∃ (v13:Option V) (bs:List (Int × Int)) (rs:List Row) (es ks:List Int),σ'=stK l c nu (some (.int mn)) (some (.ref L)) (some (.ref R)) (some (.ref E)) (some (.ref B)) v13 none/\GS a (ms4 L R E B) H1 H2 L R E B bs rs es ks/\WInv bs rs es ks/\(rs.length=0->bs.length + ks.length=0/\es=[])/\(rs.length=0\/HasS rs)/\bs.length + ks.length<=21/\rs.length + es.length + ks.length<=22;refine cut M2_ ?_ ?_
 ·walk_at "for";walk_at "go";refine ZC (qB sH hl) λ p hp=>?_;obtain ⟨cs,ecs,lcs⟩:=zfI ns mn;rw [ecs];have W1:=W0.same (ze (o:=.lst (iv cs)) hp);have np:=W0.off hp;have gp:upd H1 p (.lst (iv cs)) p=some (.lst (iv cs)):=upd_same;generalize upd H1 p (.lst (iv cs))=H2 at W1 gp ⊢;refine ⟨p,rfl,.inl ⟨⟨_,SqL.of gp⟩,?_⟩⟩;let M3_:Nat->St->Hp->Prop:=λ i σ' H2=>∃ (v13:Option V) (bs:List (Int × Int)) (rs:List Row) (es ks:List Int),σ'=stK l c nu (some (.int mn)) (some (.ref L)) (some (.ref R)) (some (.ref E)) (some (.ref B)) v13 none/\GS a (ms4 L R E B) H1 H2 L R E B bs rs es ks/\H2 p=some (.lst (iv cs))/\WInv bs rs es ks/\(i=0->bs.length + ks.length=0/\rs.length=0/\es=[])/\(1<=i->bs.length + ks.length + 3<=4 * i/\rs.length + es.length + ks.length + 2<=4 * i/\1<=rs.length)/\(i=0\/HasS rs);refine qG (K:=K) (a:=p) (xs:=iv cs) M3_
   ⟨_,[],[],[],[],rfl,W1,gp,⟨aR _,aR _,(λ _ z=>nomatch z),(λ _ z=>nomatch z)⟩,λ _=>⟨rfl,rfl,rfl⟩,(λ z=>absurd z (by decide)),.inl rfl⟩ (λ i σ H' _ h=>by obtain ⟨_,_,_,_,_,_,_,g,_⟩:=h;exact SqL.of g) ?_ ?_
  ·clear W1 gp;intro i x σ' H3 hi zz_;refine oE5 zz_ λ v13 bs rs es ks z1_=>oA7 z1_ λ z2_ W gp I0 i0 i1 i2=>?_;clear zz_;subst z2_;obtain ⟨y,hy,rfl⟩:=xH hi;have hil:=(aa.mp hy).1;have z:i=0\/1<=i:=by omega
   have bb:bs.length<=21/\rs.length<=22/\es.length<=22/\ks.length<=22:=by
    rcases z with z|z
    ·obtain ⟨q1,q2,rfl⟩:=i0 z;exact iA4 (by omega) (by omega) (by simp) (by omega)
    ·have:=i1 z;omega
   walk_at "go";refine uc (Vv T).mono (iE8 _ L R E B bs rs es (iE3 ks y _ (iA6 rfl W.here I0 (by omega) (by omega) (iA5 (by omega) (by omega) (by omega) (by omega) (λ H4 bs2 rs2 es2 ks2 W2 I2 l1 l2 l3 r1 hS=>?_)))));walk_at "go";refine iE5 _ bs2 rs2 es2 ks2 (iA7 rfl (W.trans W2) (W2.f _ _ np gp) I2 (λ z=>nomatch z) (λ _=>?_) (.inr (hS (i2.imp (λ z=>(i0 z).2.2) λ z=>z))));rcases z with z|z
   ·obtain ⟨q1,q2,q3⟩:=i0 z;obtain ⟨n1,n2⟩:=l3 q3;subst q3;simp only [cP] at n2;omega
   ·have:=i1 z;omega
  ·intro σ' H3 zz_;refine oE5 zz_ λ v13 bs rs es ks z1_=>oA7 z1_ λ z2_ W gp I0 i0 i1 i2=>?_;clear zz_;subst z2_;rw [zn] at i0 i1 i2;have z:cs.length=0\/1<=cs.length:=by omega
   refine iE5 v13 bs rs es ks (iA7 rfl W I0 (λ r0=>?_) ?_ ?_ ?_)
   ·rcases z with z|z
    ·exact ⟨(i0 z).1,(i0 z).2.2⟩
    ·have:=i1 z;omega
   ·rcases i2 with z|z
    ·exact .inl (i0 z).2.1
    ·exact .inr z
   ·rcases z with z|z
    ·have:=i0 z;omega
    ·have:=i1 z;omega
   ·rcases z with z|z
    ·obtain ⟨q1,q2,rfl⟩:=i0 z;simp only [cP];omega
    ·have:=i1 z;omega
 clear W0;intro σ' H2 zz_;refine oE5 zz_ λ v13 bs rs es ks z1_=>oA7 z1_ λ z2_ W I0 r0 rS l1 l2=>?_;clear zz_;subst z2_;walk_at "go";let M4_:St->Hp->Prop:=λ σ' H2=>∃ (bs:List (Int × Int)) (rs:List Row) (es ks:List Int),σ'=stK l c nu (some (.int mn)) (some (.ref L)) (some (.ref R)) (some (.ref E)) (some (.ref B)) v13 none/\GS a (ms4 L R E B) H1 H2 L R E B bs rs es ks/\WInv bs rs es ks/\1<=rs.length/\HasS rs/\bs.length + ks.length<=24/\rs.length + es.length + ks.length<=24;refine cut M4_ ?_ ?_
 ·walk_at "go";intro q hq;have W1:=W.same (ze (o:=.lst []) hq);obtain ⟨rv,hR,rR⟩:=W1.hR;have lR:rv.length=rs.length:=by rw [rR.len,ae]
  refine iE3 R q rv (iA5 rfl rfl (SqL.of hR) (SqL.of upd_same) ?_);rw [lR];generalize upd H2 q (.lst [])=H3 at W1 hR rR ⊢;walk_at "go";refine zI (λ z=>?_) (λ z=>(iE4 bs rs es ks (iA7 rfl W1 I0 (by omega) (rS.resolve_left (by omega)) (by omega) (by omega))));obtain ⟨q1,rfl⟩:=r0 z;simp only [cP] at l2;walk_at "go";refine uc (Vv T).mono (iE8 _ L R E B bs rs ([]) (iE3 ks c _ (iA6 rfl W1.here I0 (by omega) (by omega) (iA5 (by omega) (by omega) (by simp) (by omega) (λ H4 bs2 rs2 es2 ks2 W2 I2 _ _ l3 r1 hS=>?_)))));obtain ⟨n1,n2⟩:=l3 rfl;simp only [cP] at n2;exact iE4 bs2 rs2 es2 ks2 (iA7 rfl (W1.trans W2) I2 r1 (hS (.inl rfl)) (by omega) (by omega))
 clear W I0 r0 rS l1 l2;intro σ' H2 zz_;refine oE4 zz_ λ bs rs es ks z1_=>oA7 z1_ λ z2_ W I0 r1 hS l1 l2=>?_;clear zz_;subst z2_;walk_at "go";refine uc (zce T).mono (iE8 _ L R E B bs rs es (iE3 ks c _ (iA8 rfl W.here I0 (by omega) (by omega) l1 l2 (λ H3 bs' rs' es' W2 I2 lb lr rr hS'=>?_))));have W3:=W.trans W2;have sK:Same H' H3:=(sH.fr.trans W3.f).same nw;obtain ⟨bv,hL,rL⟩:=W3.hL;obtain ⟨rv,hR,rR⟩:=W3.hR;have lR:rv.length=rs'.length:=by rw [rR.len,ae]
 clear W W2 I0;walk_at "go";refine ⟨_,.inl ⟨_,SqL.of hR,rfl⟩,?_⟩;rw [lR];refine ⟨by omega,?_⟩;have w0:=aG (nu / 64) (show (rs'.length:Int)≠0 by omega);have w1:=aB (nu / 64) (show (0:Int) < (rs'.length:Int) by omega);obtain ⟨ct,ect⟩:∃ m:Nat,nu / 64 % (rs'.length:Int)=m:=⟨(nu / 64 % (rs'.length:Int)).toNat,by omega⟩;rw [ect] at w1 ⊢;clear w0 ect;walk_at "go";refine ZC (SqL.of hR) λ q1 hq1=>?_;rw [Vk rv ct (by omega)];have a1:=ze (o:=.lst (rv.drop ct)) hq1;refine ZC (SqL.of (a1 _ _ hR)) λ q2 hq2=>?_;rw [Jf rv ct];have a2:=ze (o:=.lst (rv.take ct)) hq2;refine XE (SqL.of (a2 _ _ upd_same)) (SqL.of upd_same) (Xq (by rw [cU,aI];omega)) λ q3 hq3=>?_;have a3:=ze (o:=.lst (rv.drop ct ++ rv.take ct)) hq3;have sA:=(a1.trans a2).trans a3;have g3:upd (upd (upd H3 q1 (.lst (rv.drop ct))) q2 (.lst (rv.take ct))) q3 (.lst (rv.drop ct ++ rv.take ct)) q3=some (.lst (rv.drop ct ++ rv.take ct)):=upd_same;generalize upd (upd (upd H3 q1 (.lst (rv.drop ct))) q2 (.lst (rv.take ct))) q3 _=H4 at sA g3 ⊢;clear a1 a2 a3 hq1 hq2 hq3;have tr:∀ {H1 H2:Hp} {p:Addr->Prop} {vs:List V} {ds:List D},Reps H1 p vs ds->Same H1 H2->Reps H2 (λ _=>True) vs ds:=λ r s=>r.keep λ b o _ hb=>⟨trivial,s b o hb⟩;have b2:=tr ((rR.drop ct).append (rR.take ct)) sA;rw [<- List.map_drop,<- List.map_take,<- aV] at b2;have pm:=vT rs' ct;generalize rs'.drop ct ++ rs'.take ct=rs3 at b2 pm;generalize rv.drop ct ++ rv.take ct=rv3 at b2 g3;have rL4:=tr rL sA;have hL4:=sA _ _ hL;have sK4:=sK.trans sA;clear sA hL rL hR rR lR;walk_at "go";let M5_:St->Hp->Prop:=λ σ' H5=>∃ (R':Addr) (rv':List V) (rs2:List Row),σ'=stK l c nu (some (.int mn)) (some (.ref L)) (some (.ref R')) (some (.ref E)) (some (.ref B)) v13 (some (.int ct))/\Same H4 H5/\H5 R'=some (.lst rv')/\Reps H5 (λ _=>True) rv' (rs2.map (wo a))/\rs2.Perm rs';refine cut M5_ ?_ ?_
 ·walk_at "go";walk_at "sds";walk_at "go";refine zI (λ z=>?_) (λ z=>(iE3 q3 rv3 rs3 (iA5 rfl (Same.refl _) g3 b2 pm)));walk_at "go";refine iE2 q3 _ (iA3 rfl (SqL.of g3) (λ q hq=>?_));have b3:=tr b2.reverse (ze (o:=.lst rv3.reverse) hq);rw [<- List.map_reverse] at b3;walk_at "go";exact iE3 q _ _ (iA5 rfl (ze hq) upd_same b3 ((List.reverse_perm _).trans pm))
 intro σ' H5 zz_;refine oE3 zz_ λ R' rv' rs2 z1_=>oA5 z1_ λ z2_ s5 hR5 rR5 pm2=>?_;clear zz_;subst z2_;obtain ⟨wok,ro⟩:=I2.work pm2 (by omega) (by omega) (by omega);walk_at "go";refine iE4 a.Work _ _ _ ⟨(zfz T).mono,?_⟩;intro z dz hz hdz _;exact zei hz hdz (s5 _ _ hL4) hR5 (tr rL4 s5) rR5 wok I2.bo ro λ H11 s11 r11=>⟨rfl,k _ _ _ _ ((sK4.trans s5).trans s11) r11 wok I2.bo ro ((hS' hS).perm pm2)⟩
def Told (H:Hp) (v:V) (r:Option (List V)):Prop:=match r with
 | none=>v=.non
 | some xs=>∃ p,v=.ref p/\H p=some (.tup xs)
theorem Told.same {H H':Hp} {v:V} {r:Option (List V)} (h:Told H v r) (s:Same H H'):Told H' v r:=by
 cases r with
 | none=>exact h
 | some xs=>exact let ⟨p,e,hp⟩:=h;⟨p,e,s _ _ hp⟩
theorem QA:∀ {xs:List V},xs.all jT=true->jS xs xs=true
 | [],_=>rfl
 | x :: xs,h=>by
  rw [List.all_cons,cy] at h;show (eqV x x && jS xs xs)=true
  rw [QA h.2,dX];cases x <;> first|rfl|(simp [eqV];done)|(have:=h.1;cases this)
def Xp (side:V) (p:Int) (t:Int) (b:Bool):Option (List V):=if b=true/\t % p=0 then some [.non,.int 0,side] else none
def Qv (K:PySem.W.Frag) (C:Addr):Sp:=λ vs H Q _=>∃ (y dx l1 l2 l3 fl:Addr) (p t:Int) (hs side:V) (b:Bool) (bs:List V),vs=[.ref y,hs,.ref fl,.int t,side]/\H y=some (.ins C dx (sf l1 l2 p l3))/\1<=p /\
 SqL K H fl (.bl b :: bs)/\∀ v H',Same H H'->Told H' v (Xp side p t b)->Q v H'
theorem Qa (T:Txt K mg a):MCal P w K mg base a.Source "choice" 1 ["self","heads","free","turn","side"] [] (Qv K a.Source):=T.h_Source_choice.cal T.C_Source λ F=>by
 refine F.okx Zq ?_ ?_
 ·walk_at "i"
 walk_at "k";refine oE8 h λ y dx l1 l2 l3 fl p t z1_=>oE4 z1_ λ hs side b bs z2_=>oA5 z2_ λ z3_ hy p1 hf k=>?_;clear h;subst z3_;unfold Xp at k;walk_at "T";refine ⟨_,(zi (zA (PW.pt (pw_or (jP (qf (zw (pq 2) zf) (λ _=>rfl))) (pw_or1 (zm (xF hr.units1) (zq qt (pq 3) (zj (pq 0) rfl)) zf (zr _)))))  (zc (zk zD))  zl)  (zc (zk (jx (za zD (za zf (za (pq 4) zb))))))),?_⟩;walk_at "go";refine zu hf at0 ?_;walk_at "go";cases b with
 | false =>
  rw [aw (by simp)] at k;walk_at "go";exact k _ _ (Same.refl _) rfl
 | true =>
  walk_at "go";refine ra hy T.C_Source T.N_Source_pace zdY ?_;walk_at "go";refine zI (λ h=>?_) (λ h=>?_)
  ·rw [aw (λ z=>h z.2)] at k;walk_at "go";exact k _ _ (Same.refl _) rfl
  ·rw [aA ⟨rfl,eH h⟩] at k;walk_at "go";intro q hq;exact k _ _ (ze hq) ⟨q,rfl,upd_same⟩
def zau (side:V) (p:Int) (t:Int) (hd:V):Option (List V):=if p=0\/hd=.non\/t % p≠0 then none else some [.int 0,.non,side]
def Js (K:PySem.W.Frag) (C:Addr):Sp:=λ vs H Q _=>∃ (y dx l1 l2 hl:Addr) (p t:Int) (fr side:V) (hd:V) (hs:List V),vs=[.ref y,.ref hl,fr,.int t,side]/\H y=some (.ins C dx (df l1 l2 p))/\0<=p/\p<=4 /\
 SqL K H hl (hd :: hs)/\∀ v H',Same H H'->Told H' v (zau side p t hd)->Q v H'
theorem Q5 (T:Txt K mg a):MCal P w K mg base a.Drain "choice" 1 ["self","heads","free","turn","side"] [] (Js K a.Drain):=T.h_Drain_choice.cal T.C_Drain λ F=>by
 refine F.okx Z8 ?_ ?_
 ·walk_at "i"
 walk_at "k";refine oE8 h λ y dx l1 l2 hl p t fr z1_=>oE3 z1_ λ side hd hs z2_=>oA6 z2_ λ z3_ hy p0 p4 hh k=>?_;clear h;subst z3_;unfold zau at k;walk_at "T";refine ⟨_,(zi (zA (zm (jv hr.units1) (zj (pq 0) rfl) zf (zr _))  (zc (zk zD))  zl)  (zi (zA (PW.pt (pw_or (zm je (zw (pq 1) zf) zD (zr _)) (pw_or1 (zm (xF hr.units1) (zq qt (pq 3) (zj (pq 0) rfl)) zf (zr _)))))  (zc (zk zD))  zl)  (zc (zk (jx (za zf (za zD (za (pq 4) zb)))))))),?_⟩;walk_at "go";refine ra hy T.C_Drain T.N_Drain_pace X2 ?_;walk_at "go";refine zI (λ h1=>?_) (λ h1=>?_)
 ·rw [aA (.inl h1)] at k;walk_at "go";exact k _ _ (Same.refl _) rfl
 ·walk_at "go";refine zu hh at0 ?_;walk_at "go";refine zI (λ h2=>?_) (λ h2=>?_)
  ·rw [aA (.inr (.inl h2))] at k;walk_at "go";exact k _ _ (Same.refl _) rfl
  ·walk_at "go";refine ra hy T.C_Drain T.N_Drain_pace X2 ?_;walk_at "go";refine And.intro (by omega) ?_;refine zI (λ h3=>?_) (λ h3=>?_)
   ·rw [aA (.inr (.inr h3))] at k;walk_at "go";exact k _ _ (Same.refl _) rfl
   ·rw [aw (λ z=>z.elim h1 λ z=>z.elim h2 h3)] at k;walk_at "go";intro q hq;exact k _ _ (ze hq) ⟨q,rfl,upd_same⟩
def zeK (n:Nat) (p:Option Nat):Option (List V):=p.map λ (p:Nat)=>[.int 0,.int p,.int ((p + 1) % n:Nat)]
def Qw (K:PySem.W.Frag) (C:Addr):Sp:=λ vs H Q _=>∃ (y dx l1 l2 hl fl:Addr) (turn:V) (side:Nat) (hd:V) (hs outs:List V) (bs:List Bool),vs=[.ref y,.ref hl,.ref fl,turn,.int side]/\H y=some (.ins C dx (kf l1 l2))/\H l2=some (.lst outs) /\
 SqL K H hl (hd :: hs)/\SqL K H fl (bs.map V.bl)/\bs.length=outs.length/\bs.length<=1000 /\
 ∀ v H',Same H H'->Told H' v (if hd=.non then none else zeK bs.length (jz bs side))->Q v H'
theorem Qc (T:Txt K mg a):MCal P w K mg base a.Parter "choice" 3 ["self","heads","free","turn","side"] [] (Qw K a.Parter):=T.h_Parter_choice.cal T.C_Parter λ F=>by
 refine F.okx Zs ?_ ?_
 ·walk_at "i"
 walk_at "k";refine oE8 h λ y dx l1 l2 hl fl turn side z1_=>oE4 z1_ λ hd hs outs bs z2_=>oA8 z2_ λ z3_ hy h2 hh hf hbl hb k=>?_;clear h;subst z3_;walk_at "T";refine ⟨_,(zi (zp 5 Zs.nd (zt ⟨rfl,rfl,rfl⟩ hr (za (zw (pq 1) zf) (za (pq 2) (za (pq 4) zb)))))  (zi (zA (zm je (pq 5) zD (zr _))  (zc (zk zD))  zl)  (zc (zk (jx (za zf (za (pq 5) (za (zq qt (zq zL (pq 5) zf) (zP zY zX (za (zj (pq 0) rfl) zb))) zb)))))))),?_⟩;walk_at "go";refine iE3 _ _ _ ⟨xL T,zu hh at0 (iE4 hd fl bs side (iA4 rfl hf hb ?_))⟩;by_cases hn:hd=.non
 ·rw [aA hn] at k ⊢;walk_at "go";exact k _ _ (Same.refl _) rfl
 ·rw [aw hn] at k ⊢;cases hp:jz bs side with
  | none =>
   rw [hp] at k;simp only [wX];walk_at "go";exact k _ _ (Same.refl _) rfl
  | some p =>
   rw [hp] at k;simp only [wX];have hlt:=xK hp;walk_at "go";refine ra hy T.C_Parter T.N_Parter_outs zen ⟨_,.inl ⟨_,SqL.of h2,rfl⟩,?_⟩;walk_at "go";rw [<- hbl];refine And.intro (by omega) ?_;walk_at "go";intro q hq;have e:((p:Int) + 1) % (bs.length:Int)=(((p + 1) % bs.length:Nat):Int):=by push_cast;rfl
   rw [e];exact k _ _ (ze hq) ⟨q,rfl,upd_same⟩
def zdv (side:V) (p:Option Nat):Option (List V):=p.map λ (p:Nat)=>[.int 0,.int p,side]
def Jr (K:PySem.W.Frag):Sp:=λ vs H Q _=>∃ (y hl fl:Addr) (turn side:V) (hd:V) (hs:List V) (bs:List Bool),vs=[.ref y,.ref hl,.ref fl,turn,side] /\
 SqL K H hl (hd :: hs)/\SqL K H fl (bs.map V.bl)/\bs.length<=1000/\∀ v H',Same H H'->Told H' v (if hd=.non then none else zdv side (jz bs 0))->Q v H'
theorem wK (T:Txt K mg a):MCal P w K mg base a.FirstParter "choice" 3 ["self","heads","free","turn","side"] [] (Jr K):=T.h_FirstParter_choice.cal T.C_FirstParter λ F=>by
 refine F.okx wq ?_ ?_
 ·walk_at "i"
 walk_at "k";refine oE8 h λ y hl fl turn side hd hs bs z1_=>oA5 z1_ λ z2_ hh hf hb k=>?_;clear h;subst z2_;walk_at "T";refine ⟨_,(zi (zp 5 wq.nd (zt ⟨rfl,rfl,rfl⟩ hr (za (zw (pq 1) zf) (za (pq 2) (za zf zb)))))  (zi (zA (zm je (pq 5) zD (zr _))  (zc (zk zD))  zl)  (zc (zk (jx (za zf (za (pq 5) (za (pq 4) zb)))))))),?_⟩;walk_at "go";refine iE3 _ _ _ ⟨xL T,zu hh at0 (iE4 hd fl bs 0 (iA4 rfl hf hb ?_))⟩;by_cases hn:hd=.non
 ·rw [aA hn] at k ⊢;walk_at "go";exact k _ _ (Same.refl _) rfl
 ·rw [aw hn] at k ⊢;cases hp:jz bs 0 with
  | none =>
   rw [hp] at k;simp only [wX];walk_at "go";exact k _ _ (Same.refl _) rfl
  | some p =>
   rw [hp] at k;simp only [wX];walk_at "go";intro q hq;exact k _ _ (ze hq) ⟨q,rfl,upd_same⟩
def zdT (C:Addr):Sp:=λ vs H Q _=>∃ (y dx l1 l2:Addr) (n j:Int),vs=[.ref y,.int j]/\H y=some (.ins C dx (vf l1 l2 n))/\Q (.int (if j=n then 0 else 1)) H
theorem JI (T:Txt K mg a):MCal P w K mg base a.Sieve "place_for" 1 ["self","kind"] [] (zdT a.Sieve):=T.h_Sieve_place_for.cal T.C_Sieve λ F=>by
 refine F.okx vt ?_ ?_
 ·walk_at "i"
 walk_at "k";refine oE6 h λ y dx l1 l2 n j z1_=>oA3 z1_ λ z2_ hy k=>?_;clear h;subst z2_;walk_at "T";refine ⟨_,(zc (zk (xg (zm (jv hr.units1) (pq 1) (zj (pq 0) rfl) (zr _)) zf zf))),?_⟩;walk_at "go";refine ra hy T.C_Sieve T.N_Sieve_kind zdR ?_;walk_at "go";refine zI (λ h=>?_) (λ h=>?_)
 ·rw [aA h] at k;walk_at "go";exact k
 ·rw [aw h] at k;walk_at "go";exact k
def VL (side:V) (n:Int) (bs:List Bool) (hd:V):Option (List V):=if hd=.non then none else if bs.getD (if hd=.int n then 0 else 1) false=true then some [.int 0,.int (if hd=.int n then 0 else 1),side] else none
def Jq (K:PySem.W.Frag) (C:Addr):Sp:=λ vs H Q _=>∃ (y dx l1 l2 hl fl:Addr) (n:Int) (turn side:V) (hd:V) (hs:List V) (bs:List Bool),vs=[.ref y,.ref hl,.ref fl,turn,side]/\H y=some (.ins C dx (vf l1 l2 n)) /\
 SqL K H hl (hd :: hs)/\(hd=.non\/∃ j,hd=.int j)/\SqL K H fl (bs.map V.bl)/\bs.length=2/\∀ v H',Same H H'->Told H' v (VL side n bs hd)->Q v H'
theorem Q3 (T:Txt K mg a):MCal P w K mg base a.Sieve "choice" 2 ["self","heads","free","turn","side"] [] (Jq K a.Sieve):=T.h_Sieve_choice.cal T.C_Sieve λ F=>by
 refine F.okx Z5 ?_ ?_
 ·walk_at "i"
 walk_at "k";refine oE8 h λ y dx l1 l2 hl fl n turn z1_=>oE4 z1_ λ side hd hs bs z2_=>oA7 z2_ λ z3_ hy hh hhd hf hb k=>?_;clear h;subst z3_;walk_at "T";refine ⟨_,(zi (zA (zm je (zw (pq 1) zf) zD (zr _))  (zc (zk zD))  zl)  (zi (zp 5 Z5.nd (zcW ⟨rfl,rfl,rfl⟩ hr (pq 0) (za (zw (pq 1) zf) zb)))  (zi (zA (jP (qf (zw (pq 2) (pq 5)) (λ _=>rfl)))  (zc (zk zD))  zl)  (zc (zk (jx (za zf (za (pq 5) (za (pq 4) zb))))))))),?_⟩;walk_at "go";refine zu hh at0 ?_;rcases hhd with rfl|⟨j,rfl⟩
 ·walk_at "go";exact k _ _ (Same.refl _) rfl
 ·walk_at "go";refine iE7 y a.Sieve dx _ _ _ _ (iA5 rfl hy (zfV (by decide +kernel) (by decide +kernel) (by decide +kernel)) (JI T) (zu hh at0 (iE6 y dx l1 l2 n j (iA3 rfl hy ?_))));walk_at "go";obtain ⟨pp,hpp,hp2⟩:∃ pp:Nat,(if j=n then (0:Int) else 1)=pp/\pp < 2:=by split;exact ⟨0,rfl,by decide⟩;exact ⟨1,rfl,by decide⟩
  have e1:(if V.int j=V.int n then (0:Nat) else 1)=pp:=by
   by_cases h:j=n
   ·rw [aA h] at hpp;rw [aA (by rw [h])];omega
   ·rw [aw h] at hpp;rw [aw (λ z=>h (by cases z;rfl))];omega
  have e2:(if V.int j=V.int n then (0:Int) else 1)=pp:=by
   by_cases h:j=n
   ·rw [aA h] at hpp;rw [aA (by rw [h])];omega
   ·rw [aw h] at hpp;rw [aw (λ z=>h (by cases z;rfl))];omega
  rw [hpp];have hlt:pp < bs.length:=by omega
  refine zu hf (zG (by rw [ak,ad hlt];rfl)) ?_;have eg:bs.getD pp false=bs[pp]:=by simp [hlt]
  unfold VL at k;rw [aw (by intro z;cases z),e1,e2,eg] at k;walk_at "go";cases hbb:bs[pp] with
  | true =>
   rw [hbb,aA rfl] at k;walk_at "go";intro q hq;exact k _ _ (ze hq) ⟨q,rfl,upd_same⟩
  | false =>
   rw [hbb,aw (by decide)] at k;walk_at "go";exact k _ _ (Same.refl _) rfl
def zeO (n:Nat) (p:Option Nat):Option (List V):=p.map λ (p:Nat)=>[.int p,.int 0,.int ((p + 1) % n:Nat)]
def there (hs:List V):List Bool:=hs.map λ h=>!decide (h=.non)
def Qy (K:PySem.W.Frag) (C:Addr):Sp:=λ vs H Q _=>∃ (y dx l1 l2 hl fl:Addr) (turn:V) (side:Nat) (hs ins:List V) (b:Bool) (bs:List V),vs=[.ref y,.ref hl,.ref fl,turn,.int side]/\H y=some (.ins C dx (kf l1 l2))/\H l1=some (.lst ins) /\
 SqL K H hl hs/\SqL K H fl (.bl b :: bs)/\hs.length=ins.length/\hs.length<=900/\∀ v H',Same H H'->Told H' v (if b=true then zeO hs.length (jz (there hs) side) else none)->Q v H'
theorem Qe (T:Txt K mg a):MCal P w K mg base a.Joiner "choice" 2 ["self","heads","free","turn","side"] [] (Qy K a.Joiner):=T.h_Joiner_choice.cal T.C_Joiner λ F=>by
 refine F.okx Zu ?_ ?_
 ·walk_at "i"
 walk_at "k";refine oE8 h λ y dx l1 l2 hl fl turn side z1_=>oE4 z1_ λ hs ins b bs z2_=>oA8 z2_ λ z3_ hy h1 hh hf hlen hb k=>?_;clear h;subst z3_;walk_at "T";refine ⟨_,(zi (zA (jP (qf (zw (pq 2) zf) (λ _=>rfl)))  (zc (zk zD))  zl)  (zi (zp 5 Zu.nd (zt ⟨rfl,rfl,rfl⟩ hr (za (jG (vars:=["head"]) (caps:=[]) (N:=["head"]) (ON:=["self","heads","free","turn","side","place"]) (osc:=zd jc) rfl rfl (by first|decide +kernel|kernel_rfl) rfl rfl (z9 (pq 1)) (λ s H fp pins=>(zW 0 (show (["head"]:List Str).Nodup from by decide +kernel))) (λ s H fp pins=>qc) (λ s H fp pins=>(vX op_notN (pq 0) zD (zr _)))) (za (pq 4) zb))))  (zi (zA (zm je (pq 5) zD (zr _))  (zc (zk zD))  zl)  (zc (zk (jx (za (pq 5) (za zf (za (zq qt (zq zL (pq 5) zf) (zP zY zX (za (zj (pq 0) rfl) zb))) zb))))))))),?_⟩;walk_at "go";refine zu hf at0 ?_;walk_at "go";cases b with
 | false =>
  rw [aw (by decide)] at k;walk_at "go";exact k _ _ (Same.refl _) rfl
 | true =>
  rw [aA rfl] at k;walk_at "go";refine iE3 _ _ _ ⟨vm T,?_⟩;walk_at "lc";walk_at "go";refine ⟨hl,rfl,.inl ⟨⟨_,hh⟩,λ _ _ _ _ acc hacc=>?_⟩⟩;refine qG (K:=K) (a:=hl) (xs:=hs) (λ i σ H'=>∃ (v:Option V),σ=[v]/\Same H H'/\H' acc=some (.lst ((there (hs.take i)).map V.bl))) ⟨_,iA3 rfl (ze hacc) upd_same⟩ (λ i σ H' _ ⟨_,_,s,_⟩=>s.seq hh) ?_ ?_
  ·intro i x σ H' hi zz_;refine oE1 zz_ λ v z1_=>oA3 z1_ λ z2_ s ha=>?_;clear zz_;subst z2_;walk_at "go";refine ⟨_,iA3 ha ?_ ⟨_,iA3 rfl ?_ ?_⟩⟩
   ·simp only [there,ae,aI];exact zh (by omega)
   ·intro b o hb;rw [upd_ne (ne_of_none hb hacc)];exact s b o hb
   ·rw [upd_same,eT,hi];simp [there]
  ·intro σ H' zz_;refine oE1 zz_ λ v z1_=>oA3 z1_ λ z2_ s ha=>?_;clear zz_;subst z2_;rw [aK] at ha;refine iE3 acc (there hs) side (iA4 rfl (SqL.of ha) (by simp [there];omega) ?_);have hlt:(there hs).length=hs.length:=by simp [there]
   cases hp:jz (there hs) side with
   | none =>
    rw [hp] at k;simp only [wX];walk_at "go";exact k _ _ s rfl
   | some p =>
    rw [hp] at k;simp only [wX];have hlt':=xK hp;walk_at "go";refine ra (s _ _ hy) T.C_Joiner T.N_Joiner_ins zft ⟨_,.inl ⟨_,SqL.of (s _ _ h1),rfl⟩,?_⟩;walk_at "go";rw [<- hlen];refine And.intro (by omega) ?_;walk_at "go";intro q hq;have e:((p:Int) + 1) % (hs.length:Int)=(((p + 1) % hs.length:Nat):Int):=by push_cast;rfl
    rw [e];exact k _ _ (s.trans (ze hq)) ⟨q,rfl,upd_same⟩
theorem MCal.imp {C:Addr} {m:Str} {k:Nat} {ps:List Str} {dvs:List V} {sp sp':Sp} (c:MCal P w K mg base C m k ps dvs sp) (h:∀ vs H Q E,sp' vs H Q E->sp vs H Q E):MCal P w K mg base C m k ps dvs sp' :=
 let ⟨f,fd,ds,x,y⟩:=c.ex;⟨c.cl,f,fd,ds,x.imp h,y⟩
theorem XZ {fs:List (Str × V)} {k:Str} {ks:List Str} (n:fs.map (·.1)=k :: ks):∃ v gs,fs=(k,v) :: gs/\gs.map (·.1)=ks:=by
 cases fs with
 | nil=>cases n
 | cons x gs =>
  obtain ⟨k',v⟩:=x;injection n with n1 n2
  exact iE2 v gs ⟨by rw [<- n1],n2⟩
theorem zfF {fs:List (Str × V)} (n:fs.map (·.1)=[]):fs=[]:=List.map_eq_nil_iff.mp n
theorem fs2 {H:Hp} {p:Addr->Prop} {fs:List (Str × V)} {k1 k2:Str} {d1 d2:D} (n:fs.map (·.1)=[k1,k2]) (g:∀ (i:Nat) f g,fs[i]?=some f->[(k1,d1),(k2,d2)][i]?=some g->Rep H p f.2 g.2):∃ v1 v2,fs=[(k1,v1),(k2,v2)]/\Rep H p v1 d1/\Rep H p v2 d2:=by
 obtain ⟨v1,f1,rfl,n1⟩:=XZ n;obtain ⟨v2,f2,rfl,n2⟩:=XZ n1;obtain rfl:=zfF n2;exact ⟨v1,v2,rfl,g 0 _ _ rfl rfl,g 1 _ _ rfl rfl⟩
section
variable {H:Hp} {p:Addr->Prop} {y:Addr} {ins outs kinds:List Int} {pace:Int}
theorem KnP.parter (h:KnP a H p (.ref y) ⟨.parter,ins,outs,pace,kinds⟩):∃ dx l1 l2,H y=some (.ins a.Parter dx (kf l1 l2))/\H l2=some (.lst (iv outs)):=by
 cases h with|ob _ hy n g =>
  refine oE2 (fs2 n g) λ v1 v2 z1_=>oA3 z1_ λ z2_ r1 r2=>?_;subst z2_;refine oE1 r1.ints' λ l1 z1_=>oA3 z1_ λ z2_ _ _=>?_;subst z2_;refine oE1 r2.ints' λ l2 z1_=>oA3 z1_ λ z2_ _ h2=>?_;subst z2_;exact iE3 _ l1 l2 ⟨by rw [Q7];exact hy,h2⟩
end
theorem fs3 {H:Hp} {p:Addr->Prop} {fs:List (Str × V)} {k1 k2 k3:Str} {d1 d2 d3:D} (n:fs.map (·.1)=[k1,k2,k3]) (g:∀ (i:Nat) f g,fs[i]?=some f->[(k1,d1),(k2,d2),(k3,d3)][i]?=some g->Rep H p f.2 g.2):∃ v1 v2 v3,fs=[(k1,v1),(k2,v2),(k3,v3)]/\Rep H p v1 d1/\Rep H p v2 d2/\Rep H p v3 d3:=by
 obtain ⟨v1,f1,rfl,n1⟩:=XZ n;obtain ⟨v2,f2,rfl,n2⟩:=XZ n1;obtain ⟨v3,f3,rfl,n3⟩:=XZ n2;obtain rfl:=zfF n3;exact ⟨v1,v2,v3,rfl,g 0 _ _ rfl rfl,g 1 _ _ rfl rfl,g 2 _ _ rfl rfl⟩
theorem fs4 {H:Hp} {p:Addr->Prop} {fs:List (Str × V)} {k1 k2 k3 k4:Str} {d1 d2 d3 d4:D} (n:fs.map (·.1)=[k1,k2,k3,k4]) (g:∀ (i:Nat) f g,fs[i]?=some f->[(k1,d1),(k2,d2),(k3,d3),(k4,d4)][i]?=some g->Rep H p f.2 g.2):∃ v1 v2 v3 v4,fs=[(k1,v1),(k2,v2),(k3,v3),(k4,v4)]/\Rep H p v1 d1/\Rep H p v2 d2/\Rep H p v3 d3/\Rep H p v4 d4:=by
 obtain ⟨v1,f1,rfl,n1⟩:=XZ n;obtain ⟨v2,f2,rfl,n2⟩:=XZ n1;obtain ⟨v3,f3,rfl,n3⟩:=XZ n2;obtain ⟨v4,f4,rfl,n4⟩:=XZ n3;obtain rfl:=zfF n4;exact ⟨v1,v2,v3,v4,rfl,g 0 _ _ rfl rfl,g 1 _ _ rfl rfl,g 2 _ _ rfl rfl,g 3 _ _ rfl rfl⟩
section
variable {H:Hp} {p:Addr->Prop} {y:Addr} {ins outs kinds:List Int} {pace:Int}
theorem KnP.source (h:KnP a H p (.ref y) ⟨.source,ins,outs,pace,kinds⟩):∃ dx l1 l2 l3,H y=some (.ins a.Source dx (sf l1 l2 pace l3)):=by
 cases h with|ob _ hy n g =>
  refine oE4 (fs4 n g) λ v1 v2 v3 v4 z1_=>oA5 z1_ λ z2_ r1 r2 r3 r4=>?_;subst z2_;refine oE1 r1.ints' λ l1 z1_=>oA3 z1_ λ z2_ _ _=>?_;subst z2_;refine oE1 r2.ints' λ l2 z1_=>oA3 z1_ λ z2_ _ _=>?_;subst z2_;cases r3;refine oE1 r4.ints' λ l4 z1_=>oA3 z1_ λ z2_ _ _=>?_;subst z2_;exact iE4 _ l1 l2 l4 (by rw [zeI];exact hy)
theorem KnP.drain (h:KnP a H p (.ref y) ⟨.drain,ins,outs,pace,kinds⟩):∃ dx l1 l2,H y=some (.ins a.Drain dx (df l1 l2 pace)):=by
 cases h with|ob _ hy n g =>
  refine oE3 (fs3 n g) λ v1 v2 v3 z1_=>oA4 z1_ λ z2_ r1 r2 r3=>?_;subst z2_;refine oE1 r1.ints' λ l1 z1_=>oA3 z1_ λ z2_ _ _=>?_;subst z2_;refine oE1 r2.ints' λ l2 z1_=>oA3 z1_ λ z2_ _ _=>?_;subst z2_;cases r3;exact iE3 _ l1 l2 (by rw [zdy];exact hy)
theorem KnP.sieve {k:Int} (h:KnP a H p (.ref y) ⟨.sieve,ins,outs,pace,[k]⟩):∃ dx l1 l2,H y=some (.ins a.Sieve dx (vf l1 l2 k)):=by
 cases h with|ob _ hy n g =>
  refine oE3 (fs3 n g) λ v1 v2 v3 z1_=>oA4 z1_ λ z2_ r1 r2 r3=>?_;subst z2_;refine oE1 r1.ints' λ l1 z1_=>oA3 z1_ λ z2_ _ _=>?_;subst z2_;refine oE1 r2.ints' λ l2 z1_=>oA3 z1_ λ z2_ _ _=>?_;subst z2_;cases r3;exact iE3 _ l1 l2 (by rw [zeF];exact hy)
theorem KnP.joiner (h:KnP a H p (.ref y) ⟨.joiner,ins,outs,pace,kinds⟩):∃ dx l1 l2,H y=some (.ins a.Joiner dx (kf l1 l2))/\H l1=some (.lst (iv ins)):=by
 cases h with|ob _ hy n g =>
  refine oE2 (fs2 n g) λ v1 v2 z1_=>oA3 z1_ λ z2_ r1 r2=>?_;subst z2_;refine oE1 r1.ints' λ l1 z1_=>oA3 z1_ λ z2_ _ h1=>?_;subst z2_;refine oE1 r2.ints' λ l2 z1_=>oA3 z1_ λ z2_ _ _=>?_;subst z2_;exact iE3 _ l1 l2 ⟨by rw [Q7];exact hy,h1⟩
end
def hdV:Option Int->V
 | none=>.non
 | some k=>.int k
def qw (r:Row) (hs:List (Option Int)) (bs:List Bool) (t:Int) (side:Nat):Option (Option Nat × Option Nat × Nat):=match r.wd with
 | .source=>if bs.getD 0 false=true/\t % r.pace=0 then some (none,some 0,side) else none
 | .drain=>if r.pace=0\/hs.getD 0 none=none\/t % r.pace≠0 then none else some (some 0,none,side)
 | .parter=>if hs.getD 0 none=none then none else (jz bs side).map λ p=>(some 0,some p,(p + 1) % bs.length)
 | .first=>if hs.getD 0 none=none then none else (jz bs 0).map λ p=>(some 0,some p,side)
 | .sieve=>if hs.getD 0 none=none then none else if bs.getD (if hs.getD 0 none=some (r.kinds.headD 0) then 0 else 1) false=true then some (some 0,some (if hs.getD 0 none=some (r.kinds.headD 0) then 0 else 1),side) else none
 | .joiner=>if bs.getD 0 false=true then (jz (hs.map Option.isSome) side).map λ p=>(some p,some 0,(p + 1) % hs.length) else none
def chV (x:Option Nat × Option Nat × Nat):List V:=[wX x.1,wX x.2.1,.int (x.2.2:Nat)]
def zcF (K:PySem.W.Frag) (a:Ad) (wd:Wd):Sp:=λ vs H Q _=>∃ (y hl fl:Addr) (r:Row) (p:Addr->Prop) (hs:List (Option Int)) (bs:List Bool) (t:Int) (side:Nat),vs=[.ref y,.ref hl,.ref fl,.int t,.int side]/\KnP a H p (.ref y) r/\r.wd=wd/\r.ok /\
 H hl=some (.lst (hs.map hdV))/\H fl=some (.lst (bs.map V.bl))/\hs.length=r.ins.length/\bs.length=r.outs.length/\∀ v H',Same H H'->Told H' v ((qw r hs bs t side).map chV)->Q v H'
theorem Qp {x:Option Int}:(hdV x=.non)=(x=none):=by
 cases x <;> simp [hdV]
theorem zcs (hs:List (Option Int)):there (hs.map hdV)=hs.map Option.isSome:=by
 simp only [there,d9]
 congr 1
 funext x
 cases x <;> simp [hdV]
theorem zdb (T:Txt K mg a) (wd:Wd):MCal P w K mg base (jY a wd) "choice" 3 ["self","heads","free","turn","side"] [] (zcF K a wd):=by
 cases wd with
 | source =>
  refine MCal.imp (Qa T).mono λ vs H Q E h=>?_;refine oE5 h λ y hl fl z1_ p z2_=>oE4 z2_ λ hs bs t side z3_=>oA9 z3_ λ z4_ hK hw ok hh hf l1 l2 k=>?_;clear h;obtain ⟨wd,ins,outs,pace,kinds⟩:=z1_;subst z4_;simp only at hw;subst hw;refine oE4 hK.source λ dx m1 m2 m3 hy=>?_;refine oA4 ok λ _ z1_ p1 _=>?_;clear ok;obtain ⟨o,eo⟩:=z1_;simp only at eo p1 l2;subst eo
  match bs,l2 with
  | [b],_ =>
   refine iE8 y dx m1 m2 m3 fl pace t (iE4 _ _ b ([]) (iA5 rfl hy p1 (SqL.of hf) (λ v H' s ht=>k v H' s ?_)));unfold Xp at ht;simp only [qw];by_cases hc:b=true/\t % pace=0
   ·rw [aA hc] at ht;rw [aA (by simpa using hc)];exact ht
   ·rw [aw hc] at ht;rw [aw (by simpa using hc)];exact ht
 | drain =>
  refine MCal.imp (Q5 T).mono λ vs H Q E h=>?_;refine oE5 h λ y hl fl z1_ p z2_=>oE4 z2_ λ hs bs t side z3_=>oA9 z3_ λ z4_ hK hw ok hh hf l1 l2 k=>?_;clear h;obtain ⟨wd,ins,outs,pace,kinds⟩:=z1_;subst z4_;simp only at hw;subst hw;refine oE3 hK.drain λ dx m1 m2 hy=>?_;refine oA4 ok λ z1_ _ p1 p4=>?_;clear ok;obtain ⟨o,eo⟩:=z1_;simp only at eo p1 p4 l1;subst eo
  match hs,l1 with
  | [hd],_ =>
   refine iE8 y dx m1 m2 hl pace t _ (iE3 _ (hdV hd) ([]) (iA6 rfl hy p1 p4 (SqL.of hh) (λ v H' s ht=>k v H' s ?_)));unfold zau at ht;simp only [Qp] at ht;simp only [qw];by_cases hc:pace=0\/hd=none\/t % pace≠0
   ·rw [aA hc] at ht;rw [aA (by simpa using hc)];exact ht
   ·rw [aw hc] at ht;rw [aw (by simpa using hc)];exact ht
 | parter =>
  refine MCal.imp (Qc T).mono λ vs H Q E h=>?_;refine oE5 h λ y hl fl z1_ p z2_=>oE4 z2_ λ hs bs t side z3_=>oA9 z3_ λ z4_ hK hw ok hh hf l1 l2 k=>?_;clear h;obtain ⟨wd,ins,outs,pace,kinds⟩:=z1_;subst z4_;simp only at hw;subst hw;refine oE3 hK.parter λ dx m1 m2 z1_=>oA2 z1_ λ hy h2=>?_;obtain ⟨⟨o,eo⟩,q1,q2⟩:=ok;simp only at eo l1 l2 q1 q2;subst eo
  match hs,l1 with
  | [hd],_ =>
   refine iE8 y dx m1 m2 hl fl _ side (iE4 (hdV hd) ([]) (iv outs) bs (iA8 rfl hy h2 (SqL.of hh) (SqL.of hf) (by rw [zn];exact l2) (by omega) (λ v H' s ht=>k v H' s ?_)));simp only [Qp] at ht;simp only [qw];by_cases hc:hd=none
   ·rw [aA hc] at ht;rw [aA (by simpa using hc)];exact ht
   ·rw [aw hc] at ht;rw [aw (by simpa using hc)];unfold zeK at ht;rw [dM];exact ht
 | first =>
  refine MCal.imp (wK T).mono λ vs H Q E h=>?_;refine oE5 h λ y hl fl z1_ p z2_=>oE4 z2_ λ hs bs t side z3_=>oA9 z3_ λ z4_ hK hw ok hh hf l1 l2 k=>?_;clear h;obtain ⟨wd,ins,outs,pace,kinds⟩:=z1_;subst z4_;simp only at hw;subst hw;obtain ⟨⟨o,eo⟩,q1,q2⟩:=ok;simp only at eo l1 l2 q1 q2;subst eo
  match hs,l1 with
  | [hd],_ =>
   refine iE8 y hl fl _ _ (hdV hd) ([]) bs (iA5 rfl (SqL.of hh) (SqL.of hf) (by omega) (λ v H' s ht=>k v H' s ?_));simp only [Qp] at ht;simp only [qw];by_cases hc:hd=none
   ·rw [aA hc] at ht;rw [aA (by simpa using hc)];exact ht
   ·rw [aw hc] at ht;rw [aw (by simpa using hc)];unfold zdv at ht;rw [dM];exact ht
 | sieve =>
  refine MCal.imp (Q3 T).mono λ vs H Q E h=>?_;refine oE5 h λ y hl fl z1_ p z2_=>oE4 z2_ λ hs bs t side z3_=>oA9 z3_ λ z4_ hK hw ok hh hf l1 l2 k=>?_;clear h;obtain ⟨wd,ins,outs,pace,kinds⟩:=z1_;subst z4_;simp only at hw;subst hw;refine oA3 ok λ z1_ q1 z2_=>oE1 z2_ λ kk z3_=>oA2 z3_ λ q2 _=>?_;clear ok;obtain ⟨o,eo⟩:=z1_;simp only at eo l1 l2 q1 q2;subst eo q2;refine oE3 hK.sieve λ dx m1 m2 hy=>?_
  match hs,l1 with
  | [hd],_ =>
   refine iE8 y dx m1 m2 hl fl kk _ (iE4 _ (hdV hd) ([]) bs (iA7 rfl hy (SqL.of hh) (by cases hd;exact .inl rfl;exact .inr ⟨_,rfl⟩) (SqL.of hf) (by omega) (λ v H' s ht=>k v H' s ?_)));unfold VL at ht;simp only [Qp] at ht;simp only [qw];by_cases hc:hd=none
   ·rw [aA hc] at ht;rw [aA (by simpa using hc)];exact ht
   ·rw [aw hc] at ht;rw [aw (by simpa using hc)];have e:(hdV hd=.int kk)=([hd].getD 0 none=some (List.headD [kk] 0)):=by
     cases hd with
     | none=>exact absurd rfl hc
     | some x=>simp [hdV]
    have e1:(if hdV hd=V.int kk then (0:Nat) else 1)=(if [hd].getD 0 none=some (List.headD [kk] 0) then 0 else 1):=by simp only [e]
    have e2:(if hdV hd=V.int kk then (0:Int) else 1)=((if [hd].getD 0 none=some (List.headD [kk] 0) then 0 else 1:Nat):Int):=by simp only [e];split <;> rfl
    rw [e1,e2] at ht;generalize (if [hd].getD 0 none=some (List.headD [kk] 0) then 0 else 1)=q at ht ⊢;by_cases hb:bs.getD q false=true
    ·rw [aA hb] at ht ⊢;exact ht
    ·rw [aw hb] at ht ⊢;exact ht
 | joiner =>
  refine MCal.imp (Qe T).mono λ vs H Q E h=>?_;refine oE5 h λ y hl fl z1_ p z2_=>oE4 z2_ λ hs bs t side z3_=>oA9 z3_ λ z4_ hK hw ok hh hf l1 l2 k=>?_;clear h;obtain ⟨wd,ins,outs,pace,kinds⟩:=z1_;subst z4_;simp only at hw;subst hw;obtain ⟨⟨o,eo⟩,q1,q2⟩:=ok;simp only at eo l1 l2 q1 q2;subst eo;refine oE3 hK.joiner λ dx m1 m2 z1_=>oA2 z1_ λ hy h1=>?_
  match bs,l2 with
  | [b],_ =>
   refine iE8 y dx m1 m2 hl fl _ side (iE4 (hs.map hdV) (iv ins) b ([]) (iA8 rfl hy h1 (SqL.of hh) (SqL.of hf) (by rw [ae,zn];exact l1) (by rw [ae];omega) (λ v H' s ht=>k v H' s ?_)));rw [zcs,ae] at ht;simp only [qw];by_cases hc:b=true
   ·rw [aA hc] at ht;rw [aA (by simpa using hc)];unfold zeO at ht;rw [dM];exact ht
   ·rw [aw hc] at ht;rw [aw (by simpa using hc)];exact ht
abbrev zE:=Option (Int × Int)
def zQ:zE->D
 | none=>.non
 | some (s,n)=>.tup [.int s,.int n]
theorem zb2 (x:zE):Hard (zQ x):=by
 cases x with
 | none=>exact .non
 | some x =>
  refine .tup λ i d h=>?_;have:d∈[D.int x.1,D.int x.2]:=ah h;simp at this;rcases this with rfl|rfl <;> exact .int
structure PSt where
 turn:Int
 cells:List (List zE)
 sides:List Int
 gone:List (List Int)
abbrev zC (cs:List (List zE)):List (List D):=cs.map λ c=>c.map zQ
abbrev z7 (gs:List (List Int)):List (List D):=gs.map λ g=>g.map D.int
def stF (st:PSt):List (Str × D):=[("turn",.int st.turn),("cells",.lst ((zC st.cells).map D.lst)),("sides",.ints st.sides),("gone",.lst ((z7 st.gone).map D.lst))]
def wj (a:Ad) (st:PSt):D:=.ob a.State (stF st)
theorem Wh (st:PSt):(stF st).lookup ("turn":Str)=some (.int st.turn):=qR
theorem JQ (st:PSt):(stF st).lookup ("cells":Str)=some (.lst ((zC st.cells).map D.lst)):=(zN (by decide +kernel)).trans qR
theorem JP (st:PSt):(stF st).lookup ("sides":Str)=some (.ints st.sides):=(zN (by decide +kernel)).trans ((zN (by decide +kernel)).trans qR)
theorem Wi (st:PSt):(stF st).lookup ("gone":Str)=some (.lst ((z7 st.gone).map D.lst)):=(zN (by decide +kernel)).trans ((zN (by decide +kernel)).trans ((zN (by decide +kernel)).trans qR))
def sff (t:Int) (lc ls lg:Addr):List (Str × V):=[(("turn":Str),V.int t),(("cells":Str),V.ref lc),(("sides":Str),V.ref ls),(("gone":Str),V.ref lg)]
theorem zgv {t:Int}:qr "turn" (.int t) []=([(("turn":Str),V.int t)]:List (Str × V)):=rfl
theorem zgu {t:Int} {lc:Addr}:qr "cells" (.ref lc) [(("turn":Str),V.int t)]=([(("turn":Str),V.int t),(("cells":Str),V.ref lc)]:List (Str × V)):=by
 simp only [qr];rw [aw (by decide +kernel)]
theorem zgt {t:Int} {lc ls:Addr}:qr "sides" (.ref ls) [(("turn":Str),V.int t),(("cells":Str),V.ref lc)]=([(("turn":Str),V.int t),(("cells":Str),V.ref lc),(("sides":Str),V.ref ls)]:List (Str × V)):=by
 simp only [qr];rw [aw (by decide +kernel),aw (by decide +kernel)]
theorem zgs {t:Int} {lc ls lg:Addr}:qr "gone" (.ref lg) [(("turn":Str),V.int t),(("cells":Str),V.ref lc),(("sides":Str),V.ref ls)]=sff t lc ls lg:=by
 unfold sff;simp only [qr];rw [aw (by decide +kernel),aw (by decide +kernel),aw (by decide +kernel)]
structure SN where
 dx:Addr
 lc:Addr
 ls:Addr
 lg:Addr
 acs:List Addr
 ags:List Addr
def SN.all (n:SN):List Addr:=n.ls :: n.lc :: n.lg :: (n.acs ++ n.ags)
structure StO (a:Ad) (H:Hp) (y:Addr) (n:SN) (st:PSt):Prop where
 hy:H y=some (.ins a.State n.dx (sff st.turn n.lc n.ls n.lg))
 hc:NL H (zR H) n.lc n.acs (zC st.cells)
 hs:H n.ls=some (.lst (iv st.sides))
 hg:NL H (zR H) n.lg n.ags (z7 st.gone)
 nd:n.all.Nodup
theorem StO.rep {H:Hp} {y:Addr} {n:SN} {st:PSt} (h:StO a H y n st):Rep H (Off []) (.ref y) (wj a st) :=
 x6 (λ z=>nomatch z) h.hy rfl (.cons .int (.cons h.hc.rep (.cons (qe (λ z=>nomatch z) h.hs) (.cons h.hg.rep .nil))))
theorem StO.same {H H':Hp} {y:Addr} {n:SN} {st:PSt} (h:StO a H y n st) (s:Same H H'):StO a H' y n st :=
 ⟨s _ _ h.hy,h.hc.keep (λ b o _ hb=>s b o hb) (λ b ⟨xs,hx⟩ _=>⟨xs,s _ _ hx⟩),s _ _ h.hs,h.hg.keep (λ b o _ hb=>s b o hb) (λ b ⟨xs,hx⟩ _=>⟨xs,s _ _ hx⟩),h.nd⟩
def wv (a:Ad):Sp:=λ vs H Q _=>∃ (y dx:Addr) (vc vs' vg:V) (st:PSt) (p:Addr->Prop),vs=[.ref y,.int st.turn,vc,vs',vg]/\H y=some (.ins a.State dx [])/\(∀ b,p b->b≠y) /\
 Rep H p vc (.lst ((zC st.cells).map D.lst))/\Rep H p vs' (.ints st.sides)/\Rep H p vg (.lst ((z7 st.gone).map D.lst))/\st.cells.length<=100/\st.gone.length<=100 /\
 ∀ H' n,n.dx=dx->Own H H' y->StO a H' y n st->(∀ b∈n.all,H b=none)->Q .non H'
theorem WF {H:Hp} {p:Addr->Prop} {vs:List V} {ds:List D} (h:Reps H p vs ds) (hd:∀ d∈ds,Hard d):Reps H (zR H) vs ds :=
 ⟨h.len,λ i v d e1 e2=>(h.g i v d e1 e2).hard (hd d (ah e2)) λ b xs _ hb=>⟨xs,hb⟩⟩
theorem zap (c:List zE):∀ d∈c.map zQ,Hard d:=λ d hd=>by
 obtain ⟨x,_,rfl⟩:=aW.mp hd;exact zb2 x
theorem zb3 (c:List Int):∀ d∈c.map D.int,Hard d:=λ d hd=>by
 obtain ⟨x,_,rfl⟩:=aW.mp hd;exact .int
theorem JD (T:Txt K mg a) (F:Fun K "__init__" "State.__init__" qW f fd):FnOk P w K mg base (CXr P w) 1 f fd ["self","turn","cells","sides","gone"] (wv a):=by
 refine F.okx JA ?_ ?_
 ·walk_at "i"
 walk_at "j";refine oE7 h λ y dx vc vs' vg st p z1_=>oA9 z1_ λ z2_ hy hp rc rs rg lc lg k=>?_;clear h;subst z2_;refine oE2 rc.lst' λ c0 ucs z1_=>oA4 z1_ λ z2_ pc0 hc0 rcs=>?_;subst z2_;refine oE1 rs.ints' λ s0 z1_=>oA3 z1_ λ z2_ ps0 hs0=>?_;subst z2_;have hs0:H s0=some (.lst (iv st.sides)):=hs0;refine oE2 rg.lst' λ g0 ugs z1_=>oA4 z1_ λ z2_ pg0 hg0 rgs=>?_;subst z2_;have lcs:ucs.length=st.cells.length:=by rw [rcs.len,ae,ae]
 have lgs:ugs.length=st.gone.length:=by rw [rgs.len,ae,ae]
 walk_at "T";refine ⟨_,(zg (jq (pq 0) (pq 1) rfl)  (zg (jq (pq 0) (jG (vars:=["belt_cells"]) (caps:=[]) (N:=["belt_cells"]) (ON:=["self","turn","cells","sides","gone"]) (osc:=zd qW) rfl rfl (by first|decide +kernel|kernel_rfl) rfl rfl (z9 (pq 2)) (λ s H fp pins=>(zW 0 (show (["belt_cells"]:List Str).Nodup from by decide +kernel))) (λ s H fp pins=>qc) (λ s H fp pins=>(wE wV xr (za (pq 0) zb)))) rfl)  (zg (jq (pq 0) (wE wV xr (za (pq 3) zb)) rfl)  (zc (jq (pq 0) (jG (vars:=["counts"]) (caps:=[]) (N:=["counts"]) (ON:=["self","turn","cells","sides","gone"]) (osc:=zd qW) rfl rfl (by first|decide +kernel|kernel_rfl) rfl rfl (z9 (pq 4)) (λ s H fp pins=>(zW 0 (show (["counts"]:List Str).Nodup from by decide +kernel))) (λ s H fp pins=>qc) (λ s H fp pins=>(wE wV xr (za (pq 0) zb)))) rfl))))),?_⟩;walk_at "go";refine iE4 y a.State dx ([]) (iA6 rfl hy T.C_State T.N_State_turn (by decide) ?_);rw [zgv];have o1:Own H (upd H y (.ins a.State dx [(("turn":Str),V.int st.turn)])) y:=jd;have y1:upd H y (.ins a.State dx [(("turn":Str),V.int st.turn)]) y=some (.ins a.State dx [(("turn":Str),V.int st.turn)]):=upd_same;generalize upd H y (.ins a.State dx [(("turn":Str),V.int st.turn)])=H1 at o1 y1 ⊢;have kp:∀ b,zR H b->H b≠none->b≠y:=λ b ⟨xs,hx⟩ _ z=>by rw [z,hy] at hx;cases hx
 walk_at "lc";walk_at "go";refine ⟨c0,rfl,.inl ⟨⟨_,SqL.of (o1 _ _ (hp _ pc0) hc0)⟩,λ _ _ _ _ acc hacc=>?_⟩⟩;let M1_:Nat->St->Hp->Prop:=λ i σ H'=>∃ (v0:Option V) (as:List Addr),σ=[v0]/\Same H1 H'/\NL H' (zR H) acc as (zC (st.cells.take i))/\∀ b∈as,H1 b=none;refine qG (K:=K) (a:=c0) (xs:=ucs) M1_ (iE2 _ ([]) (iA4 rfl (ze hacc) (by rw [cC];exact V8 upd_same) (by simp))) (λ i σ H' _ h=>by obtain ⟨_,_,_,s,_⟩:=h;exact SqL.of (s _ _ (o1 _ _ (hp _ pc0) hc0))) ?_ ?_
 ·intro i x σ H2 hi zz_;refine oE2 zz_ λ v0 as z1_=>oA4 z1_ λ z2_ s2 nl fr=>?_;clear zz_;subst z2_;obtain ⟨d,hd,rx⟩:=rcs.at hi;rw [ak,ak] at hd;obtain ⟨c,hc⟩:∃ c,st.cells[i]?=some c:=by
   cases e:st.cells[i]? with
   | none=>rw [e] at hd;cases hd
   | some c=>exact ⟨c,rfl⟩
  rw [hc] at hd;cases hd;refine oE2 (Rep.lst' rx) λ li vi z1_=>oA4 z1_ λ z2_ pli hli ri=>?_;subst z2_;have hil:=(aa.mp hc).1;have hli2:=s2 _ _ (o1 _ _ (hp _ pli) hli);walk_at "go";refine iE2 li _ (iA3 rfl (.inl (SqL.of hli2)) (λ b hb=>?_));have nb:b ∉ as:=λ z=>by
   obtain ⟨j,hj⟩:=bD z;obtain ⟨vs,h1,_⟩:=nl.g j b _ hj (ad (by rw [<- nl.len];exact (aa.mp hj).1));rw [h1] at hb;cases hb
  have nG:b≠acc:=λ z=>by rw [z,nl.out] at hb;cases hb
  have s3:Same H2 (upd H2 b (.lst vi)):=ze hb;have ac3:=upd_keep (o:=.lst vi) nl.out hb;refine ⟨_,iA3 ac3 (zh (by rw [ae,nl.len,ae,aI];omega)) ?_⟩;have ri3:Reps (upd H2 b (.lst vi)) (zR H) vi (c.map zQ):=(WF ri (zap c)).keep λ z o pz hz=>⟨pz,s3 _ _ (s2 _ _ (o1 _ _ (kp z pz (by rw [hz];intro q;cases q)) hz))⟩;have nl3:=(nl.same s3).push (b:=b) (vs:=vi) (ys:=c.map zQ) upd_same nb nG (λ ⟨xs,hx⟩=>by
   have:=o1 _ _ (kp acc ⟨xs,hx⟩ (by rw [hx];intro q;cases q)) hx;rw [hacc] at this;cases this) ri3
  refine iE2 _ (as ++ [b]) (iA4 rfl ?_ ?_ ?_)
  ·exact λ z o hz=>by rw [upd_ne (ne_of_none hz hacc)];exact s3 _ _ (s2 _ _ hz)
  ·rw [aF,hc];rw [show zC (st.cells.take i ++ (some c).toList)=zC (st.cells.take i) ++ [c.map zQ] by simp [zC]];exact nl3
  ·intro z hz;rcases az.mp hz with hz|hz
   ·exact fr z hz
   ·rw [ar.mp hz];exact zT s2 hb
 intro σ H2 zz_;refine oE2 zz_ λ v0 acs z1_=>oA4 z1_ λ z2_ s2 nlc frc=>?_;clear zz_;subst z2_;rw [lcs,aK] at nlc;have y2:=s2 _ _ y1;walk_at "go";refine iE4 y a.State dx _ (iA6 rfl y2 T.C_State T.N_State_cells (by simp) ?_);rw [zgu];have nay:acc≠y:=λ z=>by rw [z,y1] at hacc;cases hacc
 have hx0:∀ {z:Addr},H1 z=none->z≠y/\H z=none:=λ {z} hz=>by
  have n1:z≠y:=λ q=>by rw [q,y1] at hz;cases hz
  refine ⟨n1,?_⟩;cases e:H z with
  | none=>rfl
  | some o=>rw [o1 z o n1 e] at hz;cases hz
 have o3:Own H (upd H2 y (.ins a.State dx [(("turn":Str),V.int st.turn),(("cells":Str),V.ref acc)])) y:=(o1.trans (Same.own s2)).trans jd;have y3:upd H2 y (.ins a.State dx [(("turn":Str),V.int st.turn),(("cells":Str),V.ref acc)]) y=some (.ins a.State dx [(("turn":Str),V.int st.turn),(("cells":Str),V.ref acc)]):=upd_same;have nl3:NL (upd H2 y (.ins a.State dx [(("turn":Str),V.int st.turn),(("cells":Str),V.ref acc)])) (zR H) acc acs (zC st.cells):=nlc.keep (λ z o hz ho=>by
  refine (upd_ne (λ q=>?_)).trans ho;rcases hz with h|h|h
  ·exact nay (h.symm.trans q)
  ·exact (hx0 (frc z h)).1 q
  ·obtain ⟨xs,hx⟩:=h;rw [q,hy] at hx;cases hx) λ _ hp _=>hp
 generalize upd H2 y (.ins a.State dx [(("turn":Str),V.int st.turn),(("cells":Str),V.ref acc)])=H3 at o3 y3 nl3 ⊢;walk_at "go";refine iE2 s0 _ (iA3 rfl (.inl (SqL.of (o3 _ _ (hp _ ps0) hs0))) (λ ls hls=>?_));walk_at "go";have y4:=upd_keep (o:=.lst (iv st.sides)) y3 hls;refine iE4 y a.State dx _ (iA6 rfl y4 T.C_State T.N_State_sides (by simp) ?_);rw [zgt];have nlsy:ls≠y:=λ z=>by rw [z,y3] at hls;cases hls
 have hls0:H ls=none:=by
  cases e:H ls with
  | none=>rfl
  | some o=>rw [o3 ls o nlsy e] at hls;cases hls
 have o5:Own H (upd (upd H3 ls (.lst (iv st.sides))) y (.ins a.State dx [(("turn":Str),V.int st.turn),(("cells":Str),V.ref acc),(("sides":Str),V.ref ls)])) y:=(o3.trans (Same.own (ze hls))).trans jd;have y5:upd (upd H3 ls (.lst (iv st.sides))) y (.ins a.State dx [(("turn":Str),V.int st.turn),(("cells":Str),V.ref acc),(("sides":Str),V.ref ls)]) y=some (.ins a.State dx [(("turn":Str),V.int st.turn),(("cells":Str),V.ref acc),(("sides":Str),V.ref ls)]):=upd_same;have nl5:NL (upd (upd H3 ls (.lst (iv st.sides))) y (.ins a.State dx [(("turn":Str),V.int st.turn),(("cells":Str),V.ref acc),(("sides":Str),V.ref ls)])) (zR H) acc acs (zC st.cells):=nl3.keep (λ z o hz ho=>by
  refine (upd_ne (λ q=>?_)).trans (upd_keep ho hls);rcases hz with h|h|h
  ·exact nay (h.symm.trans q)
  ·exact (hx0 (frc z h)).1 q
  ·obtain ⟨xs,hx⟩:=h;rw [q,hy] at hx;cases hx) λ _ hp _=>hp
 have ls5:upd (upd H3 ls (.lst (iv st.sides))) y (.ins a.State dx [(("turn":Str),V.int st.turn),(("cells":Str),V.ref acc),(("sides":Str),V.ref ls)]) ls=some (.lst (iv st.sides)):=by rw [upd_ne nlsy];exact upd_same
 have nlsa:ls ∉ acc :: acs:=λ z=>by
  rcases ay.mp z with h|h
  ·rw [h,nl3.out] at hls;cases hls
  ·obtain ⟨j,hj⟩:=bD h;obtain ⟨vs,h1,_⟩:=nl3.g j ls _ hj (ad (by rw [<- nl3.len];exact (aa.mp hj).1));rw [h1] at hls;cases hls
 generalize upd (upd H3 ls (.lst (iv st.sides))) y (.ins a.State dx [(("turn":Str),V.int st.turn),(("cells":Str),V.ref acc),(("sides":Str),V.ref ls)])=H5 at o5 y5 nl5 ls5 ⊢;clear nl3 o3 y3 hls y4;walk_at "lc";walk_at "go";refine ⟨g0,rfl,.inl ⟨⟨_,SqL.of (o5 _ _ (hp _ pg0) hg0)⟩,λ _ _ _ _ ag hag=>?_⟩⟩;let M2_:Nat->St->Hp->Prop:=λ i σ H'=>∃ (v0:Option V) (as:List Addr),σ=[v0]/\Same H5 H'/\NL H' (zR H) ag as (z7 (st.gone.take i))/\∀ b∈as,H5 b=none;refine qG (K:=K) (a:=g0) (xs:=ugs) M2_ (iE2 _ ([]) (iA4 rfl (ze hag) (by rw [cC];exact V8 upd_same) (by simp))) (λ i σ H' _ h=>by obtain ⟨_,_,_,s,_⟩:=h;exact SqL.of (s _ _ (o5 _ _ (hp _ pg0) hg0))) ?_ ?_
 ·intro i x σ H2 hi zz_;refine oE2 zz_ λ v0 as z1_=>oA4 z1_ λ z2_ s2 nl fr=>?_;clear zz_;subst z2_;obtain ⟨d,hd,rx⟩:=rgs.at hi;rw [ak,ak] at hd;obtain ⟨c,hc⟩:∃ c,st.gone[i]?=some c:=by
   cases e:st.gone[i]? with
   | none=>rw [e] at hd;cases hd
   | some c=>exact ⟨c,rfl⟩
  rw [hc] at hd;cases hd;refine oE2 (Rep.lst' rx) λ li vi z1_=>oA4 z1_ λ z2_ pli hli ri=>?_;subst z2_;have hil:=(aa.mp hc).1;have hli2:=s2 _ _ (o5 _ _ (hp _ pli) hli);walk_at "go";refine iE2 li _ (iA3 rfl (.inl (SqL.of hli2)) (λ b hb=>?_));have nb:b ∉ as:=λ z=>by
   obtain ⟨j,hj⟩:=bD z;obtain ⟨vs,h1,_⟩:=nl.g j b _ hj (ad (by rw [<- nl.len];exact (aa.mp hj).1));rw [h1] at hb;cases hb
  have nG:b≠ag:=λ z=>by rw [z,nl.out] at hb;cases hb
  have s3:Same H2 (upd H2 b (.lst vi)):=ze hb;have ac3:=upd_keep (o:=.lst vi) nl.out hb;refine ⟨_,iA3 ac3 (zh (by rw [ae,nl.len,ae,aI];omega)) ?_⟩;have ri3:Reps (upd H2 b (.lst vi)) (zR H) vi (c.map D.int):=(WF ri (zb3 c)).keep λ z o pz hz=>⟨pz,s3 _ _ (s2 _ _ (o5 _ _ (kp z pz (by rw [hz];intro q;cases q)) hz))⟩;have nl3:=(nl.same s3).push (b:=b) (vs:=vi) (ys:=c.map D.int) upd_same nb nG (λ ⟨xs,hx⟩=>by
   have:=o5 _ _ (kp ag ⟨xs,hx⟩ (by rw [hx];intro q;cases q)) hx;rw [hag] at this;cases this) ri3
  refine iE2 _ (as ++ [b]) (iA4 rfl ?_ ?_ ?_)
  ·exact λ z o hz=>by rw [upd_ne (ne_of_none hz hag)];exact s3 _ _ (s2 _ _ hz)
  ·rw [aF,hc];rw [show z7 (st.gone.take i ++ (some c).toList)=z7 (st.gone.take i) ++ [c.map D.int] by simp [z7]];exact nl3
  ·intro z hz;rcases az.mp hz with hz|hz
   ·exact fr z hz
   ·rw [ar.mp hz];exact zT s2 hb
 intro σ H6 zz_;refine oE2 zz_ λ v0' ags z1_=>oA4 z1_ λ z2_ s6 nlg frg=>?_;clear zz_;subst z2_;rw [lgs,aK] at nlg;have y6:=s6 _ _ y5;walk_at "go";refine iE4 y a.State dx _ (iA6 rfl y6 T.C_State T.N_State_gone (by simp) ?_);rw [zgs];have hx5:∀ {z:Addr},H5 z=none->z≠y/\H z=none:=λ {z} hz=>by
  have n1:z≠y:=λ q=>by rw [q,y5] at hz;cases hz
  refine ⟨n1,?_⟩;cases e:H z with
  | none=>rfl
  | some o=>rw [o5 z o n1 e] at hz;cases hz
 have ngy:=(hx5 hag).1;have o7:Own H (upd H6 y (.ins a.State dx (sff st.turn acc ls ag))) y:=(o5.trans (Same.own s6)).trans jd;have tp:∀ b,zR H b->H b≠none->zR (upd H6 y (.ins a.State dx (sff st.turn acc ls ag))) b:=λ b ⟨xs,hx⟩ hn=>⟨xs,o7 _ _ (kp b ⟨xs,hx⟩ hn) hx⟩;have inA:∀ z,z∈acc :: acs->∃ o,H5 z=some o:=λ z hz=>by
  rcases ay.mp hz with h|h
  ·exact ⟨_,h ▸ nl5.out⟩
  ·obtain ⟨j,hj⟩:=bD h;obtain ⟨vs,h1,_⟩:=nl5.g j z _ hj (ad (by rw [<- nl5.len];exact (aa.mp hj).1));exact ⟨_,h1⟩
 refine k _ ⟨dx,acc,ls,ag,acs,ags⟩ rfl o7 ⟨upd_same,?_,?_,?_,?_⟩ ?_
 ·exact (nl5.same s6).keep (λ z o hz ho=>by
   refine (upd_ne (λ q=>?_)).trans ho;rcases hz with h|h|h
   ·exact nay (h.symm.trans q)
   ·exact (hx0 (frc z h)).1 q
   ·obtain ⟨xs,hx⟩:=h;rw [q,hy] at hx;cases hx) λ b hb hn=>by
    obtain ⟨xs,hx⟩:=hb;exact tp b ⟨xs,hx⟩ (by rw [hx];intro q;cases q)
 ·show upd H6 y _ ls=_
  rw [upd_ne nlsy];exact s6 _ _ ls5
 ·exact nlg.keep (λ z o hz ho=>by
   refine (upd_ne (λ q=>?_)).trans ho;rcases hz with h|h|h
   ·exact ngy (h.symm.trans q)
   ·exact (hx5 (frg z h)).1 q
   ·obtain ⟨xs,hx⟩:=h;rw [q,hy] at hx;cases hx) λ b hb hn=>by
    obtain ⟨xs,hx⟩:=hb;exact tp b ⟨xs,hx⟩ (by rw [hx];intro q;cases q)
 ·show (ls :: acc :: ag :: (acs ++ ags)).Nodup
  have ls5':∀ z,H5 z=none->z≠ls:=λ z hz q=>by rw [q,ls5] at hz;cases hz
  rw [cW,cW,cW];refine iA4 (λ z=>?_) (λ z=>?_) (λ z=>?_) ?_
  ·rcases ay.mp z with h|z
   ·exact nlsa (h ▸ cI ..)
   rcases ay.mp z with h|z
   ·exact ls5' ag hag h.symm
   rcases az.mp z with z|z
   ·exact nlsa (aH _ z)
   ·exact ls5' ls (frg ls z) rfl
  ·rcases ay.mp z with h|z
   ·rw [<- h,nl5.out] at hag;cases hag
   rcases az.mp z with z|z
   ·exact nl5.nG z
   ·have:=frg acc z;rw [nl5.out] at this;cases this
  ·rcases az.mp z with z|z
   ·obtain ⟨o,ho⟩:=inA ag (aH _ z);rw [hag] at ho;cases ho
   ·exact nlg.nG z
  ·rw [nodup_append];refine ⟨nl5.nd,nlg.nd,λ u hu v hv q=>?_⟩;subst q;obtain ⟨o,ho⟩:=inA u (aH _ hu);rw [frg u hv] at ho;cases ho
 ·intro b hb;rcases ay.mp hb with rfl|hb
  ·exact hls0
  rcases ay.mp hb with rfl|hb
  ·exact (hx0 hacc).2
  rcases ay.mp hb with rfl|hb
  ·exact (hx5 hag).2
  rcases az.mp hb with hb|hb
  ·exact (hx0 (frc b hb)).2
  ·exact (hx5 (frg b hb)).2
theorem XT (T:Txt K mg a):KCal P w K mg base "State" a.State 1 ["self","turn","cells","sides","gone"] [] (wv a):=T.h_State_init.cal T.g_State (JD T)
theorem qL {H:Hp} {p:Addr->Prop} {v:V} {bs:List (Int × Int)} {rs:List Row} (h:Rep H p v (qk a bs rs)):∃ y dx fs l1 l2 bvs kvs,v=.ref y/\H y=some (.ins a.Work dx fs)/\fs.lookup ("belts":Str)=some (.ref l1)/\fs.lookup ("knots":Str)=some (.ref l2) /\
  H l1=some (.lst bvs)/\H l2=some (.lst kvs)/\Bts a H p bvs bs/\Kns a H p kvs rs/\∀ f:Str,f≠"belts"->f≠"knots"->fs.lookup f=none:=by
 refine oE3 (Rep.ob' h) λ y dx fs z1_=>oA5 z1_ λ z2_ py hy g1 g2=>?_;subst z2_;obtain ⟨u1,e1,r1⟩:=g1 _ _ Wc;obtain ⟨u2,e2,r2⟩:=g1 _ _ zcn;refine oE2 r1.lst' λ l1 bvs z1_=>oA4 z1_ λ z2_ _ h1 b1=>?_;subst z2_;refine oE2 r2.lst' λ l2 kvs z1_=>oA4 z1_ λ z2_ _ h2 b2=>?_;subst z2_;exact iE7 y dx fs l1 l2 bvs kvs (iA9 rfl hy e1 e2 h1 h2 (.of b1) (.of b2) (λ f n1 n2=>g2 f (zfT n1 n2)))
def ZI (ks:List Int) (n:Int):Int:=ks.getD (n % (ks.length:Int)).toNat 0
theorem zbV {ks:List Int} (n:Int) (h:0 < ks.length):atI (iv ks) (n % (ks.length:Int))=some (.int (ZI ks n)):=by
 have h0:=aG n (show (ks.length:Int)≠0 by omega);have h1:=aB n (show (0:Int) < ks.length by omega);unfold ZI;generalize n % (ks.length:Int)=m at h0 h1 ⊢;have hlt:m.toNat < ks.length:=by omega
 have e:m=(m.toNat:Int):=by omega
 have:=zG (jf (ad hlt));rw [<- e] at this;rw [this];simp [hlt]
theorem Wf {H:Hp} {p:Addr->Prop} {v:V} {s n:Int} (h:Rep H p v (.tup [.int s,.int n])):∃ t,v=.ref t/\H t=some (.tup [.int s,.int n]):=jH (b:=(s,n)) h
theorem Qm {H:Hp} {p:Addr->Prop} {kvs:List V} {rs:List Row} {j:Nat} {r:Row} (hK:Kns a H p kvs rs) (h:rs[j]?=some r):∃ kv,kvs[j]?=some kv/\KnP a H p kv r:=by
 have hj:=(aa.mp h).1;have e:kvs[j]?=some (kvs[j]'(by rw [hK.len];exact hj)):=ad _;exact ⟨_,e,hK.g j _ r e h⟩
def zcA (a:Ad):Sp:=λ vs H Q _=>∃ (v vwr:V) (bs:List (Int × Int)) (rs:List Row) (p q:Addr->Prop) (s:Nat) (n:Int) (r:Row),vs=[v,vwr]/\Rep H p v (qk a bs rs)/\Rep H q vwr (.tup [.int s,.int n])/\rs[s]?=some r/\r.wd=.source/\0 < r.kinds.length/\Q (.int (ZI r.kinds n)) H
theorem Xb (T:Txt K mg a):Cal P w K mg base "kind_of" 1 ["work","ware"] [] (zcA a):=T.h_kind_of.cal λ F=>by
 refine F.okx VO ?_ ?_
 ·walk_at "i"
 walk_at "j";refine oE5 h λ v vwr bs rs p z1_=>oE4 z1_ λ q sc n r z2_=>oA7 z2_ λ z3_ hv hw hr' hs hk k=>?_;clear h;subst z3_;refine oE7 (qL hv) λ y dx fs l1 l2 bvs kvs z1_=>oA9 z1_ λ z2_ hy e1 e2 h1 h2 hB hK no=>?_;subst z2_;obtain ⟨t,rfl,ht⟩:=Wf hw;obtain ⟨kv,hkv,hKn⟩:=Qm hK hr';refine oE6 hKn.inv λ y1 dx1 m1 m2 m3 fs1 z1_=>oA9 z1_ λ z2_ _ _ _ _ g0 _ _ z3_=>oA5 z3_ λ _ _ _ g3 _=>?_;subst z2_;obtain ⟨g3a,g3b⟩:=g3 hs;walk_at "T";refine ⟨_,(zi (zp 2 VO.nd (zj (zw (zj (pq 0) rfl) (zw (pq 1) zf)) rfl))  (zc (zk (zw (pq 2) (zq qt (zw (pq 1) zf) (zP zY zX (za (pq 2) zb))))))),?_⟩;walk_at "go";refine ra hy T.C_Work T.N_Work_knots e2 (rd_ixT ht at0 (zu (SqL.of h2) (zG hkv) ?_));refine iE5 y1 (jY a r.wd) dx1 fs1 _ (iA6 rfl g0 (CT T _) (by rw [hs];exact T.N_Source_kinds) g3a ?_);walk_at "go";refine rd_ixT ht rfl ?_;walk_at "go";refine ⟨_,.inl ⟨_,SqL.of g3b,rfl⟩,?_⟩;rw [zn];walk_at "go";exact ⟨by omega,zu (SqL.of g3b) (zbV n hk) k⟩
def qI (r:Row):List Int:=List.replicate (max r.ins.length r.outs.length) 0
theorem zfp (m n:Nat):(if (n:Int) > (m:Int) then (n:Int) else (m:Int))=((max m n:Nat):Int):=by
 by_cases h:(n:Int) > (m:Int)
 ·rw [aA h];omega
 ·rw [aw h];omega
theorem vS {r:Row} (h:r.ok):r.ins.length<=4/\r.outs.length<=4:=by
 obtain ⟨wd,ins,outs,pc,ks⟩:=r;cases wd
 ·obtain ⟨h1,⟨o,h2⟩,_⟩:=h;simp only at h1 h2;subst h1 h2;simp
 ·obtain ⟨⟨o,h1⟩,h2,_⟩:=h;simp only at h1 h2;subst h1 h2;simp
 ·obtain ⟨⟨o,h1⟩,_,h2⟩:=h;simp only at h1 h2;subst h1;exact ⟨by simp,h2⟩
 ·obtain ⟨⟨o,h1⟩,_,h2⟩:=h;simp only at h1 h2;subst h1;exact ⟨by simp,h2⟩
 ·obtain ⟨⟨o,h1⟩,h2,_⟩:=h;simp only at h1 h2;subst h1;exact ⟨by simp,by show outs.length<=4;omega⟩
 ·obtain ⟨⟨o,h1⟩,_,h2⟩:=h;simp only at h1 h2;subst h1;exact ⟨h2,by simp⟩
def zbg (a:Ad) (H H':Hp) (v:V) (st:PSt):Prop:=∃ y n,v=.ref y/\StO a H' y n st/\H y=none/\H n.dx=none/\∀ b∈n.all,H b=none
theorem Q1 (T:Txt K mg a) {H:Hp} {st:PSt} {vc vs' vg:V} {Q:Addr->Hp->Prop} {E:XK} {p:Addr->Prop} (rc:Rep H p vc (.lst ((zC st.cells).map D.lst))) (rs:Rep H p vs' (.ints st.sides)) (rg:Rep H p vg (.lst ((z7 st.gone).map D.lst))) (lc:st.cells.length<=100) (lg:st.gone.length<=100)
  (k:∀ y H',Same H H'->zbg a H H' (.ref y) st->Q y H'):∀ (x dx:Addr),H x=none->H dx=none->dx≠x->wv a [.ref x,.int st.turn,vc,vs',vg] (upd (upd H dx (.own x)) x (.ins a.State dx [])) (λ v H2=>v=.non/\Q x H2) E:=by
 intro y dy hy hdy hne;have kp:∀ b o,p b->H b=some o->b≠y/\upd (upd H dy (.own y)) y (.ins a.State dy []) b=some o:=λ b o _ hb=>⟨ne_of_none hb hy,qx hy hdy hb⟩;refine iE7 y dy vc vs' vg st (λ b=>b≠y) (iA9 rfl upd_same (λ _ h=>h) (rc.keep kp) (rs.keep kp) (rg.keep kp) lc lg (λ H' n en o so fr=>⟨rfl,?_⟩));exact k _ _ (Own.of_new hy hdy o) (iE2 y n (iA5 rfl so hy (by rw [en];exact hdy) (λ b hb=>zH (fr b hb))))
theorem Vn {r:Row} (h:r.ok) (hw:r.wd=.joiner):qI r=List.replicate r.ins.length 0:=by
 obtain ⟨wd,ins,outs,pc,ks⟩:=r;simp only at hw;subst hw;obtain ⟨⟨o,h1⟩,h2,_⟩:=h;simp only at h1 h2;subst h1;unfold qI;rw [Nat.max_eq_left (by simp;omega)]
theorem zav {r:Row} (h:r.ok) (hw:r.wd≠.joiner):qI r=List.replicate (max 1 r.outs.length) 0:=by
 obtain ⟨wd,ins,outs,pc,ks⟩:=r;unfold qI;cases wd
 ·obtain ⟨h1,⟨o,h2⟩,_⟩:=h;simp only at h1 h2;subst h1 h2;rfl
 ·obtain ⟨⟨o,h1⟩,h2,_⟩:=h;simp only at h1 h2;subst h1 h2;rfl
 ·obtain ⟨⟨o,h1⟩,h2,_⟩:=h;simp only at h1 h2;subst h1;rfl
 ·obtain ⟨⟨o,h1⟩,h2,_⟩:=h;simp only at h1 h2;subst h1;rfl
 ·obtain ⟨⟨o,h1⟩,h2,_⟩:=h;simp only at h1 h2;subst h1;rfl
 ·exact absurd rfl hw
theorem qS {r:Row} (h:r.ok):1<=(qI r).length/\(qI r).length<=4:=by
 have:=vS h;by_cases hw:r.wd=.joiner
 ·rw [Vn h hw,bj];obtain ⟨wd,ins,outs,pc,ks⟩:=r;simp only at hw;subst hw;have:=h.2.1;simp only at this;constructor
  ·show 1<=ins.length;omega
  ·exact h.2.2
 ·rw [zav h hw,bj];omega
def qD (rs:List Row) (x:zE):Prop:=∀ s n,x=some (s,n)->∃ (j:Nat) (r:Row),s=j/\rs[j]?=some r/\r.wd=.source/\0<=n
def xz (rs:List Row) (gss:List (List Int)):Prop:=gss.length=rs.length/\∀ (i:Nat) r g,rs[i]?=some r->gss[i]?=some g->g.length=(qI r).length/\∀ n∈g,0<=n
def ql (bs:List (Int × Int)) (rs:List Row) (css:List (List zE)):Prop:=css.length=bs.length/\∀ (i:Nat) b c,bs[i]?=some b->css[i]?=some c->c.length=b.1.toNat/\∀ x∈c,qD rs x
theorem zdr {rs:List Row} {gss:List (List Int)} (h:xz rs gss) {j:Nat} {g g':List Int} (e:gss[j]?=some g) (l:g'.length=g.length) (n:∀ x∈g',0<=x):xz rs (gss.set j g'):=by
 refine ⟨by rw [bT];exact h.1,λ i r x h1 h2=>?_⟩;by_cases hj:i=j
 ·subst hj;rw [ba (aa.mp e).1] at h2;cases h2;exact ⟨by rw [l];exact (h.2 i r g h1 e).1,n⟩
 ·rw [bg (aX hj)] at h2;exact h.2 i r x h1 h2
def j5 (r:Row) (s:Int):Prop:=0<=s/\(r.wd=.parter->s < r.outs.length)/\(r.wd=.joiner->s < r.ins.length)/\(r.wd≠.parter->r.wd≠.joiner->s=0)
def xQ (rs:List Row) (sds:List Int):Prop:=sds.length=rs.length/\∀ (i:Nat) r s,rs[i]?=some r->sds[i]?=some s->j5 r s
theorem VM {rs:List Row} {i:Nat} {r:Row} {sds:List Int} {s:Int} (hr:rs[i]?=some r) (h:xQ (rs.take i) sds) (k:j5 r s):xQ (rs.take (i + 1)) (sds ++ [s]):=by
 have tk:rs.take (i + 1)=rs.take i ++ [r]:=by rw [aF,hr];rfl
 rw [tk];refine ⟨by rw [aQ,aQ,h.1];rfl,λ j r2 s2 e1 e2=>?_⟩;by_cases hj:j < sds.length
 ·rw [aJ hj] at e2;rw [aJ (by rw [<- h.1];exact hj)] at e1;exact h.2 j r2 s2 e1 e2
 ·rw [aE (by omega)] at e2;rw [aE (by rw [<- h.1];omega),<- h.1] at e1;have j0:j - sds.length=0:=by have:=(aa.mp e2).1;simp at this;omega
  rw [j0] at e1 e2;have e1:r=r2:=by simpa using e1
  have e2:s=s2:=by simpa using e2
  subst e1 e2;exact k
def zM (cs:List (List zE)) (b:Int):List zE:=cs.getD b.toNat []
def wM (c:List zE):zE:=c.getLastD none
def zey (c:List zE):zE:=c.headD none
def J5 (rs:List Row):zE->Option Int:=Option.map λ x=>ZI ((rs[x.1.toNat]?.map Row.kinds).getD []) x.2
def qz (rs:List Row) (cs:List (List zE)) (r:Row):List (Option Int):=r.ins.map λ b=>J5 rs (wM (zM cs b))
def jt (cs:List (List zE)) (r:Row):List Bool:=r.outs.map λ b=>decide (zey (zM cs b)=none)
theorem zaP {α:Type} {xs:List α} {d:α} (h:xs≠[]):atI xs (-1)=some (xs.getLastD d):=by
 have hl:0 < xs.length:=db.mpr h;unfold atI ixN;rw [aw (by decide),aA (by omega)];have e:((-1:Int) + xs.length).toNat=xs.length - 1:=by omega
 simp only [Option.bind_some,e];rw [ad (by omega),bz,List.getLast?_eq_getElem?,ad (by omega)]
 rfl
theorem WU {c:List zE}:(c.map zQ).getLastD .non=zQ (wM c):=by
 unfold wM;rw [bz,bz,List.getLast?_map];cases c.getLast? <;> rfl
structure stWf (bs:List (Int × Int)) (rs:List Row) (st:PSt):Prop where
 co:ql bs rs st.cells
 so:xQ rs st.sides
 go:xz rs st.gone
theorem wl {bs:List (Int × Int)} {rs:List Row} {cs:List (List zE)} (h:ql bs rs cs) (bo:∀ b∈bs,zy b.1 b.2) {b:Int} (hb:b∈rgI bs.length):∃ (i:Nat),b=i/\i < cs.length/\cs[i]?=some (zM cs b)/\zM cs b≠[]/\∀ x∈zM cs b,qD rs x:=by
 obtain ⟨h0,h1⟩:=zek hb;obtain ⟨i,rfl⟩:∃ i:Nat,b=i:=⟨b.toNat,by omega⟩;have hi:i < cs.length:=by rw [h.1];omega
 have e:cs[i]?=some (zM cs i):=by
  unfold zM;rw [aO,ad hi];simp [hi]
 have hib:i < bs.length:=by omega
 obtain ⟨q1,q2⟩:=h.2 i bs[i] _ (ad hib) e;refine ⟨i,iA5 rfl hi e ?_ q2⟩;intro z;rw [z] at q1;have:=(bo _ (getElem_mem hib)).1;simp at q1;omega
theorem Zc {bs:List (Int × Int)} {rs:List Row} {k:Nat} {r:Row} {b:Int} (w:qg bs rs) (h:rs[k]?=some r) (hb:b∈r.ins):b∈rgI bs.length :=
 w.2.2.mem_iff.mp (List.mem_flatMap.mpr ⟨r,ah h,hb⟩)
theorem QS {bs:List (Int × Int)} {rs:List Row} {k:Nat} {r:Row} {b:Int} (w:qg bs rs) (h:rs[k]?=some r) (hb:b∈r.outs):b∈rgI bs.length :=
 w.2.1.mem_iff.mp (List.mem_flatMap.mpr ⟨r,ah h,hb⟩)
theorem za1 {c:List zE} (h:c≠[]):wM c∈c:=by
 unfold wM;rw [bz,List.getLast?_eq_some_getLast h];exact List.getLast_mem h
theorem zbm {H:Hp} {p:Addr->Prop} {v:V} {st:PSt} (h:Rep H p v (wj a st)):∃ y dx fs lc ls lg ucs ugs,v=.ref y/\H y=some (.ins a.State dx fs)/\fs.lookup ("turn":Str)=some (.int st.turn)/\fs.lookup ("cells":Str)=some (.ref lc)/\fs.lookup ("sides":Str)=some (.ref ls)/\fs.lookup ("gone":Str)=some (.ref lg) /\
  H lc=some (.lst ucs)/\Reps H p ucs ((zC st.cells).map D.lst)/\H ls=some (.lst (iv st.sides))/\H lg=some (.lst ugs)/\Reps H p ugs ((z7 st.gone).map D.lst):=by
 refine oE3 (Rep.ob' h) λ y dx fs z1_=>oA5 z1_ λ z2_ py hy g1 g2=>?_;subst z2_;obtain ⟨u1,e1,r1⟩:=g1 _ _ (Wh st);obtain ⟨u2,e2,r2⟩:=g1 _ _ (JQ st);obtain ⟨u3,e3,r3⟩:=g1 _ _ (JP st);obtain ⟨u4,e4,r4⟩:=g1 _ _ (Wi st);cases r1;refine oE2 r2.lst' λ lc ucs z1_=>oA4 z1_ λ z2_ _ hc rc=>?_;subst z2_;refine oE1 r3.ints' λ ls z1_=>oA3 z1_ λ z2_ _ hs=>?_;subst z2_;refine oE2 r4.lst' λ lg ugs z1_=>oA4 z1_ λ z2_ _ hg rg=>?_;subst z2_;exact iE8 y dx fs lc ls lg ucs ugs (iA9 rfl hy e1 e2 e3 e4 hc rc (iA3 hs hg rg))
theorem zdm {H:Hp} {p:Addr->Prop} {us:List V} {dss:List (List D)} (h:Reps H p us (dss.map D.lst)) {i:Nat} {ds:List D} (e:dss[i]?=some ds):∃ l vs,us[i]?=some (.ref l)/\H l=some (.lst vs)/\Reps H p vs ds:=by
 obtain ⟨v,h1,h2⟩:=h.of (i:=i) (d:=.lst ds) (by rw [ak,e];rfl);refine oE2 h2.lst' λ l vs z1_=>oA4 z1_ λ z2_ _ h3 h4=>?_;subst z2_;exact iE2 l vs (iA3 h1 h3 h4)
def zaE (a:Ad):Sp:=λ vs H Q _=>∃ (vw vs' vk:V) (bs:List (Int × Int)) (rs:List Row) (st:PSt) (k:Nat) (r:Row) (p q:Addr->Prop),vs=[vw,vs',vk]/\Rep H p vw (qk a bs rs)/\Rep H q vs' (wj a st)/\KnP a H p vk r/\rs[k]?=some r/\qg bs rs/\(∀ b∈bs,zy b.1 b.2)/\(∀ r∈rs,r.ok)/\ql bs rs st.cells /\
 ∀ l H',Same H H'->H l=none->H' l=some (.lst ((qz rs st.cells r).map hdV))->Q (.ref l) H'
theorem zbY {a:Ad} {vs:List V} {H:Hp} {Q:VK} {E:XK} (vw vs' vk:V) (bs:List (Int × Int)) (rs:List Row) (st:PSt) (k:Nat) (r:Row) (p q:Addr->Prop) (q0:vs=[vw,vs',vk]) (q1:Rep H p vw (qk a bs rs)) (q2:Rep H q vs' (wj a st)) (q3:KnP a H p vk r) (q4:rs[k]?=some r) (q5:qg bs rs) (q6:(∀ b∈bs,zy b.1 b.2)) (q7:(∀ r∈rs,r.ok)) (q8:ql bs rs st.cells) (q9:∀ l H',Same H H'->H l=none->H' l=some (.lst ((qz rs st.cells r).map hdV))->Q (.ref l) H'):zaE a vs H Q E:=⟨vw,vs',vk,bs,rs,st,k,r,p,q,q0,q1,q2,q3,q4,q5,q6,q7,q8,q9⟩
theorem zax (T:Txt K mg a):Cal P w K mg base "heads_of" 2 ["work","state","knot"] [] (zaE a):=T.h_heads_of.cal λ F=>by
 refine F.okx Wy ?_ ?_
 ·walk_at "i"
 walk_at "j";refine oE8 h λ vw vs' vk bs rs st kn r z1_=>oE2 z1_ λ p q z2_=>oA6 z2_ λ z3_ hw hs hk hr' z4_=>oA5 z4_ λ wok bo ro co k=>?_;clear h;subst z3_;refine oE8 (zbm hs) λ y dx fs lc ls lg ucs ugs z1_=>oA9 z1_ λ z2_ hy e1 e2 e3 e4 hc rc z3_=>oA3 z3_ λ hsd hg rg=>?_;subst z2_;refine oE6 hk.inv λ y1 dx1 m1 m2 m3 fs1 z1_=>oA9 z1_ λ z2_ _ _ _ _ g0 f1 f2 z3_=>oA5 z3_ λ _ g1 g2 _ _=>?_;subst z2_;have rl:=vS (ro r (ah hr'));walk_at "T";refine ⟨_,(zg (ZS (i:=3) Wy.nd rfl (Or.inl rfl) (vars:=["belt"]) (caps:=[1]) (N:=["belt","state"]) (ON:=["work","state","knot","ends"]) (osc:=zd j7) rfl rfl (by first|decide +kernel|kernel_rfl) rfl rfl (z9 (zj (pq 2) rfl)) (λ s H fp pins=>(zW 0 (show (["belt","state"]:List Str).Nodup from by decide +kernel))) (λ s H fp pins=>qc) (λ s H fp pins=>(zw (zw (zj (pq 1) rfl) (pq 0)) (w6 xu zf))))  (zc (zk (jG (vars:=["ware"]) (caps:=[0]) (N:=["ware","work"]) (ON:=["work","state","knot","ends"]) (osc:=zd j7) rfl rfl (by first|decide +kernel|kernel_rfl) rfl rfl (z9 (pq 3)) (λ s H fp pins=>(zW 0 (show (["ware","work"]:List Str).Nodup from by decide +kernel))) (λ s H fp pins=>qc) (λ s H fp pins=>(xg (zm je (pq 0) zD (zr _)) zD (ZG hr (za (pq 1) (za (pq 0) zb))))))))),?_⟩;walk_at "go";walk_at "lc";walk_at "go";refine ra g0 (CT T _) (NI T _) f1 ⟨m1,rfl,.inl ⟨⟨_,SqL.of g1⟩,λ _ _ _ _ acc hacc=>?_⟩⟩;let M1_:Nat->St->Hp->Prop:=λ i σ H'=>∃ (v0:Option V) (us:List V),σ=[v0,some (.ref y)]/\Same H H'/\H' acc=some (.lst us)/\Reps H q us ((r.ins.take i).map λ b=>zQ (wM (zM st.cells b)));refine qG (K:=K) (a:=m1) (xs:=iv r.ins) M1_ (iE2 _ ([]) (iA4 rfl (ze hacc) upd_same (by rw [cC];exact .nil))) (λ i σ H' _ h=>by obtain ⟨_,_,_,s,_⟩:=h;exact SqL.of (s _ _ g1)) ?_ ?_
 ·intro i x σ H2 hi zz_;refine oE2 zz_ λ v0 us z1_=>oA4 z1_ λ z2_ s2 ha ru=>?_;clear zz_;subst z2_;obtain ⟨b,hb,rfl⟩:=xH hi;have hil:=(aa.mp hb).1;refine oE1 (wl co bo (Zc wok hr' (ah hb))) λ j z1_=>oA5 z1_ λ z2_ hj ej nej _=>?_;subst z2_;obtain ⟨li,vi,hu,hli,ri⟩:=zdm rc (i:=j) (ds:=(zM st.cells j).map zQ) (by rw [zC,ak,ej];rfl);obtain ⟨ve,he,re⟩:=zeR ri (zaP (d:=.non) (by simpa using nej));rw [WU] at re;walk_at "go";refine ra (s2 _ _ hy) T.C_State T.N_State_cells e2 (zu (SqL.of (s2 _ _ hc)) (zG hu) ?_);walk_at "go";refine zu (SqL.of (s2 _ _ hli)) he ?_;refine ⟨_,iA3 ha (zh (by rw [ru.len,ae,aI];omega)) (iE2 _ (us ++ [ve]) (iA4 rfl (λ b o hb=>by rw [upd_ne (ne_of_none hb hacc)];exact s2 b o hb) upd_same ?_))⟩;rw [aF,hb,aV];exact ru.append (.one re)
 intro σ H2 zz_;refine oE2 zz_ λ v0 us z1_=>oA4 z1_ λ z2_ s2 ha ru=>?_;clear zz_;subst z2_;rw [zn,aK] at ru;have lu:us.length=r.ins.length:=by rw [ru.len,ae]
 walk_at "go";walk_at "lc";walk_at "go";refine ⟨acc,rfl,.inl ⟨⟨_,SqL.of ha⟩,λ _ _ _ _ ac2 hac2=>?_⟩⟩;let M2_:Nat->St->Hp->Prop:=λ i σ H'=>∃ (v0:Option V),σ=[v0,some vw]/\Same H2 H'/\H' ac2=some (.lst ((((qz rs st.cells r).take i).map hdV)));refine qG (K:=K) (a:=acc) (xs:=us) M2_ ⟨_,iA3 rfl (ze hac2) (by rw [cC];exact upd_same)⟩ (λ i σ H' _ h=>by obtain ⟨_,_,s,_⟩:=h;exact SqL.of (s _ _ ha)) ?_ ?_
 ·intro i x σ H3 hi zz_;refine oE1 zz_ λ v0 z1_=>oA3 z1_ λ z2_ s3 ha3=>?_;clear zz_;subst z2_;obtain ⟨d,hd,rx⟩:=ru.at hi;rw [ak,aq] at hd;obtain ⟨b,hb,rfl⟩:=hd;have hil:=(aa.mp hb).1;refine oE1 (wl co bo (Zc wok hr' (ah hb))) λ j z1_=>oA5 z1_ λ z2_ hj ej nej wk=>?_;subst z2_;have hwk:=wk _ (za1 nej);have hh:(qz rs st.cells r)[i]?=some (J5 rs (wM (zM st.cells j))):=by rw [qz,ak,hb];rfl
  have s23:=s2.trans s3;have fin:∀ u:V,u=hdV (J5 rs (wM (zM st.cells j)))->∃ ys,H3 ac2=some (.lst ys)/\ys.length < sizeLine/\∃ (v0:Option V),([some x,some vw]:St)=[v0,some vw]/\Same H2 (upd H3 ac2 (.lst (ys ++ [u])))/\upd H3 ac2 (.lst (ys ++ [u])) ac2=some (.lst ((((qz rs st.cells r).take (i + 1)).map hdV))):=by
   rintro u rfl;refine ⟨_,iA3 ha3 (zh (by rw [ae,aI];omega)) ⟨_,iA3 rfl (λ b o hb=>by rw [upd_ne (ne_of_none hb hac2)];exact s3 b o hb) ?_⟩⟩;rw [upd_same,aF,hh,aV]
   rfl
  walk_at "go";cases hE:wM (zM st.cells j) with
  | none =>
   rw [hE] at rx fin;cases rx;rw [aA rfl];exact fin _ rfl
  | some wr =>
   obtain ⟨sr,nr⟩:=wr;rw [hE] at rx fin hwk;refine oE2 (hwk _ _ rfl) λ j0 r0 z1_=>oA4 z1_ λ z2_ hr0 hw0 _=>?_;subst z2_;have ok0:=ro r0 (ah hr0);have kp:0 < r0.kinds.length:=by
    obtain ⟨wd,ins,outs,pc,ks⟩:=r0;simp only at hw0;subst hw0;exact ok0.2.2.2.2.1
   obtain ⟨tw,rfl,htw⟩:=Wf rx;rw [aw (by intro z;cases z)];refine uc (Xb T).mono (iE5 vw _ bs rs p (iE4 q j0 nr r0 (iA7 rfl (qM hw s23) (qM rx s23) hr0 hw0 kp ?_)));exact fin _ (by simp [J5,hr0,hdV])
 ·intro σ H3 zz_;refine oE1 zz_ λ v0 z1_=>oA3 z1_ λ z2_ s3 ha3=>?_;clear zz_;subst z2_;rw [lu,cz (by simp [qz])] at ha3;walk_at "go";exact k _ _ (s2.trans s3) (zT s2 hac2) ha3
def zcG (K:PySem.W.Frag):Sp:=λ vs H Q _=>∃ (l:Addr) (ns:List Int) (o:Option Nat),vs=[.ref l,wX o]/\H l=some (.lst (iv ns))/\(∀ j,o=some j->j < ns.length)/\Q (hdV (o.bind λ j=>ns[j]?)) H
theorem Xc (T:Txt K mg a):Cal P w K mg base "belt_at" 1 ["belts","place"] [] (zcG K):=T.h_belt_at.cal λ F=>by
 refine F.okx VP ?_ ?_
 ·walk_at "i"
 walk_at "j";refine oE3 h λ l ns o z1_=>oA4 z1_ λ z2_ hl ho k=>?_;clear h;subst z2_;walk_at "T";refine ⟨_,(zc (zk (xg (zm je (pq 1) zD (zr _)) zD (zw (pq 0) (pq 1))))),?_⟩;walk_at "go";cases o with
 | none=>exact zI (λ _=>k) (λ b=>absurd rfl b)
 | some j =>
  have hj:=ho j rfl;refine zI (λ b=>by cases b) (λ _=>?_);refine zu (SqL.of hl) (zG (jf (ad hj))) ?_;have e:hdV ((some j).bind λ j=>ns[j]?)=.int ns[j]:=by simp [hj,hdV]
  rw [e] at k;exact k
theorem zf9 (T:Txt K mg a) (wd:Wd):PySem.W.kitOne K (.ref (jY a wd)) (.ref a.Joiner)=some (decide (wd=.joiner)):=by
 cases wd
 ·exact T.k1_Source_Joiner
 ·exact T.k1_Drain_Joiner
 ·exact T.k1_Parter_Joiner
 ·exact T.k1_FirstParter_Joiner
 ·exact T.k1_Sieve_Joiner
 ·exact T.k1_Joiner_Joiner
def xj (r:Row) (ch:Option Nat × Option Nat × Nat):Nat:=if r.wd=.joiner then ch.1.getD 0 else ch.2.1.getD 0
def JU (a:Ad):Sp:=λ vs H Q _=>∃ (vk:V) (t:Addr) (r:Row) (ch:Option Nat × Option Nat × Nat) (p:Addr->Prop),vs=[vk,.ref t]/\KnP a H p vk r/\H t=some (.tup (chV ch))/\(r.wd=.joiner->∃ j,ch.1=some j)/\Q (.int (xj r ch)) H
theorem Vd {a:Ad} {vs:List V} {H:Hp} {Q:VK} {E:XK} (vk:V) (t:Addr) (r:Row) (ch:Option Nat × Option Nat × Nat) (p:Addr->Prop) (q0:vs=[vk,.ref t]) (q1:KnP a H p vk r) (q2:H t=some (.tup (chV ch))) (q3:(r.wd=.joiner->∃ j,ch.1=some j)) (q4:Q (.int (xj r ch)) H):JU a vs H Q E:=⟨vk,t,r,ch,p,q0,q1,q2,q3,q4⟩
theorem Qh (T:Txt K mg a):Cal P w K mg base "counted_place" 1 ["knot","chosen"] [] (JU a):=T.h_counted_place.cal λ F=>by
 refine F.okx Zo ?_ ?_
 ·walk_at "i"
 walk_at "j";refine oE5 h λ vk t r ch p z1_=>oA5 z1_ λ z2_ hk ht hj k=>?_;clear h;subst z2_;refine oE6 hk.inv λ y1 dx1 m1 m2 m3 fs1 z1_=>oA9 z1_ λ z2_ _ _ _ _ g0 f1 f2 z3_=>oA5 z3_ λ _ g1 g2 _ _=>?_;subst z2_;walk_at "T";refine ⟨_,(zi (zA (qf (zP jR zS (za (pq 0) (za jk zb))) (λ _=>rfl))  (zc (zk (zw (pq 1) zf)))  zl)  (zc (zk (xg (zm je (zw (pq 1) zf) zD (zr _)) zf (zw (pq 1) zf))))),?_⟩;walk_at "go";refine iE2 (.ref a.Joiner) _ (iA3 T.g_Joiner rfl (iE4 _ _ _ _ (iA4 rfl ((WT T r.wd).ty (CT T r.wd) g0) (.inl ⟨_,rfl,zf9 T r.wd⟩) ?_)));walk_at "go";unfold xj at k;refine zI (λ b=>?_) (λ b=>?_)
 ·rw [aA b] at k;obtain ⟨j,ej⟩:=hj b;walk_at "go";refine rd_ixT ht at0 ?_;rw [ej] at k ⊢;exact k
 ·rw [aw b] at k;walk_at "go";refine rd_ixT ht (show atI (chV ch) 1=some (wX ch.2.1) from rfl) ?_;walk_at "go";cases e:ch.2.1 with
  | none =>
   rw [e] at k;exact zI (λ _=>k) (λ b=>absurd rfl b)
  | some j =>
   rw [e] at k;refine zI (λ b=>by cases b) (λ _=>?_);refine rd_ixT ht (show atI (chV ch) 1=some (wX ch.2.1) from rfl) ?_;rw [e];exact k
section
variable {H:Hp} {y:Addr} {n:SN} {st:PSt}
theorem StO.nds (h:StO a H y n st):n.ls ∉ n.lc :: n.lg :: (n.acs ++ n.ags)/\n.lc ∉ n.lg :: (n.acs ++ n.ags)/\n.lg ∉ n.acs ++ n.ags/\∀ x∈n.acs,x ∉ n.ags:=by
 have nd:=h.nd;unfold SN.all at nd;rw [cW,cW,cW,nodup_append] at nd;exact iA4 nd.1 nd.2.1 nd.2.2.1 (λ x hx hy=>nd.2.2.2.2.2 x hx x hy rfl)
theorem Qi {x:Addr} {us vs:List V} (hx:H x=some (.lst us)) {b:Addr} (h:zR H b):zR (upd H x (.lst vs)) b:=by
 obtain ⟨xs,hb⟩:=h;exact ⟨xs,by rw [upd_ne (λ z=>by rw [z,hx] at hb;cases hb)];exact hb⟩
theorem StO.putC {i:Nat} {b:Addr} {c':List zE} {vs:List V} (h:StO a H y n st) (e:n.acs[i]?=some b) (r:Reps H (zR H) vs (c'.map zQ)):StO a (upd H b (.lst vs)) y n { st with cells:=st.cells.set i c' }:=by
 have hb:=ah e;obtain ⟨us,hu⟩:=h.hc.isl (aH _ hb);refine oA4 h.nds λ n1 n2 n3 n4=>?_;have k:∀ c o,c≠b->H c=some o->upd H b (.lst vs) c=some o:=λ c o nc hc=>by rw [upd_ne nc];exact hc
 have ntb:¬ zR H b:=λ ⟨xs,hx⟩=>by rw [hu] at hx;cases hx
 refine ⟨k _ _ (λ z=>by rw [<- z,h.hy] at hu;cases hu) h.hy,?_,k _ _ (λ z=>n1 (by rw [z];simp [hb])) h.hs,h.hg.tup λ c o hz hc=>k c o (λ z=>?_) hc,h.nd⟩
 ·have:=h.hc.put (vs:=vs) (ys:=c'.map zQ) e ntb r;rw [show zC (st.cells.set i c')=(zC st.cells).set i (c'.map zQ) by simp [zC,du]];exact this.keep (λ _ _ _ hc=>hc) λ c hc _=>Qi hu hc
 ·subst z;rcases hz with rfl|hz|hz
  ·exact n3 (aZ _ hb)
  ·exact n4 c hb hz
  ·exact ntb hz
theorem StO.putG {i:Nat} {b:Addr} {g':List Int} (h:StO a H y n st) (e:n.ags[i]?=some b):StO a (upd H b (.lst (iv g'))) y n { st with gone:=st.gone.set i g' }:=by
 have hb:=ah e;obtain ⟨us,hu⟩:=h.hg.isl (aH _ hb);refine oA4 h.nds λ n1 n2 n3 n4=>?_;have k:∀ c o,c≠b->H c=some o->upd H b (.lst (iv g')) c=some o:=λ c o nc hc=>by rw [upd_ne nc];exact hc
 have ntb:¬ zR H b:=λ ⟨xs,hx⟩=>by rw [hu] at hx;cases hx
 refine ⟨k _ _ (λ z=>by rw [<- z,h.hy] at hu;cases hu) h.hy,h.hc.tup λ c o hz hc=>k c o (λ z=>?_) hc,k _ _ (λ z=>n1 (by rw [z];simp [hb])) h.hs,?_,h.nd⟩
 ·subst z;rcases hz with rfl|hz|hz
  ·exact n2 (aH _ (aT _ hb))
  ·exact n4 c hz hb
  ·exact ntb hz
 ·have:=h.hg.put (vs:=iv g') (ys:=g'.map D.int) e ntb reps_ints;rw [show z7 (st.gone.set i g')=(z7 st.gone).set i (g'.map D.int) by simp [z7,du]];exact this.keep (λ _ _ _ hc=>hc) λ c hc _=>Qi hu hc
theorem StO.putS {s':List Int} (h:StO a H y n st):StO a (upd H n.ls (.lst (iv s'))) y n { st with sides:=s' }:=by
 refine oA4 h.nds λ n1 n2 n3 n4=>?_;have k:∀ c o,c≠n.ls->H c=some o->upd H n.ls (.lst (iv s')) c=some o:=λ c o nc hc=>by rw [upd_ne nc];exact hc
 have kt:∀ c,zR H c->c≠n.ls:=λ c ⟨xs,hx⟩ z=>by rw [z,h.hs] at hx;cases hx
 refine ⟨k _ _ (λ z=>by have:=h.hy;rw [z,h.hs] at this;cases this) h.hy,h.hc.tup λ c o hz hc=>k c o (λ z=>?_) hc,upd_same,h.hg.tup λ c o hz hc=>k c o (λ z=>?_) hc,h.nd⟩
 ·rcases hz with rfl|hz|hz
  ·exact n1 (by rw [<- z];simp)
  ·exact n1 (by rw [<- z];simp [hz])
  ·exact kt c hz z
 ·rcases hz with rfl|hz|hz
  ·exact n1 (by rw [<- z];simp)
  ·exact n1 (by rw [<- z];simp [hz])
  ·exact kt c hz z
theorem StO.cell {i:Nat} {c:List zE} (h:StO a H y n st) (e:st.cells[i]?=some c):∃ b vs,n.acs[i]?=some b/\H b=some (.lst vs)/\Reps H (zR H) vs (c.map zQ):=h.hc.at (by rw [zC,ak,e];rfl)
theorem StO.goneL {i:Nat} {g:List Int} (h:StO a H y n st) (e:st.gone[i]?=some g):∃ b,n.ags[i]?=some b/\H b=some (.lst (iv g)):=by
 obtain ⟨b,vs,h1,h2,h3⟩:=h.hg.at (i:=i) (xs:=g.map D.int) (by rw [z7,ak,e];rfl);rw [Qn h3] at h2;exact ⟨b,h1,h2⟩
theorem sff_l {t:Int} {lc ls lg:Addr}:(sff t lc ls lg).lookup ("cells":Str)=some (.ref lc)/\(sff t lc ls lg).lookup ("sides":Str)=some (.ref ls)/\(sff t lc ls lg).lookup ("gone":Str)=some (.ref lg)/\(sff t lc ls lg).lookup ("turn":Str)=some (.int t):=by
 unfold sff;refine iA4 ((zN (by decide +kernel)).trans qR) ((zN (by decide +kernel)).trans ((zN (by decide +kernel)).trans qR)) ((zN (by decide +kernel)).trans ((zN (by decide +kernel)).trans ((zN (by decide +kernel)).trans qR))) qR
theorem Zm {i:Nat} {b:Addr} (e:n.acs[i]?=some b):(n.acs.map V.ref)[i]?=some (.ref b):=by rw [ak,e];rfl
theorem zbf {i:Nat} {b:Addr} (e:n.ags[i]?=some b):(n.ags.map V.ref)[i]?=some (.ref b):=by rw [ak,e];rfl
theorem Wb {b:Addr} {i:Nat} (e:n.acs[i]?=some b):b∈y :: n.all:=by simp [SN.all,ah e]
theorem zeC {b:Addr} {i:Nat} (e:n.ags[i]?=some b):b∈y :: n.all:=by simp [SN.all,ah e]
end
def wy (c:List zE):List zE:=c.set (c.length - 1) none
def z6 (st:PSt) (k:Nat):Option Int->zE × PSt
 | none=>(some ((k:Int),(st.gone.getD k []).headD 0),st)
 | some b=>(wM (zM st.cells b),{ st with cells:=st.cells.set b.toNat (wy (zM st.cells b)) })
theorem Reps.set {H:Hp} {p:Addr->Prop} {vs:List V} {ds:List D} {v:V} {d:D} (h:Reps H p vs ds) (i:Nat) (r:Rep H p v d):Reps H p (vs.set i v) (ds.set i d):=by
 refine ⟨by rw [bT,bT,h.len],λ j u e h1 h2=>?_⟩;by_cases hj:j=i
 ·subst hj;have hl:j < vs.length:=by have:=(aa.mp h1).1;rw [bT] at this;exact this
  rw [ba hl] at h1;rw [ba (by rw [<- h.len];exact hl)] at h2;cases h1;cases h2;exact r
 ·rw [bg (aX hj)] at h1 h2;exact h.g j u e h1 h2
def zaD (a:Ad):Sp:=λ vs H Q _=>∃ (y:Addr) (n:SN) (st:PSt) (k:Nat) (fb:Option Int) (g0:Int) (gs:List Int),vs=[.ref y,.int k,hdV fb]/\StO a H y n st/\st.gone[k]?=some (g0 :: gs)/\(∀ b,fb=some b->∃ i:Nat,b=i/\st.cells[i]?=some (zM st.cells b)/\zM st.cells b≠[]) /\
 ∀ v H',Fr (y :: n.all) H H'->StO a H' y n (z6 st k fb).2->Rep H' (zR H') v (zQ (z6 st k fb).1)->Q v H'
theorem zbX {a:Ad} {vs:List V} {H:Hp} {Q:VK} {E:XK} (y:Addr) (n:SN) (st:PSt) (k:Nat) (fb:Option Int) (g0:Int) (gs:List Int) (q0:vs=[.ref y,.int k,hdV fb]) (q1:StO a H y n st) (q2:st.gone[k]?=some (g0 :: gs)) (q3:(∀ b,fb=some b->∃ i:Nat,b=i/\st.cells[i]?=some (zM st.cells b)/\zM st.cells b≠[])) (q4:∀ v H',Fr (y :: n.all) H H'->StO a H' y n (z6 st k fb).2->Rep H' (zR H') v (zQ (z6 st k fb).1)->Q v H'):zaD a vs H Q E:=⟨y,n,st,k,fb,g0,gs,q0,q1,q2,q3,q4⟩
theorem X6 (T:Txt K mg a):Cal P w K mg base "taken_ware" 1 ["state","number","from_belt"] [] (zaD a):=T.h_taken_ware.cal λ F=>by
 refine F.okx Ju ?_ ?_
 ·walk_at "i"
 walk_at "j";refine oE7 h λ y n st kn fb g0 gs z1_=>oA5 z1_ λ z2_ so hg hf k=>?_;clear h;subst z2_;refine oA4 (sff_l (t:=st.turn) (lc:=n.lc) (ls:=n.ls) (lg:=n.lg)) λ lk1 lk2 lk3 lk4=>?_;walk_at "T";refine ⟨_,(zi (zA (zm je (pq 2) zD (zr _))  (zc (zk (jx (za (pq 1) (za (zw (zw (zj (pq 0) rfl) (pq 1)) zf) zb)))))  zl)  (zi (zp 3 Ju.nd (zw (zw (zj (pq 0) rfl) (pq 2)) (w6 xu zf)))  (zi (ZD zD (ZF (zw (zj (pq 0) rfl) (pq 2)) (w6 xu zf) jE))  (zc (zk (pq 3)))))),?_⟩;walk_at "go";cases fb with
 | none =>
  refine zI (λ _=>?_) (λ b=>absurd rfl b);obtain ⟨bG,hbG,hgG⟩:=so.goneL hg;walk_at "go";refine ra so.hy T.C_State T.N_State_gone lk3 (zu (SqL.of so.hg.out) (zG (zbf hbG)) (zu (SqL.of hgG) at0 ?_));walk_at "go";intro t ht;refine k _ _ (zaq ht) (so.same (ze ht)) ?_;have e:(st.gone.getD kn []).headD 0=g0:=by simp [List.getD,hg]
  show Rep _ _ _ (D.tup [.int kn,.int ((st.gone.getD kn []).headD 0)])
  rw [e];exact Reps.mkT (vs:=[.int kn,.int g0]) (.cons .int (.cons .int .nil)) ⟨_,upd_same⟩ upd_same
 | some b =>
  refine oE1 (hf b rfl) λ i z1_=>oA3 z1_ λ z2_ hc nc=>?_;subst z2_;refine oE2 (so.cell hc) λ bC vs z1_=>oA3 z1_ λ hbC hvC rvC=>?_;have lv:vs.length=(zM st.cells i).length:=by rw [rvC.len,ae]
  have lp:0 < vs.length:=by rw [lv];exact db.mpr nc
  obtain ⟨ve,he,re⟩:=zeR rvC (zaP (d:=.non) (by simpa using nc));rw [WU] at re;refine zI (λ b=>by cases b) (λ _=>?_);walk_at "go";refine ra so.hy T.C_State T.N_State_cells lk1 (zu (SqL.of so.hc.out) (zG (Zm hbC)) ?_);walk_at "go";refine zu (SqL.of hvC) he ?_;walk_at "go";refine ra so.hy T.C_State T.N_State_cells lk1 (zu (SqL.of so.hc.out) (zG (Zm hbC)) ?_);walk_at "go";refine xn (j:=vs.length - 1) hvC ?_ ?_
  ·unfold ixN;rw [aw (by decide),aA (by omega)]
   congr 1
   omega
  have e2:(wy (zM st.cells i)).map zQ=((zM st.cells i).map zQ).set (vs.length - 1) .non:=by
   unfold wy;rw [du,lv]
   rfl
  have r2:Reps H (zR H) (vs.set (vs.length - 1) .non) ((wy (zM st.cells i)).map zQ):=by rw [e2];exact Reps.set rvC _ .non
  refine k _ _ (qj (Wb hbC)) ?_ ?_
  ·have:=so.putC hbC r2;simpa [z6] using this
  ·refine Rep.keep (λ c o pc hc=>⟨Qi hvC pc,?_⟩) re;obtain ⟨xs,hx⟩:=pc;rw [upd_ne (λ z=>by rw [z,hvC] at hx;cases hx)];exact hc
structure Move where
 k:Nat
 ware:zE
 fr:Option Int
 to:Option Int
def zew:Option Int->D
 | none=>.non
 | some b=>.int b
theorem zaI {H:Hp} {p:Addr->Prop} (o:Option Int):Rep H p (hdV o) (zew o):=by
 cases o
 ·exact .non
 ·exact .int
def wn (m:Move):D:=.tup [.int m.k,zQ m.ware,zew m.fr,zew m.to]
def zdB:Option Move->D
 | none=>.non
 | some m=>wn m
def ZE (st:PSt) (x:zE):Option Int->PSt
 | none=>st
 | some b=>{ st with cells:=st.cells.set b.toNat ((zM st.cells b).set 0 x) }
def Jo (g:List Int) (j:Nat):List Int:=g.set j (g.getD j 0 + 1)
def qK (r:Row) (ch:Option Nat × Option Nat × Nat):Option Int:=ch.1.bind λ j=>r.ins[j]?
def vN (r:Row) (ch:Option Nat × Option Nat × Nat):Option Int:=ch.2.1.bind λ j=>r.outs[j]?
def movedF (r:Row) (st:PSt) (k:Nat) (ch:Option Nat × Option Nat × Nat):PSt:=ZE (z6 st k (qK r ch)).2 (z6 st k (qK r ch)).1 (vN r ch)
def Vj (r:Row) (st:PSt) (k:Nat) (ch:Option Nat × Option Nat × Nat):PSt × Move :=
 ({ movedF r st k ch with sides:=(movedF r st k ch).sides.set k ch.2.2,gone:=(movedF r st k ch).gone.set k (Jo ((movedF r st k ch).gone.getD k []) (xj r ch)) },⟨k,(z6 st k (qK r ch)).1,qK r ch,vN r ch⟩)
def jm (rs:List Row) (st:PSt) (k:Nat):PSt × Option Move:=match rs[k]? with
 | none=>(st,none)
 | some r=>match qw r (qz rs st.cells r) (jt st.cells r) st.turn (st.sides.getD k 0).toNat with
  | none=>(st,none)
  | some ch=>((Vj r st k ch).1,some (Vj r st k ch).2)
theorem ZM {bs:List (Int × Int)} {rs:List Row} {cs:List (List zE)} (h:ql bs rs cs) {i:Nat} {c c':List zE} (e:cs[i]?=some c) (l:c'.length=c.length) (k:∀ x∈c',qD rs x):ql bs rs (cs.set i c'):=by
 refine ⟨by rw [bT];exact h.1,λ j b d h1 h2=>?_⟩;by_cases hj:j=i
 ·subst hj;rw [ba (aa.mp e).1] at h2;cases h2;exact ⟨by rw [l];exact (h.2 j b c h1 e).1,k⟩
 ·rw [bg (aX hj)] at h2;exact h.2 j b d h1 h2
theorem wR {rs:List Row}:qD rs none:=λ _ _ z=>nomatch z
theorem wH {α:Type} {xs:List α} {i:Nat} {x y:α} (h:y∈xs.set i x):y∈xs\/y=x:=dR h
theorem ZL {r:Row} {hs:List (Option Int)} {bs:List Bool} {t:Int} {side:Nat} {ch:Option Nat × Option Nat × Nat} (ok:r.ok) (hl:hs.length=r.ins.length) (bl:bs.length=r.outs.length) (sd:j5 r side) (h:qw r hs bs t side=some ch) :
  (∀ j,ch.1=some j->j < r.ins.length)/\(∀ j,ch.2.1=some j->j < r.outs.length)/\(r.wd=.joiner->∃ j,ch.1=some j)/\(ch.1=none->r.wd=.source)/\j5 r ch.2.2/\xj r ch < (qI r).length:=by
 obtain ⟨wd,ins,outs,pace,kinds⟩:=r;have cp:=qS ok;unfold qw at h;cases wd with
 | source =>
  simp only at h;obtain ⟨h1,⟨o,h2⟩,_⟩:=ok;simp only at h1 h2;subst h1 h2
  split at h
  ·cases h;exact ⟨(λ j z=>nomatch z),λ j z=>by cases z;simp,(λ z=>nomatch z),λ _=>rfl,sd,by simp [xj];omega⟩
  ·cases h
 | drain =>
  simp only at h;obtain ⟨⟨o,h1⟩,h2,_⟩:=ok;simp only at h1 h2;subst h1 h2
  split at h
  ·cases h
  ·cases h;exact ⟨λ j z=>by cases z;simp,(λ j z=>nomatch z),(λ z=>nomatch z),(λ z=>nomatch z),sd,by simp [xj];omega⟩
 | parter =>
  simp only at h;obtain ⟨⟨o,h1⟩,h2,h3⟩:=ok;simp only at h1 h2 h3 bl;subst h1
  split at h
  ·cases h
  ·rw [aq] at h;obtain ⟨q,hq,rfl⟩:=h;have hlt:=xK hq;refine ⟨λ j z=>by cases z;simp,λ j z=>by cases z;show q < outs.length;omega,(λ z=>nomatch z),(λ z=>nomatch z),⟨ci _,λ _=>?_,(λ z=>nomatch z),λ z=>absurd rfl z⟩,?_⟩
   ·have:=dN (q + 1) (show 0 < bs.length by omega);show (((q + 1) % bs.length:Nat):Int) < outs.length
    omega
   ·simp only [xj,b5];rw [aw (by decide)];show q < (List.replicate (max 1 outs.length) 0).length
    rw [bj];omega
 | first =>
  simp only at h;obtain ⟨⟨o,h1⟩,h2,h3⟩:=ok;simp only at h1 h2 h3 bl;subst h1
  split at h
  ·cases h
  ·rw [aq] at h;obtain ⟨q,hq,rfl⟩:=h;have hlt:=xK hq;refine ⟨λ j z=>by cases z;simp,λ j z=>by cases z;show q < outs.length;omega,(λ z=>nomatch z),(λ z=>nomatch z),sd,?_⟩;simp only [xj,b5];rw [aw (by decide)];show q < (List.replicate (max 1 outs.length) 0).length
   rw [bj];omega
 | sieve =>
  simp only at h;obtain ⟨⟨o,h1⟩,h2,_⟩:=ok;simp only at h1 h2 bl;subst h1
  split at h
  ·cases h
  ·generalize (if hs.getD 0 none=some (kinds.headD 0) then 0 else 1)=q at h;have q2:q=q:=rfl
   split at h
   ·rename_i hb;cases h;have hlt:q < outs.length:=by
     rcases Nat.lt_or_ge q bs.length with z|z
     ·omega
     ·rw [ap,br z] at hb;cases hb
    refine ⟨λ j z=>by cases z;simp,λ j z=>by cases z;exact hlt,(λ z=>nomatch z),(λ z=>nomatch z),sd,?_⟩;simp only [xj,b5];rw [aw (by decide)];show q < (List.replicate (max 1 outs.length) 0).length
    rw [bj];omega
   ·cases h
 | joiner =>
  simp only at h;obtain ⟨⟨o,h1⟩,h2,h3⟩:=ok;simp only at h1 h2 h3 hl;subst h1
  split at h
  ·rw [aq] at h;obtain ⟨q,hq,rfl⟩:=h;have hlt:=xK hq;rw [ae] at hlt;refine ⟨λ j z=>by cases z;show q < ins.length;omega,λ j z=>by cases z;simp,λ _=>⟨q,rfl⟩,(λ z=>nomatch z),⟨ci _,(λ z=>nomatch z),λ _=>?_,λ _ z=>absurd rfl z⟩,?_⟩
   ·have:=dN (q + 1) (show 0 < hs.length by omega);show (((q + 1) % hs.length:Nat):Int) < ins.length
    omega
   ·simp only [xj,b5];rw [aA trivial];show q < (List.replicate (max ins.length 1) 0).length
    rw [bj];omega
  ·cases h
theorem Qt {bs:List (Int × Int)} {rs:List Row} {st:PSt} {k:Nat} {r:Row} {fb:Option Int} (wf:stWf bs rs st) (wok:qg bs rs) (bo:∀ b∈bs,zy b.1 b.2) (ro:∀ r∈rs,r.ok) (hr:rs[k]?=some r) (hf:∀ b,fb=some b->b∈rgI bs.length) (hn:fb=none->r.wd=.source) :
  stWf bs rs (z6 st k fb).2/\qD rs (z6 st k fb).1:=by
 cases fb with
 | none =>
  refine ⟨wf,λ s n z=>?_⟩;have z:((k:Int),(st.gone.getD k []).headD 0)=(s,n):=aS z;cases z;refine iE2 k r (iA4 rfl hr (hn rfl) ?_);have hk:=(aa.mp hr).1;have hg:st.gone[k]?=some (st.gone.getD k []):=by
   rw [ap,ad (by rw [wf.go.1];exact hk)]
   rfl
  obtain ⟨q1,q2⟩:=wf.go.2 k r _ hr hg;have cp:=qS (ro r (ah hr));cases e:st.gone.getD k [] with
  | nil=>rw [e] at q1;simp at q1;omega
  | cons x xs=>exact q2 x (by rw [e];simp)
 | some b =>
  refine oE1 (wl wf.co bo (hf b rfl)) λ i z1_=>oA5 z1_ λ z2_ hi ei ne wk=>?_;subst z2_;refine ⟨⟨?_,wf.so,wf.go⟩,wk _ (za1 ne)⟩;show ql bs rs (st.cells.set _ _)
  rw [aO];refine ZM wf.co ei (by simp [wy]) λ x hx=>?_;rcases wH hx with h|h
  ·exact wk x h
  ·rw [h];exact wR
theorem WK {bs:List (Int × Int)} {rs:List Row} {st:PSt} {x:zE} {tb:Option Int} (wf:stWf bs rs st) (bo:∀ b∈bs,zy b.1 b.2) (hf:∀ b,tb=some b->b∈rgI bs.length) (hx:qD rs x):stWf bs rs (ZE st x tb):=by
 cases tb with
 | none=>exact wf
 | some b =>
  refine oE1 (wl wf.co bo (hf b rfl)) λ i z1_=>oA5 z1_ λ z2_ hi ei ne wk=>?_;subst z2_;refine ⟨?_,wf.so,wf.go⟩;show ql bs rs (st.cells.set _ _)
  rw [aO];refine ZM wf.co ei (by simp) λ z hz=>?_;rcases wH hz with h|h
  ·exact wk z h
  ·rw [h];exact hx
theorem zcI {rs:List Row} {sds:List Int} {k:Nat} {r:Row} {s:Int} (h:xQ rs sds) (hr:rs[k]?=some r) (hs:j5 r s):xQ rs (sds.set k s):=by
 refine ⟨by rw [bT];exact h.1,λ j r2 s2 h1 h2=>?_⟩;by_cases hj:j=k
 ·subst hj;rw [ba (by rw [h.1];exact (aa.mp h1).1)] at h2;cases h2;rw [hr] at h1;cases h1;exact hs
 ·rw [bg (aX hj)] at h2;exact h.2 j r2 s2 h1 h2
theorem qX {α:Type} {xs:List α} {k:Nat} {d:α} (h:k < xs.length):xs[k]?=some (xs.getD k d):=by
 rw [ap,ad h];rfl
theorem zbd {g:List Int} {j:Nat} (h:∀ x∈g,0<=x):(Jo g j).length=g.length/\∀ x∈Jo g j,0<=x:=by
 refine ⟨by simp [Jo],λ x hx=>?_⟩;rcases wH hx with z|z
 ·exact h x z
 ·rw [z];have:0<=g.getD j 0:=by
   rw [ap];cases e:g[j]? with
   | none=>simp
   | some v=>exact h v (ah e)
  omega
theorem zeD {bs:List (Int × Int)} {rs:List Row} {st:PSt} {k:Nat} (wf:stWf bs rs st) (wok:qg bs rs) (bo:∀ b∈bs,zy b.1 b.2) (ro:∀ r∈rs,r.ok):stWf bs rs (jm rs st k).1:=by
 unfold jm;cases hr:rs[k]? with
 | none=>exact wf
 | some r =>
  simp only;have hk:=(aa.mp hr).1;have ok:=ro r (ah hr);have hsd:=wf.so.2 k r _ hr (qX (d:=0) (by rw [wf.so.1];exact hk));have hsd':j5 r ((st.sides.getD k 0).toNat:Int):=by rw [cH hsd.1];exact hsd
  cases hc:qw r (qz rs st.cells r) (jt st.cells r) st.turn (st.sides.getD k 0).toNat with
  | none=>exact wf
  | some ch =>
   refine oA6 (ZL ok (by simp [qz]) (by simp [jt]) hsd' hc) λ c1 c2 c3 c4 c5 c6=>?_;have hfb:∀ b,qK r ch=some b->b∈rgI bs.length:=λ b hb=>by
    unfold qK at hb;obtain ⟨j,hj1,hj2⟩:=bP.mp hb;exact Zc wok hr (ah hj2)
   have htb:∀ b,vN r ch=some b->b∈rgI bs.length:=λ b hb=>by
    unfold vN at hb;obtain ⟨j,hj1,hj2⟩:=bP.mp hb;exact QS wok hr (ah hj2)
   have hfn:qK r ch=none->r.wd=.source:=λ hb=>by
    cases e:ch.1 with
    | none=>exact c4 e
    | some j =>
     unfold qK at hb;rw [e] at hb;simp at hb;have:=c1 j e;omega
   obtain ⟨w1,w2⟩:=Qt wf wok bo ro hr hfb hfn;have w3:=WK w1 bo htb w2;refine ⟨w3.co,zcI w3.so hr c5,?_⟩;have hg:=qX (xs:=(movedF r st k ch).gone) (k:=k) (d:=[]) (by rw [show (movedF r st k ch).gone.length=rs.length from w3.go.1];exact hk);obtain ⟨q1,q2⟩:=w3.go.2 k r _ hr hg;exact zdr w3.go hg (zbd q2).1 (zbd q2).2
theorem KnP.no {H:Hp} {p:Addr->Prop} {y C dx:Addr} {fs:List (Str × V)} {r:Row} {f:Str} (h:KnP a H p (.ref y) r) (hy:H y=some (.ins C dx fs)) (h1:f≠"ins") (h2:f≠"outs") (h3:f≠"pace") (h4:f≠"kinds") (h5:f≠"kind"):fs.lookup f=none:=by
 refine oE3 (Rep.ob' h) λ y' dx' fs' z1_=>oA5 z1_ λ e _ hy' _ g=>?_;cases e;rw [hy] at hy';cases hy';exact g f (zdh h1 h2 h3 h4 h5)
theorem StO.offT {H:Hp} {y:Addr} {n:SN} {st:PSt} (h:StO a H y n st) {b:Addr} (t:zR H b):b ∉ y :: n.all:=by
 obtain ⟨xs,hx⟩:=t;intro hb;have no:∀ us,H b≠some (.lst us):=λ us e=>by rw [hx] at e;cases e
 unfold SN.all at hb;rcases ay.mp hb with rfl|hb
 ·rw [h.hy] at hx;cases hx
 rcases ay.mp hb with rfl|hb
 ·exact no _ h.hs
 rcases ay.mp hb with rfl|hb
 ·exact no _ h.hc.out
 rcases ay.mp hb with rfl|hb
 ·exact no _ h.hg.out
 rcases az.mp hb with hb|hb
 ·obtain ⟨us,e⟩:=h.hc.isl (aH _ hb);exact no _ e
 ·obtain ⟨us,e⟩:=h.hg.isl (aH _ hb);exact no _ e
theorem StO.repT {H H':Hp} {y:Addr} {n:SN} {st:PSt} (h:StO a H y n st) (s:Fr (y :: n.all) H H') {v:V} {d:D} (r:Rep H (zR H) v d):Rep H' (zR H') v d :=
 Rep.keep (λ b o hp hb=>⟨by obtain ⟨xs,hx⟩:=hp;exact ⟨xs,s _ _ (h.offT ⟨xs,hx⟩) hx⟩,s _ _ (h.offT hp) hb⟩) r
theorem XV (ns:List Int) (k:Nat) (x:Int):(iv ns).set k (.int x)=iv (ns.set k x):=by simp [iv]
theorem zbC {H H':Hp} {v:V} {d:D} (r:Rep H (zR H) v d) (s:Same H H'):Rep H' (zR H') v d:=Rep.keep (λ b o ⟨xs,hx⟩ hb=>⟨⟨xs,s _ _ hx⟩,s _ _ hb⟩) r
def zcH (a:Ad):Sp:=λ vs H Q _=>∃ (vw:V) (y:Addr) (n:SN) (st:PSt) (k:Nat) (bs:List (Int × Int)) (rs:List Row),vs=[vw,.ref y,.int k]/\Rep H (Off (y :: n.all)) vw (qk a bs rs)/\StO a H y n st/\stWf bs rs st/\qg bs rs/\(∀ b∈bs,zy b.1 b.2)/\(∀ r∈rs,r.ok)/\k < rs.length /\
 ∀ v H',Fr (y :: n.all) H H'->StO a H' y n (jm rs st k).1->Rep H' (zR H') v (zdB (jm rs st k).2)->Q v H'
theorem zep {a:Ad} {vs:List V} {H:Hp} {Q:VK} {E:XK} (vw:V) (y:Addr) (n:SN) (st:PSt) (k:Nat) (bs:List (Int × Int)) (rs:List Row) (q0:vs=[vw,.ref y,.int k]) (q1:Rep H (Off (y :: n.all)) vw (qk a bs rs)) (q2:StO a H y n st) (q3:stWf bs rs st) (q4:qg bs rs) (q5:(∀ b∈bs,zy b.1 b.2)) (q6:(∀ r∈rs,r.ok)) (q7:k < rs.length) (q8:∀ v H',Fr (y :: n.all) H H'->StO a H' y n (jm rs st k).1->Rep H' (zR H') v (zdB (jm rs st k).2)->Q v H'):zcH a vs H Q E:=⟨vw,y,n,st,k,bs,rs,q0,q1,q2,q3,q4,q5,q6,q7,q8⟩
theorem zfj (T:Txt K mg a) (F:Fun K "act" "act" WD f fd):FnOk P w K mg base (CXr P w) 4 f fd ["work","state","number"] (zcH a):=by
 refine F.okx ze6 ?_ ?_
 ·walk_at "i"
 walk_at "j";refine oE7 h λ vw y n st kn bs rs z1_=>oA9 z1_ λ z2_ hw so wf wok bo ro hk k=>?_;clear h;subst z2_;refine oE7 (qL hw) λ yw dw fw l1 l2 bvs kvs z1_=>oA9 z1_ λ z2_ hyw ew1 ew2 hl1 hl2 hB hK no=>?_;subst z2_;obtain ⟨r,hr'⟩:∃ r,rs[kn]?=some r:=⟨rs[kn],ad hk⟩;have ok:=ro r (ah hr');have rl:=vS ok;obtain ⟨kv,hkv,hKn⟩:=Qm hK hr';refine oE6 hKn.inv λ y1 dx1 m1 m2 m3 fs1 z1_=>oA9 z1_ λ z2_ _ _ _ _ g0 f1 f2 z3_=>oA5 z3_ λ _ g1 g2 _ _=>?_;subst z2_;have fno:=hKn.no (f:="choice") g0 (by decide +kernel) (by decide +kernel) (by decide +kernel) (by decide +kernel) (by decide +kernel);have hsd:=wf.so.2 kn r _ hr' (qX (d:=0) (by rw [wf.so.1];exact hk));obtain ⟨side,esd⟩:∃ sd:Nat,st.sides.getD kn 0=sd:=⟨(st.sides.getD kn 0).toNat,(cH hsd.1).symm⟩;have hside:st.sides[kn]?=some (side:Int):=by rw [<- esd];exact qX (by rw [wf.so.1];exact hk)
 have hsd':j5 r (side:Int):=by rw [<- esd];exact hsd
 have esd':(st.sides.getD kn 0).toNat=side:=by rw [esd];rfl
 refine oA4 (sff_l (t:=st.turn) (lc:=n.lc) (ls:=n.ls) (lg:=n.lg)) λ lk1 lk2 lk3 lk4=>?_;have hAct:∀ x,qw r (qz rs st.cells r) (jt st.cells r) st.turn side=x->jm rs st kn=match x with|none=>(st,none)|some ch=>((Vj r st kn ch).1,some (Vj r st kn ch).2):=λ x e=>by
  unfold jm;rw [hr'];simp only;rw [esd',e]
  all_goals (cases x <;> rfl)
 walk_at "T";refine ⟨_,(zg (zp 3 ze6.nd (zw (zj (pq 0) rfl) (pq 2)))  (zg (ZS (i:=4) ze6.nd rfl (Or.inl rfl) (vars:=["belt"]) (caps:=[1]) (N:=["belt","state"]) (ON:=["work","state","number","knot","free","chosen","from_belt","to_belt","ware"]) (osc:=zd WD) rfl rfl (by first|decide +kernel|kernel_rfl) rfl rfl (z9 (zj (pq 3) rfl)) (λ s H fp pins=>(zW 0 (show (["belt","state"]:List Str).Nodup from by decide +kernel))) (λ s H fp pins=>qc) (λ s H fp pins=>(vX op_isN (zw (zw (zj (pq 1) rfl) (pq 0)) zf) zD (zr _))))  (zg (zp 5 ze6.nd (zcW ⟨rfl,rfl,rfl⟩ hr (pq 3) (za (zt ⟨rfl,rfl,rfl⟩ hr (za (pq 0) (za (pq 1) (za (pq 3) zb)))) (za (pq 4) (za (zj (pq 1) rfl) (za (zw (zj (pq 1) rfl) (pq 2)) zb))))))  (zg (zA (zm je (pq 5) zD (zr _))  (zc (zk zD))  zl)  (zg (zp 6 ze6.nd (zt ⟨rfl,rfl,rfl⟩ hr (za (zj (pq 3) rfl) (za (zw (pq 5) zf) zb))))  (zg (zp 7 ze6.nd (zt ⟨rfl,rfl,rfl⟩ hr (za (zj (pq 3) rfl) (za (zw (pq 5) zf) zb))))  (zg (zp 8 ze6.nd (zt ⟨rfl,rfl,rfl⟩ hr (za (pq 1) (za (pq 2) (za (pq 6) zb)))))  (zK (zA (zm zaL (pq 7) zD (zr _))  (zc (ZD (pq 8) (ZF (zw (zj (pq 1) rfl) (pq 7)) zf jE)))  zl)  (zg (ZD (zw (pq 5) zf) (ZF (zj (pq 1) rfl) (pq 2) jE))  (zg (zaJ (zw (zj (pq 1) rfl) (pq 2)) (zt ⟨rfl,rfl,rfl⟩ hr (za (pq 3) (za (pq 5) zb))) Vg zf zak jE)  (zc (zk (jx (za (pq 2) (za (pq 8) (za (pq 6) (za (pq 7) zb))))))))))))))))),?_⟩;walk_at "go";refine ra hyw T.C_Work T.N_Work_knots ew2 (zu (SqL.of hl2) (zG hkv) ?_);walk_at "go";walk_at "lc";walk_at "go";refine ra g0 (CT T _) (NO T _) f2 ⟨m2,rfl,.inl ⟨⟨_,SqL.of g2⟩,λ _ _ _ _ acc hacc=>?_⟩⟩;refine qG (K:=K) (a:=m2) (xs:=iv r.outs) (λ i σ H'=>∃ (v0:Option V),σ=[v0,some (.ref y)]/\Same H H'/\H' acc=some (.lst (((jt st.cells r).take i).map V.bl))) ⟨_,iA3 rfl (ze hacc) (by rw [cC];exact upd_same)⟩ (λ i σ H' _ h=>by obtain ⟨_,_,s,_⟩:=h;exact SqL.of (s _ _ g2)) ?_ ?_
 ·intro i x σ H2 hi zz_;refine oE1 zz_ λ v0 z1_=>oA3 z1_ λ z2_ s2 ha=>?_;clear zz_;subst z2_;obtain ⟨b,hb,rfl⟩:=xH hi;have hil:=(aa.mp hb).1;refine oE1 (wl wf.co bo (QS wok hr' (ah hb))) λ j z1_=>oA5 z1_ λ z2_ hj ej nej _=>?_;subst z2_;refine oE2 (so.cell ej) λ bC vs z1_=>oA3 z1_ λ hbC hvC rvC=>?_;obtain ⟨c0,cs,ec⟩:∃ c0 cs,zM st.cells j=c0 :: cs:=bZ nej;have hfr:(jt st.cells r)[i]?=some (decide (c0=none)):=by rw [jt,ak,hb];simp [ec,zey]
  rw [ec] at rvC;obtain ⟨v1,hv1,rv1⟩:=rvC.of (i:=0) (d:=zQ c0) rfl;walk_at "go";refine ra (s2 _ _ so.hy) T.C_State T.N_State_cells lk1 (zu (SqL.of (s2 _ _ so.hc.out)) (zG (Zm hbC)) (zu (SqL.of (s2 _ _ hvC)) (zG (j:=0) hv1) ?_));walk_at "go";have ev:decide (v1=V.non)=decide (c0=none):=by
   cases c0 with
   | none=>cases rv1;rfl
   | some x=>obtain ⟨t,us,rfl,_⟩:=Rep.tup' rv1;rfl
  rw [ev];refine ⟨_,iA3 ha (zh (by rw [ae,aI];omega)) ⟨_,iA3 rfl (λ b o hb=>by rw [upd_ne (ne_of_none hb hacc)];exact s2 b o hb) ?_⟩⟩;rw [upd_same,aF,hfr,aV]
  rfl
 intro σ H2 zz_;refine oE1 zz_ λ v0 z1_=>oA3 z1_ λ z2_ s2 ha=>?_;clear zz_;subst z2_;rw [zn,cz (by simp [jt])] at ha;walk_at "go";refine iE7 y1 (jY a r.wd) dx1 fs1 _ _ _ (iA5 rfl (s2 _ _ g0) fno ((zdb T r.wd).mono) ?_);refine uc (zax T).mono (zbY _ _ _ bs rs st kn r _ _ rfl (qM hw s2) ((so.same s2).rep) (qM hKn s2) hr' wok bo ro wf.co (λ hl H3 s3 nhl hhl=>?_));have s23:=s2.trans s3;refine ra (s23 _ _ so.hy) T.C_State T.N_State_turn lk4 ?_;refine ra (s23 _ _ so.hy) T.C_State T.N_State_sides lk2 (zu (SqL.of (s23 _ _ so.hs)) (zG (jf hside)) ?_);refine iE5 y1 hl acc r _ (iE4 (qz rs st.cells r) (jt st.cells r) st.turn side (iA9 rfl (qM hKn s23) rfl ok hhl (s3 _ _ ha) (by simp [qz]) (by simp [jt]) (λ vc H4 s4 tc=>?_)));have s24:=s23.trans s4;have so4:=so.same s24;have hKn4:=qM hKn s24;walk_at "go";cases hc:qw r (qz rs st.cells r) (jt st.cells r) st.turn side with
 | none =>
  rw [hc] at tc;have tc:vc=.non:=tc;subst tc;have e:=hAct _ hc;refine zI (λ _=>?_) (λ b=>absurd rfl b);walk_at "go";refine k _ _ s24.fr ?_ ?_
  ·rw [e];exact so4
  ·rw [e];exact .non
 | some ch =>
  rw [hc] at tc;obtain ⟨ct,rfl,hct⟩:=tc;have e:=hAct _ hc;refine oA6 (ZL ok (by simp [qz]) (by simp [jt]) hsd' hc) λ c1 c2 c3 c4 c5 c6=>?_;have hfb:∀ b,qK r ch=some b->b∈rgI bs.length:=λ b hb=>by
   unfold qK at hb;obtain ⟨j,hj1,hj2⟩:=bP.mp hb;exact Zc wok hr' (ah hj2)
  have htb:∀ b,vN r ch=some b->b∈rgI bs.length:=λ b hb=>by
   unfold vN at hb;obtain ⟨j,hj1,hj2⟩:=bP.mp hb;exact QS wok hr' (ah hj2)
  have hfn:qK r ch=none->r.wd=.source:=λ hb=>by
   cases e:ch.1 with
   | none=>exact c4 e
   | some j =>
    unfold qK at hb;rw [e] at hb;simp at hb;have:=c1 j e;omega
  obtain ⟨w1,w2⟩:=Qt wf wok bo ro hr' hfb hfn;have w3:=WK w1 bo htb w2;have hg0:=qX (xs:=st.gone) (k:=kn) (d:=[]) (by rw [wf.go.1];exact hk);obtain ⟨q1,q2⟩:=wf.go.2 kn r _ hr' hg0;have cp:=qS ok;obtain ⟨g0',gs,eg⟩:∃ g0 gs,st.gone.getD kn []=g0 :: gs:=bZ λ z=>by rw [z] at q1;simp at q1;omega
  rw [eg] at hg0;refine zI (λ b=>by cases b) (λ _=>?_);walk_at "go";refine uc (Xc T).mono (ra (s24 _ _ g0) (CT T _) (NI T _) f1 (rd_ixT hct at0 ?_));refine iE3 m1 r.ins ch.1 (iA4 rfl (s24 _ _ g1) c1 ?_);walk_at "go";refine uc (Xc T).mono (ra (s24 _ _ g0) (CT T _) (NO T _) f2 (rd_ixT hct (show atI (chV ch) 1=some (wX ch.2.1) from rfl) ?_));refine iE3 m2 r.outs ch.2.1 (iA4 rfl (s24 _ _ g2) c2 ?_);walk_at "go";refine uc (X6 T).mono (zbX y n st kn (qK r ch) g0' gs rfl so4 hg0 (λ b hb=>?_) (λ v5 H5 f5 so5 rv5=>?_))
  ·refine oE1 (wl wf.co bo (hfb b hb)) λ i z1_=>oA5 z1_ λ e1 _ e2 e3 _=>?_;exact ⟨i,iA3 e1 e2 e3⟩
  have hct5:=f5 _ _ (so4.offT ⟨_,hct⟩) hct;have hKn5:=hKn4.fr f5;have fr5:=(s24.fr (ms:=y :: n.all)).trans f5;rw [show (ch.1.bind λ j=>r.ins[j]?)=qK r ch from rfl,show (ch.2.1.bind λ j=>r.outs[j]?)=vN r ch from rfl];walk_at "go";refine cut (λ σ' H'=>σ'=[some (.ref yw),some (.ref y),some (.int kn),some (.ref y1),some (.ref acc),some (.ref ct),some (hdV (qK r ch)),some (hdV (vN r ch)),some v5]/\Fr (y :: n.all) H5 H'/\StO a H' y n (movedF r st kn ch)) ?_ ?_
  ·have w4:=λ b (hb:vN r ch=some b)=>wl w1.co bo (htb b hb);unfold movedF;generalize vN r ch=tb at w4 ⊢;walk_at "go";cases tb with
   | none =>
    refine zI (λ b=>absurd rfl b) (λ _=>?_);walk_at "go";exact ⟨.refl,so5⟩
   | some b =>
    refine oE1 (w4 b rfl) λ i z1_=>oA5 z1_ λ z2_ _ e2 e3 _=>?_;subst z2_;refine oE2 (so5.cell e2) λ bC vs z1_=>oA3 z1_ λ hbC hvC rvC=>?_;have lv:vs.length=(zM (z6 st kn (qK r ch)).2.cells i).length:=by rw [rvC.len,ae]
    have lp:0 < vs.length:=by rw [lv];exact db.mpr e3
    refine zI (λ _=>?_) (λ b=>absurd (λ z=>by cases z) b);walk_at "go";refine ra so5.hy T.C_State T.N_State_cells sff_l.1 (zu (SqL.of so5.hc.out) (zG (Zm hbC)) ?_);walk_at "go";refine xn (j:=0) hvC (vE (by decide) (by simpa using lp)) ?_;refine ⟨qj (Wb hbC),?_⟩;have:=so5.putC hbC (c':=(zM (z6 st kn (qK r ch)).2.cells i).set 0 (z6 st kn (qK r ch)).1) (by rw [du];exact Reps.set rvC 0 rv5);simpa [ZE] using this
  rintro σ H6 ⟨rfl,f6,so6⟩;have hct6:=f6 _ _ (so5.offT ⟨_,hct5⟩) hct5;have hKn6:=hKn5.fr f6;have rv6:=so5.repT f6 rv5;have fr6:=fr5.trans f6;walk_at "go";refine rd_ixT hct6 (show atI (chV ch) 2=some (.int ch.2.2) from rfl) ?_;walk_at "go";refine ra so6.hy T.C_State T.N_State_sides sff_l.2.1 (xn so6.hs (vE (ci _) (by rw [zn,show (movedF r st kn ch).sides.length=rs.length from w3.so.1];exact Int.ofNat_lt.mpr hk)) ?_);rw [aO,XV];have so7:=so6.putS (s':=(movedF r st kn ch).sides.set kn ch.2.2);have f7:Fr (y :: n.all) H6 (upd H6 n.ls (.lst (iv ((movedF r st kn ch).sides.set kn ch.2.2)))):=qj (by simp [SN.all]);have hct7:=f7 _ _ (so6.offT ⟨_,hct6⟩) hct6;have hKn7:=hKn6.fr f7;have rv7:=so6.repT f7 rv6;have fr7:=fr6.trans f7;generalize upd H6 n.ls (.lst (iv ((movedF r st kn ch).sides.set kn ch.2.2)))=H7 at so7 hct7 hKn7 rv7 fr7 ⊢;have hg7:=qX (xs:=(movedF r st kn ch).gone) (k:=kn) (d:=[]) (by rw [show (movedF r st kn ch).gone.length=rs.length from w3.go.1];exact hk);obtain ⟨p1,p2⟩:=w3.go.2 kn r _ hr' hg7;obtain ⟨bG,hbG,hgG⟩:=so7.goneL hg7;have e0:Vj r st kn ch=({ movedF r st kn ch with sides:=(movedF r st kn ch).sides.set kn ch.2.2,gone:=(movedF r st kn ch).gone.set kn (Jo ((movedF r st kn ch).gone.getD kn []) (xj r ch)) },⟨kn,(z6 st kn (qK r ch)).1,qK r ch,vN r ch⟩):=rfl;have so8:=so7.putG (g':=Jo ((movedF r st kn ch).gone.getD kn []) (xj r ch)) hbG;generalize (movedF r st kn ch).gone.getD kn []=g at *;have hcp:xj r ch < g.length:=by rw [p1];exact c6
  walk_at "go";unfold zct;walk_at "go";refine ra so7.hy T.C_State T.N_State_gone sff_l.2.2.1 (zu (SqL.of so7.hg.out) (zG (zbf hbG)) ?_);walk_at "go";refine uc (Qh T).mono (Vd _ ct r ch _ rfl hKn7 hct7 c3 ?_);refine iE4 bG _ (xj r ch) _ (iA6 rfl rfl (SqL.of hgG) (ci _) (zG (jf (qX (d:=0) hcp))) ?_);walk_at "go";refine xn hgG (vE (ci _) (by rw [zn];exact Int.ofNat_lt.mpr hcp)) ?_;rw [aO,XV];have f8:Fr (y :: n.all) H7 (upd H7 bG (.lst (iv (g.set (xj r ch) (g.getD (xj r ch) 0 + 1))))):=qj (zeC hbG);have rv8:=so7.repT f8 rv7;change StO a (upd H7 bG (.lst (iv (g.set (xj r ch) (g.getD (xj r ch) 0 + 1))))) y n _ at so8;have fr8:=fr7.trans f8;generalize e8:upd H7 bG (.lst (iv (g.set (xj r ch) (g.getD (xj r ch) 0 + 1))))=H8 at so8 f8 rv8 fr8 ⊢;walk_at "go";intro t ht;refine k _ _ (fr8.trans (zaq ht)) ?_ ?_
  ·rw [e];simp only;rw [e0];exact so8.same (ze ht)
  ·rw [e];simp only;rw [e0];exact Reps.mkT (vs:=[.int kn,v5,hdV (qK r ch),hdV (vN r ch)]) (.cons .int (.cons (zbC rv8 (ze ht)) (.cons (zaI _) (.cons (zaI _) .nil)))) ⟨_,upd_same⟩ upd_same
theorem zgm (T:Txt K mg a):Cal P w K mg base "act" 4 ["work","state","number"] [] (zcH a):=T.h_act.cal (zfj T)
def zx (rs:List Row) (st:PSt):Nat->PSt × List Move
 | 0=>(st,[])
 | i + 1=>((jm rs (zx rs st i).1 i).1,(zx rs st i).2 ++ (jm rs (zx rs st i).1 i).2.toList)
theorem jZ {bs:List (Int × Int)} {rs:List Row} {st:PSt} (wf:stWf bs rs st) (wok:qg bs rs) (bo:∀ b∈bs,zy b.1 b.2) (ro:∀ r∈rs,r.ok):∀ i,stWf bs rs (zx rs st i).1
 | 0=>wf
 | i + 1=>zeD (jZ wf wok bo ro i) wok bo ro
theorem Jp (rs:List Row) (st:PSt):∀ i,(zx rs st i).2.length<=i
 | 0=>av _
 | i + 1=>by
  have:=Jp rs st i;show ((zx rs st i).2 ++ (jm rs (zx rs st i).1 i).2.toList).length<=i + 1
  rw [aQ];cases (jm rs (zx rs st i).1 i).2 with
  | none=>exact Nat.le_succ_of_le this
  | some _=>exact Nat.succ_le_succ this
section
variable {H H':Hp} {y:Addr} {n:SN} {st:PSt}
theorem StO.offN (h:StO a H y n st) {b:Addr} (e:H b=none):b ∉ y :: n.all:=by
 have no:∀ o,H b≠some o:=λ o z=>by rw [e] at z;cases z
 intro hb;unfold SN.all at hb;rcases ay.mp hb with rfl|hb
 ·exact no _ h.hy
 rcases ay.mp hb with rfl|hb
 ·exact no _ h.hs
 rcases ay.mp hb with rfl|hb
 ·exact no _ h.hc.out
 rcases ay.mp hb with rfl|hb
 ·exact no _ h.hg.out
 rcases az.mp hb with hb|hb
 ·obtain ⟨us,z⟩:=h.hc.isl (aH _ hb);exact no _ z
 ·obtain ⟨us,z⟩:=h.hg.isl (aH _ hb);exact no _ z
theorem StO.out {M:Addr} {us vs:List V} (h:StO a H y n st) (e:H M=some (.lst us)) (nM:M ∉ y :: n.all):StO a (upd H M (.lst vs)) y n st:=by
 have k:∀ c o,c≠M->H c=some o->upd H M (.lst vs) c=some o:=λ c o nc hc=>by rw [upd_ne nc];exact hc
 have kt:∀ c,zR H c->c≠M:=λ c ⟨xs,hx⟩ z=>by rw [z,e] at hx;cases hx
 refine ⟨k _ _ (λ z=>nM (by rw [<- z];simp)) h.hy,h.hc.tup λ c o hz hc=>k c o (λ z=>?_) hc,k _ _ (λ z=>nM (by rw [<- z];simp [SN.all])) h.hs,h.hg.tup λ c o hz hc=>k c o (λ z=>?_) hc,h.nd⟩
 ·rcases hz with rfl|hz|hz
  ·exact nM (by rw [<- z];simp [SN.all])
  ·exact nM (by rw [<- z];simp [SN.all,hz])
  ·exact kt c hz z
 ·rcases hz with rfl|hz|hz
  ·exact nM (by rw [<- z];simp [SN.all])
  ·exact nM (by rw [<- z];simp [SN.all,hz])
  ·exact kt c hz z
theorem StO.repsT (h:StO a H y n st) (s:Fr (y :: n.all) H H') {vs:List V} {ds:List D} (r:Reps H (zR H) vs ds):Reps H' (zR H') vs ds :=
 ⟨r.len,λ i v d h1 h2=>h.repT s (r.g i v d h1 h2)⟩
theorem WG {M:Addr} {us vs:List V} (e:H M=some (.lst us)) {v:V} {d:D} (r:Rep H (zR H) v d):Rep (upd H M (.lst vs)) (zR (upd H M (.lst vs))) v d :=
 Rep.keep (λ b o hp hb=>⟨Qi e hp,by obtain ⟨xs,hx⟩:=hp;rw [upd_ne (λ z=>by rw [z,e] at hx;cases hx)];exact hb⟩) r
theorem zbB {M:Addr} {us vs:List V} (e:H M=some (.lst us)) {ws:List V} {ds:List D} (r:Reps H (zR H) ws ds):Reps (upd H M (.lst vs)) (zR (upd H M (.lst vs))) ws ds :=
 ⟨r.len,λ i v d h1 h2=>WG e (r.g i v d h1 h2)⟩
end
def Ws (a:Ad):Sp:=λ vs H Q _=>∃ (vw:V) (y:Addr) (n:SN) (st:PSt) (bs:List (Int × Int)) (rs:List Row),vs=[vw,.ref y]/\Rep H (Off (y :: n.all)) vw (qk a bs rs)/\StO a H y n st/\stWf bs rs st/\qg bs rs/\(∀ b∈bs,zy b.1 b.2)/\(∀ r∈rs,r.ok) /\
 ∀ l us H',Fr (y :: n.all) H H'->StO a H' y n (zx rs st rs.length).1->H l=none->l ∉ y :: n.all->H' l=some (.lst us)->Reps H' (zR H') us ((zx rs st rs.length).2.map wn)->Q (.ref l) H'
theorem zao {a:Ad} {vs:List V} {H:Hp} {Q:VK} {E:XK} (vw:V) (y:Addr) (n:SN) (st:PSt) (bs:List (Int × Int)) (rs:List Row) (q0:vs=[vw,.ref y]) (q1:Rep H (Off (y :: n.all)) vw (qk a bs rs)) (q2:StO a H y n st) (q3:stWf bs rs st) (q4:qg bs rs) (q5:(∀ b∈bs,zy b.1 b.2)) (q6:(∀ r∈rs,r.ok)) (q7:∀ l us H',Fr (y :: n.all) H H'->StO a H' y n (zx rs st rs.length).1->H l=none->l ∉ y :: n.all->H' l=some (.lst us)->Reps H' (zR H') us ((zx rs st rs.length).2.map wn)->Q (.ref l) H'):Ws a vs H Q E:=⟨vw,y,n,st,bs,rs,q0,q1,q2,q3,q4,q5,q6,q7⟩
theorem Xd (T:Txt K mg a):Cal P w K mg base "act_all" 5 ["work","state"] [] (Ws a):=T.h_act_all.cal λ F=>by
 refine F.okx VQ ?_ ?_
 ·walk_at "i"
 walk_at "j";refine oE6 h λ vw y n st bs rs z1_=>oA8 z1_ λ z2_ hw so wf wok bo ro k=>?_;clear h;subst z2_;refine oE7 (qL hw) λ yw dw fw l1 l2 bvs kvs z1_=>oA9 z1_ λ z2_ hyw ew1 ew2 hl1 hl2 hB hK no=>?_;subst z2_;have lk:kvs.length=rs.length:=hK.len;have r24:=wok.1.2.2;walk_at "T";refine ⟨_,(zi (zp 2 VQ.nd (zO zb))  (zK (qh qF rfl (x9 (za (zP zY zX (za (zj (pq 0) rfl) zb)) zb)) (zW 3 VQ.nd)  (zi (zp 4 VQ.nd (zt ⟨rfl,rfl,rfl⟩ hr (za (pq 0) (za (pq 1) (za (pq 3) zb)))))  (zc (zA (zm zaL (pq 4) zD (zr _))  (zc (zo (qp aj ao am zz (pq 2) (za (pq 4) zb))))  zl))))  (zc (zk (pq 2))))),?_⟩;walk_at "go";intro M hM;have nM:=so.offN hM;have s1:=ze (o:=.lst []) hM;have hM1:upd H M (.lst []) M=some (.lst []):=upd_same;generalize upd H M (.lst [])=H1 at s1 hM1 ⊢;walk_at "go";refine cut (λ σ' H'=>∃ (v3 v4:Option V) (us:List V),σ'=[some (.ref yw),some (.ref y),some (.ref M),v3,v4]/\Fr (y :: n.all) H H'/\StO a H' y n (zx rs st rs.length).1/\H' M=some (.lst us)/\Reps H' (zR H') us ((zx rs st rs.length).2.map wn)) ?_ ?_
 ·walk_at "for";walk_at "go";refine ra (s1 _ _ hyw) T.C_Work T.N_Work_knots ew2 ?_;refine ⟨_,.inl ⟨_,SqL.of (s1 _ _ hl2),rfl⟩,?_⟩;rw [lk];walk_at "go";refine ⟨by omega,by omega,?_⟩;refine Zd (n:=(rs.length:Int).toNat) (λ i σ H'=>∃ (v3 v4:Option V) (us:List V),σ=[some (.ref yw),some (.ref y),some (.ref M),v3,v4]/\Fr (y :: n.all) H H'/\StO a H' y n (zx rs st i).1/\H' M=some (.lst us)/\Reps H' (zR H') us ((zx rs st i).2.map wn)) (iE3 _ _ _ (iA5 rfl s1.fr (so.same s1) hM1 (.nil))) ?_ (λ σ H' h=>?_)
  ·intro i σ H2 hi zz_;refine oE3 zz_ λ v3 v4 us z1_=>oA5 z1_ λ z2_ f2 so2 hM2 r2=>?_;clear zz_;subst z2_;have hi:i < rs.length:=by simpa using hi
   have al:=Jp rs st i;have lu:us.length=(zx rs st i).2.length:=by rw [r2.len,ae]
   walk_at "go";simp only [Int.zero_add];refine uc (zgm T).mono (zep (.ref yw) y n _ i bs rs rfl (hw.fr f2) so2 (jZ wf wok bo ro i) wok bo ro hi (λ v H3 f3 so3 rv=>?_));have f23:=f2.trans f3;have hM3:=f3 _ _ nM hM2;have r3:=so2.repsT f3 r2;have eA:zx rs st (i + 1)=((jm rs (zx rs st i).1 i).1,(zx rs st i).2 ++ (jm rs (zx rs st i).1 i).2.toList):=rfl;walk_at "go";cases e:(jm rs (zx rs st i).1 i).2 with
   | none =>
    rw [e] at rv eA;cases rv;refine zI (λ b=>absurd rfl b) (λ _=>?_);rw [eA];exact iE3 _ _ _ (iA5 rfl f23 so3 hM3 (by rw [show (none:Option Move).toList=[] from rfl,cF];exact r3))
   | some m =>
    rw [e] at rv eA;refine zI (λ _=>?_) (λ b=>?_)
    ·walk_at "go";refine ⟨.inl ⟨rfl,_,SqL.of hM3⟩,iE3 M _ _ (iA5 rfl rfl hM3 (zh (by omega)) (iE3 _ _ _ (iA5 rfl (λ b o nb hb=>by rw [upd_ne (ne_of_none hb hM)];exact f23 b o nb hb) ?_ upd_same ?_)))⟩
     ·rw [eA];exact so3.out hM3 nM
     ·rw [eA];show Reps _ _ _ (List.map wn ((zx rs st i).2 ++ [m]))
      rw [aV];exact (zbB hM3 r3).append (Reps.one (WG hM3 rv))
    ·exfalso;refine b λ z=>?_;subst z;cases rv
  ·have e:((rs.length:Int)).toNat=rs.length:=by simp
   rw [e] at h;exact h
 intro σ' H2 zz_;refine oE3 zz_ λ v3 v4 us z1_=>oA5 z1_ λ z2_ f2 so2 hM2 r2=>?_;clear zz_;subst z2_;walk_at "go";exact k _ _ _ f2 so2 hM nM hM2 r2
def xi (c:List zE) (p:Nat):List zE:=if c.getD (p + 1) none=none then (c.set (p + 1) (c.getD p none)).set p none else c
def vZ (c:List zE):Nat->List zE
 | 0=>c
 | k + 1=>xi (vZ c k) (c.length - 2 - k)
def zc6 (c:List zE):List zE:=vZ c (c.length - 1)
theorem zaa {c:List zE} {p:Nat}:(xi c p).length=c.length:=by
 unfold xi
 split <;> simp
theorem QY {c:List zE}:∀ k,(vZ c k).length=c.length
 | 0=>rfl
 | k + 1=>by rw [vZ,zaa,QY k]
theorem V9 {c:List zE} {p:Nat} {x:zE} (h:x∈xi c p):x∈c\/x=none:=by
 unfold xi at h
 split at h
 ·rcases wH h with h|h
  ·rcases wH h with h|h
   ·exact .inl h
   ·rw [ap] at h;cases e:c[p]? with
    | none=>rw [e] at h;exact .inr h
    | some y=>rw [e] at h;exact .inl (by rw [h];exact ah e)
  ·exact .inr h
 ·exact .inl h
theorem WQ {c:List zE} {x:zE}:∀ k,x∈vZ c k->x∈c\/x=none
 | 0=>λ h=>.inl h
 | k + 1=>λ h=>by
  rcases V9 h with h|h
  ·exact WQ k h
  ·exact .inr h
theorem zcq {H:Hp} {b:Addr} {o:HO} (h:H b=some o):upd H b o=H:=by
 funext x
 by_cases e:x=b
 ·rw [e,upd_same,h]
 ·rw [upd_ne e]
theorem We {H:Hp} {p:Addr->Prop} {v:V} {x:zE} (r:Rep H p v (zQ x)):v=.non ↔ x=none:=by
 cases x with
 | none=>cases r;simp
 | some x=>obtain ⟨t,us,rfl,_⟩:=Rep.tup' r;simp
theorem atD {xs:List zE} {p:Nat} (h:p < xs.length):xs[p]?=some (xs.getD p none):=qX h
def VG:Sp:=λ vs H Q _=>∃ (b:Addr) (us:List V) (c:List zE),vs=[.ref b]/\H b=some (.lst us)/\Reps H (zR H) us (c.map zQ)/\c.length<=100/\∀ us',Reps H (zR H) us' ((zc6 c).map zQ)->Q .non (upd H b (.lst us'))
theorem Vs (T:Txt K mg a):Cal P w K mg base "move_belt" 1 ["cells"] [] VG:=T.h_move_belt.cal λ F=>by
 refine F.okx Xu ?_ ?_
 ·walk_at "i"
 walk_at "j";refine oE3 h λ b us c z1_=>oA5 z1_ λ z2_ hb rb lc k=>?_;clear h;subst z2_;have lu:us.length=c.length:=by rw [rb.len,ae]
 walk_at "T";refine ⟨_,(zc (qh qF rfl (zfc (za (zq XH (zP zY zX (za (pq 0) zb)) zf) (za (w6 xu zf) (za (w6 xu zf) zb)))) (zW 1 Xu.nd)  (zc (zA (zm je (zw (pq 0) (zq zL (pq 1) zf)) zD (zr _))  (zi (ZD (zw (pq 0) (pq 1)) (ZF (pq 0) (zq zL (pq 1) zf) jE))  (zc (ZD zD (ZF (pq 0) (pq 1) jE))))  zl)))),?_⟩;walk_at "go";walk_at "for";walk_at "go";refine ⟨_,.inl ⟨_,SqL.of hb,rfl⟩,?_⟩;rw [lu];walk_at "go";refine iE2 _ _ (iA3 rfl (iA4 (by omega) (by omega) (by omega) (by omega)) ?_);rw [show ((c.length:Int) - 2 - -1).toNat=c.length - 1 by omega];refine zgd (K:=K) (λ i σ H'=>∃ (v1:Option V) (us':List V),σ=[some (.ref b),v1]/\H'=upd H b (.lst us')/\Reps H (zR H) us' ((vZ c i).map zQ)) (iE2 _ us (iA3 rfl ((zcq hb).symm) rb)) ?_ ?_
 ·intro i σ H' hi zz_;refine oE2 zz_ λ v1 us' z1_=>oA3 z1_ λ z2_ z3_ r1=>?_;clear zz_;subst z2_ z3_;have lm:=QY (c:=c) i;have l1:us'.length=c.length:=by rw [r1.len,ae,lm]
  obtain ⟨p,hp⟩:∃ p,c.length - 2 - i=p:=⟨_,rfl⟩;have ep:(c.length:Int) - 2 - i=p:=by omega
  have hp1:p + 1 < c.length:=by omega
  rw [ep];have eS:vZ c (i + 1)=xi (vZ c i) p:=by rw [vZ,hp]
  rw [eS];generalize vZ c i=m at r1 lm ⊢;have m0:m[p]?=some (m.getD p none):=atD (by omega);have m1:m[p + 1]?=some (m.getD (p + 1) none):=atD (by omega);obtain ⟨u0,hu0,ru0⟩:=r1.of (i:=p) (d:=zQ (m.getD p none)) (by rw [ak,m0];rfl);obtain ⟨u1,hu1,ru1⟩:=r1.of (i:=p + 1) (d:=zQ (m.getD (p + 1) none)) (by rw [ak,m1];rfl);have e1:((p:Int) + 1)=((p + 1:Nat):Int):=by omega
  walk_at "go";rw [e1];refine zu (SqL.of upd_same) (zG hu1) ?_;walk_at "go";refine zI (λ z=>?_) (λ z=>?_)
  ·have z:=(We ru1).mp z;walk_at "go";refine zu (SqL.of upd_same) (zG hu0) ?_;walk_at "go";refine xn upd_same (vE (by omega) (by omega)) ?_;walk_at "go";refine xn upd_same (vE (by omega) (by simp;omega)) ?_;rw [vL,vL];refine iE2 _ _ (iA3 rfl rfl ?_);unfold xi;rw [aA z,du,du,aO,aO];exact Reps.set (Reps.set r1 _ ru0) _ .non
  ·have z:m.getD (p + 1) none≠none:=λ y=>z ((We ru1).mpr y);walk_at "go";refine iE2 _ us' (iA3 rfl rfl ?_);unfold xi;rw [aw z];exact r1
 ·intro σ H' zz_;refine oE2 zz_ λ v1 us' z1_=>oA3 z1_ λ z2_ z3_ r1=>?_;clear zz_;subst z2_ z3_;exact k _ r1
def qy (bs:List (Int × Int)) (t:Int) (cs:List (List zE)):Nat->List (List zE)
 | 0=>cs
 | i + 1=>if t % (bs.getD i (0,1)).2=0 then (qy bs t cs i).set i (zc6 ((qy bs t cs i).getD i [])) else qy bs t cs i
theorem vI {bs:List (Int × Int)} {rs:List Row} {t:Int} {cs:List (List zE)} (h:ql bs rs cs):∀ i,ql bs rs (qy bs t cs i)
 | 0=>h
 | i + 1=>by
  have ih:=vI h i (t:=t);rw [qy]
  split
  ·generalize qy bs t cs i=ds at ih ⊢;cases e:ds[i]? with
   | none=>rw [dB (cK.mp e)];exact ih
   | some c =>
    have ec:ds.getD i []=c:=by rw [ap,e];rfl
    rw [ec];have hi:i < bs.length:=by rw [<- ih.1];exact (aa.mp e).1
    refine ZM ih e (QY _) λ x hx=>?_;rcases WQ _ hx with hx|hx
    ·exact (ih.2 i _ c (ad hi) e).2 x hx
    ·rw [hx];exact wR
  ·exact ih
def passF (bs:List (Int × Int)) (rs:List Row) (st:PSt):PSt × List Move:=({ (zx rs st rs.length).1 with turn:=(zx rs st rs.length).1.turn + 1,cells:=qy bs (zx rs st rs.length).1.turn (zx rs st rs.length).1.cells bs.length },(zx rs st rs.length).2)
theorem WM {bs:List (Int × Int)} {rs:List Row} {st:PSt} (wf:stWf bs rs st) (wok:qg bs rs) (bo:∀ b∈bs,zy b.1 b.2) (ro:∀ r∈rs,r.ok):stWf bs rs (passF bs rs st).1:=by
 have w:=jZ wf wok bo ro rs.length;exact ⟨vI w.co _,w.so,w.go⟩
theorem StO.ney {H:Hp} {y:Addr} {n:SN} {st:PSt} (h:StO a H y n st):y ∉ n.all:=λ z=>by
 have hy:=h.hy;have c:∀ vs,H y≠some (.lst vs):=λ vs z=>by rw [hy] at z;cases z
 simp only [SN.all,ay,az] at z;rcases z with z|z|z|z|z
 ·exact c _ (by rw [z];exact h.hs)
 ·exact c _ (by rw [z];exact h.hc.out)
 ·exact c _ (by rw [z];exact h.hg.out)
 ·obtain ⟨vs,hv⟩:=h.hc.isl (aH _ z);exact c _ hv
 ·obtain ⟨vs,hv⟩:=h.hg.isl (aH _ z);exact c _ hv
theorem StO.putT {H:Hp} {y:Addr} {n:SN} {st:PSt} {t:Int} (h:StO a H y n st):StO a (upd H y (.ins a.State n.dx (sff t n.lc n.ls n.lg))) y n { st with turn:=t }:=by
 have ny:=h.ney;have tn:∀ b,zR H b->b≠y:=λ b ⟨xs,hx⟩ z=>by rw [z,h.hy] at hx;cases hx
 simp only [SN.all,ay,az,not_or] at ny;refine oA5 ny λ n1 n2 n3 n4 n5=>?_;clear ny;refine ⟨upd_same,h.hc.tup λ b o c hb=>?_,?_,h.hg.tup λ b o c hb=>?_,h.nd⟩
 ·rw [upd_ne ?_]
  ·exact hb
  ·rcases c with rfl|c|c
   ·exact aX n2
   ·exact λ z=>n4 (by rw [<- z];exact c)
   ·exact tn b c
 ·rw [upd_ne (aX n1)];exact h.hs
 ·rw [upd_ne ?_]
  ·exact hb
  ·rcases c with rfl|c|c
   ·exact aX n3
   ·exact λ z=>n5 (by rw [<- z];exact c)
   ·exact tn b c
theorem VA {H:Hp} {p:Addr->Prop} {v:V} {bs:List (Int × Int)} {rs:List Row} (h:Rep H p v (qk a bs rs)):∃ y dx fs l1 bvs,v=.ref y/\p y/\H y=some (.ins a.Work dx fs)/\fs.lookup ("belts":Str)=some (.ref l1)/\p l1/\H l1=some (.lst bvs)/\Bts a H p bvs bs:=by
 refine oE3 (Rep.ob' h) λ y dx fs z1_=>oA5 z1_ λ z2_ py hy g1 g2=>?_;subst z2_;obtain ⟨u1,e1,r1⟩:=g1 _ _ Wc;refine oE2 r1.lst' λ l1 bvs z1_=>oA4 z1_ λ z2_ pl h1 b1=>?_;subst z2_;exact iE5 y dx fs l1 bvs (iA7 rfl py hy e1 pl h1 (.of b1))
theorem zf0 {t u:Int} {lc ls lg:Addr}:qr "turn" (.int u) (sff t lc ls lg)=sff u lc ls lg:=rfl
def zcx (a:Ad):Sp:=λ vs H Q _=>∃ (vw:V) (y:Addr) (n:SN) (st:PSt) (bs:List (Int × Int)) (rs:List Row),vs=[vw,.ref y]/\Rep H (Off (y :: n.all)) vw (qk a bs rs)/\StO a H y n st/\stWf bs rs st/\qg bs rs/\(∀ b∈bs,zy b.1 b.2)/\(∀ r∈rs,r.ok) /\
 ∀ l us H',Fr (y :: n.all) H H'->StO a H' y n (passF bs rs st).1->H l=none->l ∉ y :: n.all->H' l=some (.lst us)->Reps H' (zR H') us ((passF bs rs st).2.map wn)->Q (.ref l) H'
theorem XJ (T:Txt K mg a) (F:Fun K "pass_turn" "pass_turn" xk f fd):FnOk P w K mg base (CXr P w) 6 f fd ["work","state"] (zcx a):=by
 refine F.okx Xt ?_ ?_
 ·walk_at "i"
 walk_at "j";refine oE6 h λ vw y n st bs rs z1_=>oA8 z1_ λ z2_ hw so wf wok bo ro k=>?_;clear h;subst z2_;have b24:=wok.1.1.2;walk_at "T";refine ⟨_,(zg (zp 2 Xt.nd (zt ⟨rfl,rfl,rfl⟩ hr (za (pq 0) (za (pq 1) zb))))  (zK (qh qF rfl (qu (za (zj (pq 0) rfl) zb)) (jr (n:=2) rfl (zF (zW 3 Xt.nd) (zF (zW 4 Xt.nd) qN)))  (zc (zA (zm (jv hr.units1) (zq qt (zj (pq 1) rfl) (zj (pq 4) rfl)) zf (zr _))  (zc (zo (zt ⟨rfl,rfl,rfl⟩ hr (za (zw (zj (pq 1) rfl) (pq 3)) zb))))  zl)))  (zg (zbG (pq 1) zf zfD)  (zc (zk (pq 2)))))),?_⟩;walk_at "go";refine uc (Xd T).mono (zao vw y n st bs rs rfl hw so wf wok bo ro (λ l us H1 f1 so1 nl nl' hl rl=>?_));have wA:=jZ wf wok bo ro rs.length;have hw1:=hw.fr f1;refine oE5 (VA hw1) λ yw dw fw l1 bvs z1_=>oA7 z1_ λ z2_ _ hyw ew1 pl1 hl1 hB=>?_;subst z2_;have lb:bvs.length=bs.length:=hB.len;generalize hA:zx rs st rs.length=A at so1 rl wA;refine oA4 (sff_l (t:=A.1.turn) (lc:=n.lc) (ls:=n.ls) (lg:=n.lg)) λ lk1 lk2 lk3 lk4=>?_;walk_at "go";let M1_:St->Hp->Prop:=λ σ' H'=>∃ (v3 v4:Option V),σ'=[some (.ref yw),some (.ref y),some (.ref l),v3,v4]/\Fr (y :: n.all) H1 H'/\StO a H' y n { A.1 with cells:=qy bs A.1.turn A.1.cells bs.length };refine cut M1_ ?_ ?_
 ·walk_at "for";walk_at "go";refine ra hyw T.C_Work T.N_Work_belts ew1 (iE2 l1 _ (iA3 rfl hl1 ?_));let M2_:Nat->St->Hp->Prop:=λ i σ H'=>∃ (v3 v4:Option V),σ=[some (.ref yw),some (.ref y),some (.ref l),v3,v4]/\Fr (y :: n.all) H1 H'/\StO a H' y n { A.1 with cells:=qy bs A.1.turn A.1.cells i };refine Ze (K:=K) (a:=l1) (xs:=bvs) M2_ (iE2 _ _ (iA3 rfl Fr.refl so1)) (λ i σ H' _ h=>by obtain ⟨_,_,_,f,_⟩:=h;exact SqL.of (f _ _ pl1 hl1)) ?_ ?_
  ·intro i x t σ H2 hi ht zz_;refine oE2 zz_ λ v3 v4 z1_=>oA3 z1_ λ z2_ f2 so2=>?_;clear zz_;subst z2_;obtain ⟨b,hb',hBt⟩:=hB.at hi;refine oE3 hBt.inv λ y1 dx1 fs1 z1_=>oA5 z1_ λ z2_ py1 g0 _ e2=>?_;subst z2_;have g02:=f2 _ _ py1 g0;have hil:=(aa.mp hb').1;have bk:=bo b (ah hb');have f3:=f2.trans (zaq (ms:=y :: n.all) (o:=.tup [.int i,.ref y1]) ht);have so3:=so2.same (ze (o:=.tup [.int i,.ref y1]) ht);have g03:=upd_keep (o:=.tup [.int i,.ref y1]) g02 ht;refine un2 upd_same ?_;generalize upd H2 t (.tup [.int i,.ref y1])=H3 at f3 so3 g03 ⊢;have eb:bs.getD i (0,1)=b:=by rw [ap,hb'];rfl
   have co:=vI (t:=A.1.turn) wA.co i;have hc:=qX (xs:=qy bs A.1.turn A.1.cells i) (d:=[]) (show i < _ by rw [co.1];exact hil);refine oE2 (so3.cell hc) λ bC vs z1_=>oA3 z1_ λ hbC hvC rvC=>?_;have lc:=(co.2 i b _ hb' hc).1;have b1:=bk.1;have b2:=bk.2.1;have b3:=bk.2.2.1;walk_at "go";refine ra so3.hy T.C_State T.N_State_turn lk4 ?_;refine ra g03 T.C_Belt T.N_Belt_pace e2 ?_;walk_at "go";refine zI (λ z=>?_) (λ z=>?_)
   ·walk_at "go";refine uc (Vs T).mono ?_;refine ra so3.hy T.C_State T.N_State_cells lk1 (zu (SqL.of so3.hc.out) (zG (Zm hbC)) ?_);refine iE3 bC vs _ (iA5 rfl hvC rvC (by omega) (λ us' r'=>?_));refine iE2 _ _ (iA3 rfl (f3.trans (qj (Wb hbC))) ?_);have:=so3.putC hbC r';rw [qy,eb,aA z];exact this
   ·refine iE2 _ _ (iA3 rfl f3 ?_);rw [qy,eb,aw z];exact so3
  ·intro σ H2 zz_;refine oE2 zz_ λ v3 v4 z1_=>oA3 z1_ λ z2_ f2 so2=>?_;clear zz_;subst z2_;rw [lb] at so2;exact iE2 _ _ (iA3 rfl f2 so2)
 intro σ' H2 zz_;refine oE2 zz_ λ v3 v4 z1_=>oA3 z1_ λ z2_ f2 so2=>?_;clear zz_;subst z2_;walk_at "go";refine ⟨y,?_⟩;refine iE4 a.State n.dx _ _ (iA6 rfl so2.hy T.C_State T.N_State_turn lk4 ?_);refine iE2 _ 1 (iA3 rfl rfl (iE2 n.dx _ (iA3 so2.hy (show 4 < 1000 by decide) ?_)));rw [zf0];have f3:=f2.trans (qj (x:=y) (o:=.ins a.State n.dx (sff (A.1.turn + 1) n.lc n.ls n.lg)) (by simp));walk_at "go";refine k l us _ (f1.trans f3) (by rw [passF,hA];exact so2.putT) nl nl' (f3 _ _ nl' hl) (by rw [passF,hA];exact so1.repsT f3 rl)
theorem Vq (T:Txt K mg a):Cal P w K mg base "pass_turn" 6 ["work","state"] [] (zcx a):=T.h_pass_turn.cal (XJ T)
def zcE (a:Ad):Sp:=λ vs H Q _=>∃ (v:V) (st:PSt) (p:Addr->Prop),vs=[v]/\Rep H p v (wj a st)/\st.cells.length<=100/\st.gone.length<=100/\∀ v' H',Same H H'->zbg a H H' v' st->Q v' H'
theorem wO (T:Txt K mg a):Cal P w K mg base "copied_state" 3 ["state"] [] (zcE a):=T.h_copied_state.cal λ F=>by
 refine F.okx Z1 ?_ ?_
 ·walk_at "i"
 walk_at "j";refine oE3 h λ v st p z1_=>oA5 z1_ λ z2_ hs lc lg k=>?_;clear h;subst z2_;refine oE3 (Rep.ob' hs) λ y dx fs z1_=>oA5 z1_ λ z2_ py hy g1 g2=>?_;subst z2_;obtain ⟨u1,e1,r1⟩:=g1 _ _ (Wh st);obtain ⟨u2,e2,r2⟩:=g1 _ _ (JQ st);obtain ⟨u3,e3,r3⟩:=g1 _ _ (JP st);obtain ⟨u4,e4,r4⟩:=g1 _ _ (Wi st);cases r1;walk_at "T";refine ⟨_,(zc (zk (ju (x:="State") ⟨rfl,rfl,rfl⟩ hr (za (zj (pq 0) rfl) (za (zj (pq 0) rfl) (za (zj (pq 0) rfl) (za (zj (pq 0) rfl) zb))))))),?_⟩;walk_at "go";refine iE4 a.State _ _ _ ⟨(XT T).mono,iE5 y a.State dx fs _ (iA6 rfl hy T.C_State T.N_State_turn e1 ?_)⟩;refine ra hy T.C_State T.N_State_cells e2 ?_;refine ra hy T.C_State T.N_State_sides e3 ?_;refine ra hy T.C_State T.N_State_gone e4 ?_;exact Q1 T (st:=st) r2 r3 r4 lc lg λ y' H' s' sn=>k _ _ s' sn
def JS (a:Ad):Sp:=λ vs H Q _=>∃ (vw v:V) (st:PSt) (bs:List (Int × Int)) (rs:List Row) (p:Addr->Prop),vs=[vw,v]/\Rep H (Off []) vw (qk a bs rs)/\Rep H p v (wj a st)/\stWf bs rs st/\qg bs rs/\(∀ b∈bs,zy b.1 b.2)/\(∀ r∈rs,r.ok) /\
 ∀ v' H',Same H H'->zbg a H H' v' (passF bs rs st).1->Q v' H'
theorem ZW {a:Ad} {vs:List V} {H:Hp} {Q:VK} {E:XK} (vw v:V) (st:PSt) (bs:List (Int × Int)) (rs:List Row) (p:Addr->Prop) (q0:vs=[vw,v]) (q1:Rep H (Off []) vw (qk a bs rs)) (q2:Rep H p v (wj a st)) (q3:stWf bs rs st) (q4:qg bs rs) (q5:(∀ b∈bs,zy b.1 b.2)) (q6:(∀ r∈rs,r.ok)) (q7:∀ v' H',Same H H'->zbg a H H' v' (passF bs rs st).1->Q v' H'):JS a vs H Q E:=⟨vw,v,st,bs,rs,p,q0,q1,q2,q3,q4,q5,q6,q7⟩
theorem Jk (T:Txt K mg a):Cal P w K mg base "one_turn" 7 ["work","state"] [] (JS a):=T.h_one_turn.cal λ F=>by
 refine F.okx Wv ?_ ?_
 ·walk_at "i"
 walk_at "j";refine oE6 h λ vw v st bs rs p z1_=>oA8 z1_ λ z2_ hw hv wf wok bo ro k=>?_;clear h;subst z2_;have b24:=wok.1.1.2;have r24:=wok.1.2.2;walk_at "T";refine ⟨_,(zi (zp 2 Wv.nd (zt ⟨rfl,rfl,rfl⟩ hr (za (pq 1) zb)))  (zi (zo (zt ⟨rfl,rfl,rfl⟩ hr (za (pq 0) (za (pq 2) zb))))  (zc (zk (pq 2))))),?_⟩;walk_at "go";refine uc (wO T).mono (iE3 v st p (iA5 rfl hv (by rw [wf.co.1];omega) (by rw [wf.go.1];omega) (λ v' H1 s1 sn=>?_)));refine oE2 sn λ y n z1_=>oA5 z1_ λ z2_ so1 ny nd nn=>?_;clear sn;subst z2_;have na:∀ b∈y :: n.all,H b=none:=λ b hb=>by
  rcases ay.mp hb with rfl|hb
  ·exact ny
  ·exact nn b hb
 have hw1:Rep H1 (Off (y :: n.all)) vw (qk a bs rs):=qM (hw.more (ns:=y :: n.all) λ b hb=>.inr (na b hb)) s1;walk_at "go";refine uc (Vq T).mono (iE6 vw y n st bs rs (iA8 rfl hw1 so1 wf wok bo ro (λ l us H2 f2 so2 _ _ _ _=>?_)));walk_at "go";exact k _ _ (λ b o hb=>f2 b o (λ z=>by rw [na b z] at hb;cases hb) (s1 b o hb)) (iE2 y n (iA5 rfl so2 ny nd nn))
def JT (a:Ad):Sp:=λ vs H Q _=>∃ (vw v:V) (st:PSt) (bs:List (Int × Int)) (rs:List Row) (p:Addr->Prop),vs=[vw,v]/\Rep H (Off []) vw (qk a bs rs)/\Rep H p v (wj a st)/\stWf bs rs st/\qg bs rs/\(∀ b∈bs,zy b.1 b.2)/\(∀ r∈rs,r.ok) /\
 ∀ l us H',Same H H'->H l=none->H' l=some (.lst us)->Reps H' (zR H') us ((zx rs st rs.length).2.map wn)->Q (.ref l) H'
theorem ZX {a:Ad} {vs:List V} {H:Hp} {Q:VK} {E:XK} (vw v:V) (st:PSt) (bs:List (Int × Int)) (rs:List Row) (p:Addr->Prop) (q0:vs=[vw,v]) (q1:Rep H (Off []) vw (qk a bs rs)) (q2:Rep H p v (wj a st)) (q3:stWf bs rs st) (q4:qg bs rs) (q5:(∀ b∈bs,zy b.1 b.2)) (q6:(∀ r∈rs,r.ok)) (q7:∀ l us H',Same H H'->H l=none->H' l=some (.lst us)->Reps H' (zR H') us ((zx rs st rs.length).2.map wn)->Q (.ref l) H'):JT a vs H Q E:=⟨vw,v,st,bs,rs,p,q0,q1,q2,q3,q4,q5,q6,q7⟩
theorem Jl (T:Txt K mg a):Cal P w K mg base "moves_of" 6 ["work","state"] [] (JT a):=T.h_moves_of.cal λ F=>by
 refine F.okx Ww ?_ ?_
 ·walk_at "i"
 walk_at "j";refine oE6 h λ vw v st bs rs p z1_=>oA8 z1_ λ z2_ hw hv wf wok bo ro k=>?_;clear h;subst z2_;have b24:=wok.1.1.2;have r24:=wok.1.2.2;walk_at "T";refine ⟨_,(zc (zk (zt ⟨rfl,rfl,rfl⟩ hr (za (pq 0) (za (zt ⟨rfl,rfl,rfl⟩ hr (za (pq 1) zb)) zb))))),?_⟩;walk_at "go";refine uc (Xd T).mono (uc (wO T).mono (iE3 v st p (iA5 rfl hv (by rw [wf.co.1];omega) (by rw [wf.go.1];omega) (λ v' H1 s1 sn=>?_))));refine oE2 sn λ y n z1_=>oA5 z1_ λ z2_ so1 ny _ nn=>?_;clear sn;subst z2_;have na:∀ b∈y :: n.all,H b=none:=λ b hb=>by
  rcases ay.mp hb with rfl|hb
  ·exact ny
  ·exact nn b hb
 have hw1:Rep H1 (Off (y :: n.all)) vw (qk a bs rs):=qM (hw.more (ns:=y :: n.all) λ b hb=>.inr (na b hb)) s1;refine iE6 vw y n st bs rs (iA8 rfl hw1 so1 wf wok bo ro (λ l us H2 f2 _ nl _ hl r2=>?_));refine k l us H2 (λ b o hb=>f2 b o (λ z=>by rw [na b z] at hb;cases hb) (s1 b o hb)) ?_ hl r2;cases e:H l with
 | none=>rfl
 | some o=>rw [s1 _ _ e] at nl;cases nl
theorem Zj {X:Cx}:CallR X (.type "tuple") (λ xs H Q=>∃ p ys,xs=[.ref p]/\((SqL X.K H p ys/\∀ l,H l=none->Q (.ref l) (upd H l (.tup ys)))\/(SqT X.K H p ys/\Q (.ref p) H))):=JK
def oiV:Option Int->V
 | none=>.non
 | some n=>.int n
theorem WO (x:Option Int):jT (oiV x)=true:=by cases x <;> rfl
theorem zfk (x y:Option Int):eqV (oiV x) (oiV y)=decide (x=y):=by
 cases x with
 | none=>cases y <;> simp [oiV,eqV]
 | some a =>
  cases y with
  | none=>simp [oiV,eqV]
  | some b =>
   show (a == b)=decide (some a=some b)
   by_cases e:a=b <;> simp [e]
theorem zfP {κ:Type} [DecidableEq κ] {xs ys:List κ}:((List.range (min xs.length ys.length)).all (λ j=>decide (xs[j]?=ys[j]?)) && xs.length == ys.length)=decide (xs=ys):=by
 by_cases e:xs=ys
 ·subst e;simp
 ·rw [aY e];by_cases hl:xs.length=ys.length
  ·have:¬ (List.range (min xs.length ys.length)).all (λ j=>decide (xs[j]?=ys[j]?))=true:=λ z=>e (dH λ j=>by
    rw [cS] at z;by_cases hj:j < xs.length
    ·exact bw (z j (cm.mpr (by omega)))
    ·rw [br (by omega),br (by omega)])
   simp only [Bool.not_eq_true] at this;rw [this]
   rfl
  ·have:(xs.length == ys.length)=false:=a7.mpr hl;rw [this,cu]
abbrev ShK:=Option Int × List (List (Option Int)) × List (Option Int) × List (Option Int)
def oiD:Option Int->D
 | none=>.non
 | some n=>.int n
def shD (k:ShK):D:=.tup [oiD k.1,.tup (k.2.1.map λ r=>.tup (r.map oiD)),.tup (k.2.2.1.map oiD),.tup (k.2.2.2.map oiD)]
theorem Jh (r:Row):(qI r).length=max r.ins.length r.outs.length:=by unfold qI;rw [bj]
def Wn:Sp:=λ vs H Q _=>∃ a b:Int,vs=[.int a,.int b]/\0<=a/\0<=b/\Q (.int (Int.gcd a b:Int)) H
theorem zbL (F:Fun K "common" "common" vQ f fd):FnOk P w K mg base (CXr P w) 1 f fd ["one","other"] Wn:=by
 refine F.okx zbr ?_ ?_
 ·walk_at "i"
 walk_at "k";obtain ⟨a,b,rfl,ha,hb,k⟩:=h;refine ⟨_,(zi (zp 2 zbr.nd (pq 0))  (zi (zp 3 zbr.nd (pq 1))  (zi (zcU qF (zm zcZ (pq 3) zf (zr _))  (zi (zp 4 zbr.nd (zq qt (pq 2) (pq 3)))  (zi (zp 2 zbr.nd (pq 3))  (zc (zp 3 zbr.nd (pq 4))))))  (zc (zk (pq 2)))))),?_⟩;walk_at "r";refine ⟨λ m σ H'=>∃ p r v,σ=[some (.int a),some (.int b),some (.int p),some (.int r),v]/\H'=H/\0<=p/\0<=r/\Int.gcd p r=Int.gcd a b/\m=r.toNat,⟨_,a,b,none,rfl,rfl,ha,hb,rfl,rfl⟩,?_⟩;rintro m σ H' ⟨p,r,v,rfl,rfl,hp,hr',hg,rfl⟩;walk_at "r";refine zI (λ h=>?_) (λ h=>?_)
 ·refine zgw ?_;have h1:=aG p (show r≠0 by omega);have h2:=aB p h;exact ⟨h,_,by omega,r,p % r,_,rfl,rfl,hr',h1,(zdt hp h).trans hg,rfl⟩
 ·have e:r=0:=by omega
  subst e;have e2:=zes hp;rw [hg] at e2;rw [<- e2];exact k
def Pac (ns:List Int):Prop:=∀ n∈ns,0 < n/\n<=1000000000000
theorem Pac.nil:Pac []:=λ _ h=>nomatch h
theorem Pac.snoc {ns:List Int} {n:Int} (h:Pac ns) (h1:0 < n) (h2:n<=1000000000000):Pac (ns ++ [n]):=λ k hk=>by
 rcases az.mp hk with z|z
 ·exact h k z
 ·rw [ar.mp z];exact ⟨h1,h2⟩
theorem Pac.at {ns:List Int} (h:Pac ns) {i:Nat} {x:V} (e:(ns.map V.int)[i]?=some x):∃ n,x=.int n/\0 < n/\n<=1000000000000/\n∈ns/\ns.take (i + 1)=ns.take i ++ [n]:=by
 rw [ak,aq] at e;obtain ⟨n,hn,rfl⟩:=e;have hm:=ah hn;refine ⟨n,iA5 rfl ((h n hm).1) ((h n hm).2) hm ?_⟩;rw [eT,hn]
 rfl
def zbo (K:PySem.W.Frag):Sp:=λ vs H Q _=>∃ (l:Addr) (ns:List Int),vs=[.ref l]/\SqL K H l (ns.map V.int)/\Pac ns/\∀ L,IsLcm ns L->Q (.int L) H
theorem zdE (T:Txt K mg a):Cal P w K mg base "common" 1 ["one","other"] [] Wn:=T.h_common.cal zbL
theorem zcc (T:Txt K mg a):Cal P w K mg base "lasting" 2 ["paces"] [] (zbo K):=T.h_lasting.cal λ F=>by
 refine F.okx VN ?_ ?_
 ·walk_at "i"
 walk_at "k";refine oE2 h λ l ns z1_=>oA4 z1_ λ z2_ hl hn k=>?_;clear h;subst z2_;refine ⟨_,(zi (zp 1 VN.nd zf)  (zi (qh qF rfl (z9 (pq 0)) (zW 2 VN.nd)  (zc (zp 1 VN.nd (zq jQ (zq zaN (pq 1) (zt ⟨rfl,rfl,rfl⟩ hr (za (pq 1) (za (pq 2) zb)))) (pq 2)))))  (zc (zk (pq 1))))),?_⟩;walk_at "go";walk_at "for";refine ⟨l,rfl,.inl ⟨⟨_,hl⟩,?_⟩⟩;refine qG (K:=K) (a:=l) (xs:=ns.map V.int) (λ i σ H'=>∃ (m:Int) (v:Option V),σ=[some (V.ref l),some (V.int m),v]/\H'=H/\IsLcm (ns.take i) m) (iE2 1 none (iA3 rfl rfl IsLcm.nil)) (λ i σ H' _ ⟨_,_,_,e,_⟩=>e ▸ hl) ?_ ?_
 ·intro i x σ H1 hi zz_;refine oE2 zz_ λ m v z1_=>oA3 z1_ λ z2_ z3_ hm=>?_;clear zz_;subst z2_ z3_;refine oE1 (hn.at hi) λ p z1_=>oA5 z1_ λ z2_ p0 p1 _ ht=>?_;subst z2_;walk_at "r";have g0:(0:Int) < (Int.gcd m p:Int):=by have:=zaX (a:=m) (b:=p) (by omega);omega
  have g1:(Int.gcd m p:Int)<=p:=XY p0;refine iE3 _ _ _ ⟨zdE T,⟨m,p,rfl,cr hm.pos,cr p0,?_⟩⟩;walk_at "r";refine ⟨fd_ok g0 ?_,mul_okR (by omega) (by omega),?_⟩
  ·have:(1000000000000:Nat) < 2 ^ 8999:=by decide +kernel
   omega
  ·rw [fdiv_pos g0,ht];exact iE2 _ _ ⟨rfl,hm.step p0⟩
 ·intro σ H1 zz_;refine oE2 zz_ λ m v z1_=>oA3 z1_ λ z2_ z3_ hm=>?_;clear zz_;subst z2_ z3_;rw [ae,aK] at hm;walk_at "r";exact k m hm
theorem IsLcm.ex:∀ {ns:List Int},Pac ns->∃ L,IsLcm ns L:=λ {ns} h=>by
 have:∀ k,k<=ns.length->∃ L,IsLcm (ns.take k) L:=λ k=>by
  induction k with
  | zero=>exact λ _=>⟨1,IsLcm.nil⟩
  | succ k ih =>
   intro hk;obtain ⟨L,hL⟩:=ih (by omega);have e:ns.take (k + 1)=ns.take k ++ [ns[k]]:=by rw [eT,ad (by omega)];rfl
   rw [e];exact ⟨_,hL.step (h _ (getElem_mem _)).1⟩
 have:=this ns.length (av _)
 rwa [aK] at this
theorem zga (T:Txt K mg a) (wd:Wd):PySem.W.kitOne K (.ref (jY a wd)) (.ref a.Drain)=some (decide (wd=.drain)):=by
 cases wd
 ·exact T.k1_Source_Drain
 ·exact T.k1_Drain_Drain
 ·exact T.k1_Parter_Drain
 ·exact T.k1_FirstParter_Drain
 ·exact T.k1_Sieve_Drain
 ·exact T.k1_Joiner_Drain
def qZ (wd:Wd) (rs:List Row) (n:Nat):List Int:=((List.range n).filter λ i=>decide (rs[i]?.map Row.wd=some wd)).map λ (i:Nat)=>(i:Int)
theorem jl {wd:Wd} {rs:List Row} {n:Nat} {r:Row} (h:rs[n]?=some r):qZ wd rs (n + 1)=qZ wd rs n ++ if r.wd=wd then [(n:Int)] else []:=by
 unfold qZ;rw [List.range_succ,List.filter_append,aV]
 congr 1
 by_cases e:r.wd=wd <;> simp [h,e]
def zB (wd:Wd) (rs:List Row):List Int:=qZ wd rs rs.length
theorem jy (wd:Wd) (rs:List Row) (n:Nat):(qZ wd rs n).length<=n:=by
 unfold qZ;rw [ae];exact bh (List.length_filter_le _ _) (by simp)
theorem xG {wd:Wd} {rs:List Row} {m:Int} (h:m∈zB wd rs):∃ (i:Nat) (r:Row),m=i/\rs[i]?=some r/\r.wd=wd:=by
 unfold zB qZ at h;obtain ⟨i,hi,rfl⟩:=aW.mp h;rw [cg] at hi;have h2:=bw hi.2;rw [aq] at h2;obtain ⟨r,h3,h4⟩:=h2;exact iE2 i r (iA3 rfl h3 h4)
theorem QW {wd:Wd} {rs:List Row} {i:Nat} {r:Row} (h:rs[i]?=some r) (hw:r.wd=wd):(i:Int)∈zB wd rs:=by
 unfold zB qZ;refine aW.mpr ⟨i,cg.mpr ⟨cm.mpr (aa.mp h).1,?_⟩,rfl⟩;rw [h];exact bO (by rw [<- hw];rfl)
def zcz (a:Ad) (wd:Wd):Sp:=λ vs H Q _=>∃ (v:V) (bs:List (Int × Int)) (rs:List Row) (p:Addr->Prop),vs=[v]/\Rep H p v (qk a bs rs)/\rs.length<=100/\∀ q H',Same H H'->H q=none->H' q=some (.lst (iv (zB wd rs)))->Q (.ref q) H'
theorem JH (T:Txt K mg a):MCal P w K mg base a.Work "drains" 1 ["self"] [] (zcz a .drain):=T.h_Work_drains.cal T.C_Work λ F=>by
 refine F.okx QD ?_ ?_
 ·walk_at "i"
 walk_at "j";refine oE4 h λ v bs rs p z1_=>oA4 z1_ λ z2_ hv l100 k=>?_;clear h;subst z2_;refine oE7 (qL hv) λ y dx fs l1 l2 bvs kvs z1_=>oA9 z1_ λ z2_ hy e1 e2 h1 h2 hB hK no=>?_;subst z2_;walk_at "T";refine ⟨_,(zc (zk (jG (vars:=["number","knot"]) (caps:=[]) (N:=["number","knot"]) (ON:=["self"]) (osc:=zd jA) rfl rfl (by first|decide +kernel|kernel_rfl) rfl rfl (qu (za (zj (pq 0) rfl) zb)) (λ s H fp pins=>(jr (n:=2) rfl (zF (zW 0 (show (["number","knot"]:List Str).Nodup from by decide +kernel)) (zF (zW 1 (show (["number","knot"]:List Str).Nodup from by decide +kernel)) qN)))) (λ s H fp pins=>(XG (qf (zP jR zS (za (pq 1) (za jk zb))) (λ _=>rfl)))) (λ s H fp pins=>(pq 0))))),?_⟩;walk_at "go";walk_at "lc";walk_at "go";refine ra hy T.C_Work T.N_Work_knots e2 (iE2 l2 _ (iA3 rfl h2 (λ _ _ _ _ acc hacc=>?_)));refine Ze (K:=K) (a:=l2) (xs:=kvs) (λ i σ H'=>∃ (v0 v1:Option V),σ=[v0,v1]/\Same H H'/\H' acc=some (.lst (iv (qZ .drain rs i)))) (iE2 _ _ (iA3 rfl (ze hacc) upd_same)) (λ i σ H' _ h=>by obtain ⟨_,_,_,s,_⟩:=h;exact SqL.of (s _ _ h2)) ?_ ?_
 ·intro i x t σ H' hi ht zz_;refine oE2 zz_ λ v0 v1 z1_=>oA3 z1_ λ z2_ s7 e1'=>?_;clear zz_;subst z2_;obtain ⟨r,hr',hKn⟩:=hK.at hi;refine oE6 hKn.inv λ y1 dx1 m1 m2 m3 fs1 z1_=>oA9 z1_ λ z2_ _ _ _ _ g0 f1 f2 z3_=>oA5 z3_ λ _ g1 g2 _ _=>?_;subst z2_;have hil:=(aa.mp hr').1;have s8:=s7.trans (ze (o:=.tup [.int i,.ref y1]) ht);have e8:=upd_keep (o:=.tup [.int i,.ref y1]) e1' ht;refine un2 upd_same ?_;generalize upd H' t (.tup [.int i,.ref y1])=H8 at s8 e8 ⊢;walk_at "go";refine iE2 (.ref a.Drain) _ (iA3 T.g_Drain rfl (iE4 _ _ _ _ (iA4 rfl ((WT T r.wd).ty (CT T r.wd) (s8 _ _ g0)) (.inl ⟨_,rfl,zga T r.wd⟩) ?_)));walk_at "go";refine zI (λ b=>?_) (λ b=>?_)
  ·refine ⟨_,iA3 e8 (zh (by have:=jy .drain rs i;rw [zn];omega)) (iE2 _ _ (iA3 rfl (λ b o hb=>by rw [upd_ne (ne_of_none hb hacc)];exact s8 b o hb) ?_))⟩;rw [upd_same,jl hr',aA b,z8]
  ·exact iE2 _ _ (iA3 rfl s8 (by rw [jl hr',aw b,cF];exact e8))
 intro σ H2 zz_;refine oE2 zz_ λ v0 v1 z1_=>oA3 z1_ λ z2_ s2 ha=>?_;clear zz_;subst z2_;rw [hK.len] at ha;exact k _ _ s2 hacc ha
theorem wI (T:Txt K mg a):MCal P w K mg base a.Work "sources" 1 ["self"] [] (zcz a .source):=T.h_Work_sources.cal T.C_Work λ F=>by
 refine F.okx Z3 ?_ ?_
 ·walk_at "i"
 walk_at "j";refine oE4 h λ v bs rs p z1_=>oA4 z1_ λ z2_ hv l100 k=>?_;clear h;subst z2_;refine oE7 (qL hv) λ y dx fs l1 l2 bvs kvs z1_=>oA9 z1_ λ z2_ hy e1 e2 h1 h2 hB hK no=>?_;subst z2_;walk_at "T";refine ⟨_,(zc (zk (jG (vars:=["number","knot"]) (caps:=[]) (N:=["number","knot"]) (ON:=["self"]) (osc:=zd jo) rfl rfl (by first|decide +kernel|kernel_rfl) rfl rfl (qu (za (zj (pq 0) rfl) zb)) (λ s H fp pins=>(jr (n:=2) rfl (zF (zW 0 (show (["number","knot"]:List Str).Nodup from by decide +kernel)) (zF (zW 1 (show (["number","knot"]:List Str).Nodup from by decide +kernel)) qN)))) (λ s H fp pins=>(XG (qf (zP jR zS (za (pq 1) (za jk zb))) (λ _=>rfl)))) (λ s H fp pins=>(pq 0))))),?_⟩;walk_at "go";walk_at "lc";walk_at "go";refine ra hy T.C_Work T.N_Work_knots e2 (iE2 l2 _ (iA3 rfl h2 (λ _ _ _ _ acc hacc=>?_)));refine Ze (K:=K) (a:=l2) (xs:=kvs) (λ i σ H'=>∃ (v0 v1:Option V),σ=[v0,v1]/\Same H H'/\H' acc=some (.lst (iv (qZ .source rs i)))) (iE2 _ _ (iA3 rfl (ze hacc) upd_same)) (λ i σ H' _ h=>by obtain ⟨_,_,_,s,_⟩:=h;exact SqL.of (s _ _ h2)) ?_ ?_
 ·intro i x t σ H' hi ht zz_;refine oE2 zz_ λ v0 v1 z1_=>oA3 z1_ λ z2_ s7 e1'=>?_;clear zz_;subst z2_;obtain ⟨r,hr',hKn⟩:=hK.at hi;refine oE6 hKn.inv λ y1 dx1 m1 m2 m3 fs1 z1_=>oA9 z1_ λ z2_ _ _ _ _ g0 f1 f2 z3_=>oA5 z3_ λ _ g1 g2 _ _=>?_;subst z2_;have hil:=(aa.mp hr').1;have s8:=s7.trans (ze (o:=.tup [.int i,.ref y1]) ht);have e8:=upd_keep (o:=.tup [.int i,.ref y1]) e1' ht;refine un2 upd_same ?_;generalize upd H' t (.tup [.int i,.ref y1])=H8 at s8 e8 ⊢;walk_at "go";refine iE2 (.ref a.Source) _ (iA3 T.g_Source rfl (iE4 _ _ _ _ (iA4 rfl ((WT T r.wd).ty (CT T r.wd) (s8 _ _ g0)) (.inl ⟨_,rfl,zaf T r.wd⟩) ?_)));walk_at "go";refine zI (λ b=>?_) (λ b=>?_)
  ·refine ⟨_,iA3 e8 (zh (by have:=jy .source rs i;rw [zn];omega)) (iE2 _ _ (iA3 rfl (λ b o hb=>by rw [upd_ne (ne_of_none hb hacc)];exact s8 b o hb) ?_))⟩;rw [upd_same,jl hr',aA b,z8]
  ·exact iE2 _ _ (iA3 rfl s8 (by rw [jl hr',aw b,cF];exact e8))
 intro σ H2 zz_;refine oE2 zz_ λ v0 v1 z1_=>oA3 z1_ λ z2_ s2 ha=>?_;clear zz_;subst z2_;rw [hK.len] at ha;exact k _ _ s2 hacc ha
def xt (bs:List (Int × Int)) (rs:List Row) (n:Int):Prop:=(∃ b∈bs,b.2=n)\/∃ r∈rs,(r.wd=.source\/r.wd=.drain)/\r.pace=n/\0 < n
theorem QM {r:Row} (h:r.ok) (hw:r.wd=.source\/r.wd=.drain):0<=r.pace/\r.pace<=4:=by
 obtain ⟨wd,ins,outs,pc,ks⟩:=r;rcases hw with hw|hw
 ·simp only at hw;subst hw;have h1:=h.2.2.1;have h2:=h.2.2.2.1;simp only at h1 h2;exact ⟨by show 0<=pc;omega,h2⟩
 ·simp only at hw;subst hw;exact ⟨h.2.2.1,h.2.2.2⟩
def ze2 (a:Ad):Sp:=λ vs H Q _=>∃ (v:V) (bs:List (Int × Int)) (rs:List Row) (p:Addr->Prop),vs=[v]/\Rep H p v (qk a bs rs)/\bs.length<=100/\rs.length<=100/\(∀ b∈bs,zy b.1 b.2)/\(∀ r∈rs,r.ok) /\
 ∀ L ns H',IsLcm ns L->(∀ n,n∈ns ↔ xt bs rs n)->Same H H'->Q (.int L) H'
theorem WW (T:Txt K mg a):MCal P w K mg base a.Work "beat" 3 ["self"] [] (ze2 a):=T.h_Work_beat.cal T.C_Work λ F=>by
 refine F.okx Xw ?_ ?_
 ·walk_at "i"
 walk_at "j";refine oE4 h λ v bs rs p z1_=>oA7 z1_ λ z2_ hv lb lr bo ro k=>?_;clear h;subst z2_;have hv0:=hv;refine oE7 (qL hv) λ y dx fs l1 l2 bvs kvs z1_=>oA9 z1_ λ z2_ hy e1 e2 h1 h2 hB hK no=>?_;subst z2_;walk_at "T";refine ⟨_,(zi (ZS (i:=1) Xw.nd rfl (Or.inl rfl) (vars:=["belt"]) (caps:=[]) (N:=["belt"]) (ON:=["self","paces","number","pace"]) (osc:=zd xl) rfl rfl (by first|decide +kernel|kernel_rfl) rfl rfl (z9 (zj (pq 0) rfl)) (λ s H fp pins=>(zW 0 (show (["belt"]:List Str).Nodup from by decide +kernel))) (λ s H fp pins=>qc) (λ s H fp pins=>(zj (pq 0) rfl)))  (zi (qh qF rfl (z9 (zq zL (Ql ⟨rfl,rfl,rfl⟩ hr (pq 0)) (Ql ⟨rfl,rfl,rfl⟩ hr (pq 0)))) (zW 2 Xw.nd)  (zi (zp 3 Xw.nd (zj (zw (zj (pq 0) rfl) (pq 2)) rfl))  (zc (zA (zm zcZ (pq 3) zf (zr _))  (zc (zo (qp aj ao am zz (pq 1) (za (pq 3) zb))))  zl))))  (zc (zk (zt ⟨rfl,rfl,rfl⟩ hr (za (pq 1) zb)))))),?_⟩;walk_at "go";walk_at "lc";walk_at "go";refine ra hy T.C_Work T.N_Work_belts e1 ⟨l1,rfl,.inl ⟨⟨_,SqL.of h1⟩,λ _ _ _ _ acc hacc=>?_⟩⟩;refine qG (K:=K) (a:=l1) (xs:=bvs) (λ i σ H'=>∃ (v0:Option V),σ=[v0]/\Same H H'/\H' acc=some (.lst (iv ((bs.take i).map (·.2))))) ⟨_,iA3 rfl (ze hacc) (by rw [cC];exact upd_same)⟩ (λ i σ H' _ h=>by obtain ⟨_,_,s,_⟩:=h;exact SqL.of (s _ _ h1)) ?_ ?_
 ·intro i x σ H' hi zz_;refine oE1 zz_ λ v0 z1_=>oA3 z1_ λ z2_ s7 e7=>?_;clear zz_;subst z2_;obtain ⟨b,hr',hBt⟩:=hB.at hi;refine oE3 hBt.inv λ y1 dx1 fs1 z1_=>oA5 z1_ λ z2_ _ g0 f1 f2=>?_;subst z2_;have hil:=(aa.mp hr').1;walk_at "go";refine ra (s7 _ _ g0) T.C_Belt T.N_Belt_pace f2 ?_;refine ⟨_,iA3 e7 (zh (by rw [zn,ae,aI];omega)) ⟨_,iA3 rfl (λ b o hb=>by rw [upd_ne (ne_of_none hb hacc)];exact s7 b o hb) ?_⟩⟩;rw [upd_same,aF,hr',aV,z8]
  rfl
 intro σ H2 zz_;refine oE1 zz_ λ v0 z1_=>oA3 z1_ λ z2_ s2 ha=>?_;clear zz_;subst z2_;rw [hB.len,aK] at ha;walk_at "go";walk_at "for";walk_at "go";refine iE7 y a.Work dx fs _ _ _ (iA5 rfl (s2 _ _ hy) (no _ (by decide +kernel) (by decide +kernel)) ((wI T).mono) ?_);refine iE4 _ bs rs p (iA4 rfl (hv0.keep λ b o pb hb=>⟨pb,s2 _ _ hb⟩) lr (λ q1 H3 s3 n1 hq1=>?_));refine iE7 y a.Work dx fs _ _ _ (iA5 rfl (s3 _ _ (s2 _ _ hy)) (no _ (by decide +kernel) (by decide +kernel)) ((JH T).mono) ?_);refine iE4 _ bs rs p (iA4 rfl (hv0.keep λ b o pb hb=>⟨pb,s3 _ _ (s2 _ _ hb)⟩) lr (λ q2 H4 s4 n2 hq2=>?_));have l3:=jy .source rs rs.length;have l4:=jy .drain rs rs.length;refine XE (SqL.of (s4 _ _ hq1)) (SqL.of hq2) (Xq (by rw [zn,zn];show (qZ _ _ _).length + (qZ _ _ _).length<=_;omega)) λ q3 hq3=>?_;rw [zah];have s5:Same H (upd H4 q3 (.lst (iv (zB .source rs ++ zB .drain rs)))):=((s2.trans s3).trans s4).trans (ze hq3);have ha5:upd H4 q3 (.lst (iv (zB .source rs ++ zB .drain rs))) acc=some (.lst (iv (bs.map (·.2)))):=upd_keep (s4 _ _ (s3 _ _ ha)) hq3;have hq5:upd H4 q3 (.lst (iv (zB .source rs ++ zB .drain rs))) q3=some (.lst (iv (zB .source rs ++ zB .drain rs))):=upd_same;have nq:q3≠acc:=(ne_of_none (s4 _ _ (s3 _ _ ha)) hq3).symm;have hq0:H q3=none:=zT ((s2.trans s3).trans s4) hq3;generalize upd H4 q3 (.lst (iv (zB .source rs ++ zB .drain rs)))=H5 at s5 ha5 hq5 ⊢;refine ⟨q3,rfl,.inl ⟨⟨_,SqL.of hq5⟩,?_⟩⟩;refine qG (K:=K) (a:=q3) (xs:=iv (zB .source rs ++ zB .drain rs)) (λ i σ H'=>∃ (v2 v3:Option V) (ns:List Int),σ=[some (.ref y),some (.ref acc),v2,v3]/\Same H H'/\H' q3=some (.lst (iv (zB .source rs ++ zB .drain rs)))/\H' acc=some (.lst (iv ns))/\Pac ns/\ns.length<=bs.length + i/\∀ n,n∈ns ↔ n∈bs.map (·.2)\/∃ (m:Nat) (r:Row),(m:Int)∈(zB .source rs ++ zB .drain rs).take i/\rs[m]?=some r/\r.pace=n/\0 < n)
  ⟨_,_,bs.map (·.2),rfl,s5,hq5,ha5,?_,by simp,?_⟩ (λ i σ H' _ h=>by obtain ⟨_,_,_,_,_,h,_⟩:=h;exact SqL.of h) ?_ ?_
 ·intro n hn;obtain ⟨b,hb,rfl⟩:=aW.mp hn;have:=bo b hb;exact ⟨by have:=this.2.2.1;omega,by have:=this.2.2.2;omega⟩
 ·intro n;simp
 ·intro i x σ H6 hi zz_;refine oE3 zz_ λ v2 v3 ns z1_=>oA7 z1_ λ z2_ s6 hq6 ha6 pn ln mem=>?_;clear zz_;subst z2_;obtain ⟨m,hm,rfl⟩:=xH hi;have hmm:=ah hm;have hil:=(aa.mp hm).1;have hlen:(zB .source rs ++ zB .drain rs).length<=200:=by
   rw [aQ];show (qZ _ _ _).length + (qZ _ _ _).length<=_
   omega
  obtain ⟨j,r,rfl,hr',hw⟩:∃ (j:Nat) (r:Row),m=j/\rs[j]?=some r/\(r.wd=.source\/r.wd=.drain):=by
   rcases az.mp hmm with z|z
   ·obtain ⟨j,r,q1,q2,q3⟩:=xG z;exact ⟨j,r,q1,q2,.inl q3⟩
   ·obtain ⟨j,r,q1,q2,q3⟩:=xG z;exact ⟨j,r,q1,q2,.inr q3⟩
  have hp:=QM (ro r (ah hr')) hw;obtain ⟨kv,hkv,hKn⟩:∃ kv,kvs[j]?=some kv/\KnP a H p kv r:=by
   have hj:=(aa.mp hr').1;have e:kvs[j]?=some (kvs[j]'(by rw [hK.len];exact hj)):=ad _;exact ⟨_,e,hK.g j _ r e hr'⟩
  refine oE6 hKn.inv λ y1 dx1 m1 m2 m3 fs1 z1_=>oA9 z1_ λ z2_ _ _ _ _ g0 _ _ z3_=>oA5 z3_ λ _ _ _ _ fp=>?_;subst z2_;walk_at "go";refine ra (s6 _ _ hy) T.C_Work T.N_Work_knots e2 (zu (SqL.of (s6 _ _ h2)) (zG hkv) ?_);have NP:NoAttr K (jY a r.wd) "pace":=by
   rcases hw with z|z
   ·rw [z];exact T.N_Source_pace
   ·rw [z];exact T.N_Drain_pace
  refine iE5 y1 (jY a r.wd) dx1 fs1 _ (iA6 rfl (s6 _ _ g0) (CT T _) NP (fp hw) ?_);walk_at "go";have tk:(zB .source rs ++ zB .drain rs).take (i + 1)=(zB .source rs ++ zB .drain rs).take i ++ [(j:Int)]:=by rw [aF,hm];rfl
  refine zI (λ b=>?_) (λ b=>?_)
  ·walk_at "go";refine ⟨.inl ⟨rfl,_,SqL.of ha6⟩,iE3 acc _ _ (iA5 rfl rfl ha6 (zh (by rw [zn];omega)) ?_)⟩;rw [z8];refine iE3 _ _ (ns ++ [r.pace]) (iA7 rfl (λ b o hb=>by rw [upd_ne (ne_of_none hb hacc)];exact s6 b o hb) (by rw [upd_ne nq];exact hq6) upd_same (pn.snoc b (by omega)) (by simp;omega) (λ n=>?_));rw [az,mem n,ar,tk];constructor
   ·rintro ((h|⟨m',r',h1,h2,h3,h4⟩)|h)
    ·exact .inl h
    ·exact .inr (iE2 m' r' (iA4 (aZ _ h1) h2 h3 h4))
    ·subst h;exact .inr (iE2 j r (iA4 (aT _ (ar.mpr rfl)) hr' rfl b))
   ·rintro (h|⟨m',r',h1,h2,h3,h4⟩)
    ·exact .inl (.inl h)
    ·rcases az.mp h1 with h1|h1
     ·exact .inl (.inr (iE2 m' r' (iA4 h1 h2 h3 h4)))
     ·have e:m'=j:=by have:=ar.mp h1;omega
      subst e;rw [hr'] at h2;cases h2;exact .inr h3.symm
  ·refine iE3 _ _ ns (iA7 rfl s6 hq6 ha6 pn (by omega) (λ n=>?_));rw [mem n,tk];constructor
   ·rintro (h|⟨m',r',h1,h2,h3,h4⟩)
    ·exact .inl h
    ·exact .inr (iE2 m' r' (iA4 (aZ _ h1) h2 h3 h4))
   ·rintro (h|⟨m',r',h1,h2,h3,h4⟩)
    ·exact .inl h
    ·rcases az.mp h1 with h1|h1
     ·exact .inr (iE2 m' r' (iA4 h1 h2 h3 h4))
     ·have e:m'=j:=by have:=ar.mp h1;omega
      subst e;rw [hr'] at h2;cases h2;omega
 ·intro σ H6 zz_;refine oE3 zz_ λ v2 v3 ns z1_=>oA7 z1_ λ z2_ s6 hq6 ha6 pn ln mem=>?_;clear zz_;subst z2_;rw [zn,aK] at mem;walk_at "go";refine uc (zcc T).mono (iE2 acc ns (iA4 rfl (SqL.of ha6) pn (λ L hL=>k L ns _ hL (λ n=>?_) s6)));rw [mem n];unfold xt;constructor
  ·rintro (h|⟨m',r',h1,h2,h3,h4⟩)
   ·obtain ⟨b,hb,e⟩:=aW.mp h;exact .inl ⟨b,hb,e⟩
   ·refine .inr ⟨r',iA4 (ah h2) ?_ h3 h4⟩;rcases az.mp h1 with z|z
    ·refine oE2 (xG z) λ j r z1_=>oA3 z1_ λ q1 q2 q3=>?_;have e:m'=j:=by omega
     subst e;rw [h2] at q2;cases q2;exact .inl q3
    ·refine oE2 (xG z) λ j r z1_=>oA3 z1_ λ q1 q2 q3=>?_;have e:m'=j:=by omega
     subst e;rw [h2] at q2;cases q2;exact .inr q3
  ·rintro (⟨b,hb,e⟩|⟨r,hr',hw,h3,h4⟩)
   ·exact .inl (aW.mpr ⟨b,hb,e⟩)
   ·obtain ⟨m',hm'⟩:=bD hr';refine .inr (iE2 m' r (iA4 ?_ hm' h3 h4));rcases hw with hw|hw
    ·exact aZ _ (QW hm' hw)
    ·exact aT _ (QW hm' hw)
theorem wL {H:Hp} {p:Addr->Prop} {G:Addr} {ags:List Addr} {gss:List (List Int)} {i:Nat} {g:List Int} (h:NL H p G ags (z7 gss)) (e:gss[i]?=some g):∃ b,ags[i]?=some b/\H b=some (.lst (iv g)):=by
 obtain ⟨b,vs,h1,h2,h3⟩:=h.at (i:=i) (xs:=g.map D.int) (by rw [z7,ak,e];rfl);rw [Qn h3] at h2;exact ⟨b,h1,h2⟩
def kdW (rs:List Row) (x:Int × Int):Int:=ZI ((rs[x.1.toNat]?.map Row.kinds).getD []) x.2
def ja (rs:List Row) (c:List zE):List (Option Int):=c.map λ wr=>wr.map (kdW rs)
def zbp (a:Ad):Sp:=λ vs H Q _=>∃ (vw:V) (cb:Addr) (us:List V) (bs:List (Int × Int)) (rs:List Row) (c:List zE) (p q:Addr->Prop),vs=[vw,.ref cb]/\Rep H p vw (qk a bs rs)/\H cb=some (.lst us)/\Reps H q us (c.map zQ)/\(∀ wr∈c,qD rs wr)/\(∀ r∈rs,r.ok)/\c.length<=6/\∀ t H',Same H H'->H t=none->H' t=some (.tup ((ja rs c).map oiV))->Q (.ref t) H'
theorem zaw (T:Txt K mg a):Cal P w K mg base "kinds_in" 2 ["work","cells"] [] (zbp a):=T.h_kinds_in.cal λ F=>by
 refine F.okx Wx ?_ ?_
 ·walk_at "i"
 walk_at "j";refine oE8 h λ vw cb us bs rs c p q z1_=>oA8 z1_ λ z2_ hw hcb rus wk ro c6 k=>?_;clear h;subst z2_;have lu:us.length=c.length:=by rw [rus.len,ae]
 walk_at "T";refine ⟨_,(zc (zk (wE Zj Zk (za (jG (vars:=["ware"]) (caps:=[0]) (N:=["ware","work"]) (ON:=["work","cells"]) (osc:=zd xT) rfl rfl (by first|decide +kernel|kernel_rfl) rfl rfl (z9 (pq 1)) (λ s H fp pins=>(zW 0 (show (["ware","work"]:List Str).Nodup from by decide +kernel))) (λ s H fp pins=>qc) (λ s H fp pins=>(xg (zm je (pq 0) zD (zr _)) zD (ZG hr (za (pq 1) (za (pq 0) zb)))))) zb)))),?_⟩;walk_at "lc";walk_at "go";refine ⟨cb,rfl,.inl ⟨⟨_,SqL.of hcb⟩,λ _ _ _ _ acc hacc=>?_⟩⟩;refine qG (K:=K) (a:=cb) (xs:=us) (λ j σ H'=>∃ (v0:Option V),σ=[v0,some vw]/\Same H H'/\H' acc=some (.lst ((ja rs (c.take j)).map oiV))) ⟨_,iA3 rfl (ze hacc) upd_same⟩ (λ i σ H' _ h=>by obtain ⟨_,_,s,_⟩:=h;exact SqL.of (s _ _ hcb)) ?_ ?_
 ·intro j v σ H1 hj zz_;refine oE1 zz_ λ v0 z1_=>oA3 z1_ λ z2_ s1 ha=>?_;clear zz_;subst z2_;obtain ⟨d,hd,rv⟩:=rus.at hj;rw [ak,aq] at hd;obtain ⟨wr,hwr,rfl⟩:=hd;have hjl:=(aa.mp hwr).1;have e:(ja rs (c.take (j + 1))).map oiV=(ja rs (c.take j)).map oiV ++ [oiV (wr.map (kdW rs))]:=by
   rw [aF,hwr];simp [ja]
  have lk:((ja rs (c.take j)).map oiV).length<=6:=by simp [ja];omega
  have sn:∀ (x:V),Same H (upd H1 acc (.lst ((ja rs (c.take j)).map oiV ++ [x]))):=λ x b o hb=>by rw [upd_ne (ne_of_none hb hacc)];exact s1 b o hb
  cases wr with
  | none =>
   have rv:Rep H q v .non:=rv;cases rv;walk_at "go";exact ⟨_,iA3 ha (zh (by omega)) ⟨_,iA3 rfl (sn _) (by rw [upd_same,e];rfl)⟩⟩
  | some x =>
   obtain ⟨tx,rfl,htx⟩:=jH (b:=x) rv;refine oE2 (wk _ (ah hwr) x.1 x.2 rfl) λ jj r z1_=>oA4 z1_ λ e1 hr' hs _=>?_;have kp:0 < r.kinds.length:=by
    have ok:=ro r (ah hr');unfold Row.ok at ok;rw [hs] at ok;have:=ok.2.2.2.2.1;omega
   have hw1:Rep H1 p vw (qk a bs rs):=hw.keep λ b o hb ho=>⟨hb,s1 _ _ ho⟩;have rx:Rep H1 q (.ref tx) (.tup [.int jj,.int x.2]):=by
    have:=rv.keep (H':=H1) (q:=q) λ b o hb ho=>⟨hb,s1 _ _ ho⟩;have e2:zQ (some x)=.tup [.int x.1,.int x.2]:=rfl;rw [e2,e1] at this;exact this
   walk_at "go";refine uc (Xb T).mono (iE5 vw (.ref tx) bs rs p (iE4 q jj x.2 r (iA7 rfl hw1 rx hr' hs kp ?_)));refine ⟨_,iA3 ha (zh (by omega)) ⟨_,iA3 rfl (sn _) ?_⟩⟩;rw [upd_same,e];show _=some (HO.lst (_ ++ [V.int (kdW rs x)]))
   unfold kdW;rw [e1,aO,hr']
   rfl
 intro σ H1 zz_;refine oE1 zz_ λ v0 z1_=>oA3 z1_ λ z2_ s1 ha=>?_;clear zz_;subst z2_;rw [lu,aK] at ha;refine iE2 acc _ ⟨rfl,.inl ⟨SqL.of ha,λ t ht=>?_⟩⟩;exact k t _ (s1.trans (ze ht)) (zT s1 ht) upd_same
def ZO (bs:List (Int × Int)) (rs:List Row) (L:Int):Prop:=∃ ns,IsLcm ns L/\∀ n,n∈ns ↔ xt bs rs n
theorem zdL {bs:List (Int × Int)} {rs:List Row} {L L':Int} (h:ZO bs rs L) (h':ZO bs rs L'):L=L':=by
 obtain ⟨ns,i,m⟩:=h;obtain ⟨ns',i',m'⟩:=h';have d:L ∣ L':=i.least _ λ n hn=>i'.dv n ((m' n).mpr ((m n).mp hn));have d':L' ∣ L:=i'.least _ λ n hn=>i.dv n ((m n).mpr ((m' n).mp hn));exact Int.dvd_antisymm (cr i.pos) (cr i'.pos) d d'
open Classical in
noncomputable def beatL (bs:List (Int × Int)) (rs:List Row):Int:=if h:∃ L,ZO bs rs L then Classical.choose h else 1
theorem Vy {bs:List (Int × Int)} {rs:List Row} {L:Int} (h:ZO bs rs L):L=beatL bs rs:=by
 unfold beatL;rw [dif_pos ⟨L,h⟩];exact zdL h (Classical.choose_spec (⟨L,h⟩:∃ L,ZO bs rs L))
def xw (rs:List Row) (st:PSt) (j:Int):Int:=match rs[j.toNat]? with
 | some r=>(st.gone.getD j.toNat []).headD 0 % (r.kinds.length:Int)
 | none=>0
noncomputable def shapeF (bs:List (Int × Int)) (rs:List Row) (st:PSt):ShK:=(some (st.turn % beatL bs rs),st.cells.map (ja rs),st.sides.map some,(zB .source rs).map λ j=>some (xw rs st j))
def Wl (a:Ad):Sp:=λ vs H Q _=>∃ (vw:V) (y:Addr) (n:SN) (j:Nat) (bs:List (Int × Int)) (rs:List Row) (st:PSt) (r:Row) (p:Addr->Prop),vs=[vw,.ref y,.int j]/\Rep H p vw (qk a bs rs)/\StO a H y n st/\rs[j]?=some r/\r.wd=.source/\r.ok/\stWf bs rs st/\Q (.int (xw rs st j)) H
theorem X7 (T:Txt K mg a):Cal P w K mg base "kind_place" 1 ["work","state","number"] [] (Wl a):=T.h_kind_place.cal λ F=>by
 refine F.okx Jv ?_ ?_
 ·walk_at "i"
 walk_at "j";refine oE5 h λ vw y n j bs z1_=>oE4 z1_ λ rs st r p z2_=>oA8 z2_ λ z3_ hv so hr' hs ok wf k=>?_;clear h;subst z3_;refine oE7 (qL hv) λ yw dx fs l1 l2 bvs kvs z1_=>oA9 z1_ λ z2_ hy e1 e2 h1 h2 hB hK no=>?_;subst z2_;obtain ⟨kv,hkv,hKn⟩:=Qm hK hr';refine oE6 hKn.inv λ y1 dx1 m1 m2 m3 fs1 z1_=>oA9 z1_ λ z2_ _ _ _ _ g0 _ _ z3_=>oA5 z3_ λ _ _ _ g3 _=>?_;subst z2_;obtain ⟨g3a,g3b⟩:=g3 hs;have kp:0 < r.kinds.length:=by
  unfold Row.ok at ok;rw [hs] at ok;have:=ok.2.2.2.2.1;omega
 have hj:=(aa.mp hr').1;obtain ⟨g,hg⟩:∃ g,st.gone[j]?=some g:=⟨_,ad (by rw [wf.go.1];exact hj)⟩;have q1:=(wf.go.2 j r g hr' hg).1;have cp:=qS ok;obtain ⟨gh,gs,rfl⟩:=bZ (dl (by omega:0 < g.length));obtain ⟨bG,hbG,hgG⟩:=wL so.hg hg;have hmap:(n.ags.map V.ref)[j]?=some (.ref bG):=by rw [ak,hbG];rfl
 have ek:xw rs st j=gh % (r.kinds.length:Int):=by
  unfold xw;rw [aO,hr',ap,hg]
  rfl
 rw [ek] at k;walk_at "T";refine ⟨_,(zc (zk (zq qt (zw (zw (zj (pq 1) rfl) (pq 2)) zf) (zP zY zX (za (zj (zw (zj (pq 0) rfl) (pq 2)) rfl) zb))))),?_⟩;walk_at "go";refine ra so.hy T.C_State T.N_State_gone rfl (zu (SqL.of so.hg.out) (zG hmap) (zu (SqL.of hgG) at0 ?_));walk_at "go";refine ra hy T.C_Work T.N_Work_knots e2 (zu (SqL.of h2) (zG hkv) ?_);refine iE5 y1 (jY a r.wd) dx1 fs1 _ (iA6 rfl g0 (CT T _) (by rw [hs];exact T.N_Source_kinds) g3a ?_);refine ⟨_,.inl ⟨_,SqL.of g3b,rfl⟩,?_⟩;rw [zn];walk_at "go";exact ⟨by omega,k⟩
theorem XD {H:Hp} {p:Addr->Prop}:∀ c:List (Option Int),Reps H p (c.map oiV) (c.map oiD)
 | []=>.nil
 | none :: c=>.cons .non (XD c)
 | some n :: c=>.cons .int (XD c)
theorem V1 {H:Hp} {t:Addr} {c:List (Option Int)} (h:H t=some (.tup (c.map oiV))):Rep H (zR H) (.ref t) (.tup (c.map oiD)):=(XD c).mkT ⟨_,h⟩ h
theorem vM {H H':Hp} {v:V} {d:D} (r:Rep H (zR H) v d) (s:Same H H'):Rep H' (zR H') v d:=r.keep λ b o ⟨xs,hx⟩ hb=>⟨⟨xs,s _ _ hx⟩,s _ _ hb⟩
theorem JN {H H':Hp} {vs:List V} {ds:List D} (r:Reps H (zR H) vs ds) (s:Same H H'):Reps H' (zR H') vs ds:=r.keep λ b o ⟨xs,hx⟩ hb=>⟨⟨xs,s _ _ hx⟩,s _ _ hb⟩
theorem zc1 {wd:Wd} {rs:List Row} {m:Int} (h:m∈zB wd rs):∃ (j:Nat) (r:Row),m=j/\rs[j]?=some r/\r.wd=wd:=by
 unfold zB qZ at h;obtain ⟨j,hj,rfl⟩:=aW.mp h;obtain ⟨h1,h2⟩:=cg.mp hj;have h2:=bw h2;obtain ⟨r,hr,e⟩:=aq.mp h2;exact iE2 j r (iA3 rfl hr e)
def zdS (a:Ad):Sp:=λ vs H Q _=>∃ (vw:V) (y:Addr) (n:SN) (bs:List (Int × Int)) (rs:List Row) (st:PSt) (p:Addr->Prop),vs=[vw,.ref y]/\Rep H p vw (qk a bs rs)/\StO a H y n st/\stWf bs rs st/\bs.length<=24/\rs.length<=24/\(∀ b∈bs,zy b.1 b.2)/\(∀ r∈rs,r.ok)/\∀ t H',Same H H'->Rep H' (zR H') (.ref t) (shD (shapeF bs rs st))->Q (.ref t) H'
theorem Jj (T:Txt K mg a):Cal P w K mg base "shape_of" 4 ["work","state"] [] (zdS a):=T.h_shape_of.cal λ F=>by
 refine F.okx Wu ?_ ?_
 ·walk_at "i"
 walk_at "j";refine oE7 h λ vw y n bs rs st p z1_=>oA9 z1_ λ z2_ hv so wf b24 r24 bo ro k=>?_;clear h;subst z2_;refine oE7 (qL hv) λ yw dx fs l1 l2 bvs kvs z1_=>oA9 z1_ λ z2_ hy e1 e2 h1 h2 hB hK no=>?_;subst z2_;walk_at "T";refine ⟨_,(zi (zp 2 Wu.nd (zq qt (zj (pq 1) rfl) (Ql ⟨rfl,rfl,rfl⟩ hr (pq 0))))  (zi (zp 3 Wu.nd (wE Zj Zk (za (jG (vars:=["cells"]) (caps:=[0]) (N:=["cells","work"]) (ON:=["work","state","beat_place","kinds","places"]) (osc:=zd j6) rfl rfl (by first|decide +kernel|kernel_rfl) rfl rfl (z9 (zj (pq 1) rfl)) (λ s H fp pins=>(zW 0 (show (["cells","work"]:List Str).Nodup from by decide +kernel))) (λ s H fp pins=>qc) (λ s H fp pins=>(ZG hr (za (pq 1) (za (pq 0) zb))))) zb)))  (zi (zp 4 Wu.nd (wE Zj Zk (za (jG (vars:=["number"]) (caps:=[0,1]) (N:=["number","work","state"]) (ON:=["work","state","beat_place","kinds","places"]) (osc:=zd j6) rfl rfl (by first|decide +kernel|kernel_rfl) rfl rfl (z9 (Ql ⟨rfl,rfl,rfl⟩ hr (pq 0))) (λ s H fp pins=>(zW 0 (show (["number","work","state"]:List Str).Nodup from by decide +kernel))) (λ s H fp pins=>qc) (λ s H fp pins=>(ZG hr (za (pq 1) (za (pq 2) (za (pq 0) zb)))))) zb)))  (zc (zk (jx (za (pq 2) (za (pq 3) (za (wE Zj Zk (za (zj (pq 1) rfl) zb)) (za (pq 4) zb)))))))))),?_⟩;walk_at "go";refine ra so.hy T.C_State T.N_State_turn rfl ?_;refine iE7 yw a.Work dx fs _ _ _ (iA5 rfl hy (no _ (by decide +kernel) (by decide +kernel)) ((WW T).mono) ?_);refine iE4 (.ref yw) bs rs p (iA7 rfl hv (by omega) (by omega) bo ro (λ L ns H1 il im s1=>?_));have lp:=il.pos;have eL:=Vy ⟨ns,il,im⟩;walk_at "go";rw [eL];clear il im lp eL;have so1:=so.same s1;have hv1:Rep H1 p (.ref yw) (qk a bs rs):=hv.keep λ b o hb ho=>⟨hb,s1 _ _ ho⟩;have lc:n.acs.length=st.cells.length:=by rw [so.hc.len,zC,ae]
 have lcb:st.cells.length=bs.length:=wf.co.1;walk_at "lc";walk_at "go";refine ra so1.hy T.C_State T.N_State_cells rfl ⟨n.lc,rfl,.inl ⟨⟨_,SqL.of so1.hc.out⟩,λ _ _ _ _ acc hacc=>?_⟩⟩;refine qG (K:=K) (a:=n.lc) (xs:=n.acs.map V.ref) (λ i σ H'=>∃ (v0:Option V) (us:List V),σ=[v0,some (.ref yw)]/\Same H1 H'/\H' acc=some (.lst us)/\us.length=i/\Reps H' (zR H') us ((st.cells.take i).map λ c=>.tup ((ja rs c).map oiD))) (iE2 _ ([]) (iA5 rfl (ze hacc) upd_same rfl (.nil))) (λ i σ H' _ h=>by obtain ⟨_,_,_,s,_⟩:=h;exact SqL.of (s _ _ so1.hc.out)) ?_ ?_
 ·intro i x σ H2 hi zz_;refine oE2 zz_ λ v0 us z1_=>oA5 z1_ λ z2_ s2 ha lu ru=>?_;clear zz_;subst z2_;rw [ak,aq] at hi;obtain ⟨cb,hcb,rfl⟩:=hi;have hil:i < st.cells.length:=by rw [<- lc];exact (aa.mp hcb).1
  obtain ⟨c,ec⟩:∃ c,st.cells[i]?=some c:=⟨_,ad hil⟩;obtain ⟨vs,hvs,rvs⟩:=so1.hc.g i cb _ hcb (show (zC st.cells)[i]?=some (c.map zQ) by rw [zC,ak,ec];rfl);obtain ⟨b,hb⟩:∃ b,bs[i]?=some b:=⟨_,ad (by rw [<- wf.co.1];exact hil)⟩;obtain ⟨lc6,wk⟩:=wf.co.2 i b c hb ec;have bk:=(bo b (ah hb)).2.1;walk_at "go";refine uc (zaw T).mono (iE8 (.ref yw) cb vs bs rs c p _ (iA8 rfl (hv1.keep (λ b o hb ho=>⟨hb,s2 _ _ ho⟩)) (s2 _ _ hvs) (rvs.keep (λ b o hb ho=>⟨hb,s2 _ _ ho⟩)) wk ro (by omega) (λ t H3 s3 nt ht=>?_)));have nta:∀ b,zR H3 b->b≠acc:=λ b ⟨xs,hx⟩ z=>by rw [z,s3 _ _ ha] at hx;cases hx
  refine ⟨_,iA3 (s3 _ _ ha) (zh (by omega)) (iE2 _ (us ++ [.ref t]) (iA5 rfl (λ b o hb=>by rw [upd_ne (ne_of_none hb hacc)];exact s3 _ _ (s2 b o hb)) upd_same (by simp [lu]) ?_))⟩;rw [aF,ec,aV];refine ((JN ru s3).append (.one (V1 ht))).keep λ b o tb hb=>?_;have ne:=nta b tb;obtain ⟨xs,hx⟩:=tb;exact ⟨⟨xs,by rw [upd_ne ne];exact hx⟩,by rw [upd_ne ne];exact hb⟩
 intro σ H2 zz_;refine oE2 zz_ λ v0 us z1_=>oA5 z1_ λ z2_ s2 ha lu ru=>?_;clear zz_;subst z2_;rw [ae,lc,aK] at ru;refine iE2 acc _ ⟨rfl,.inl ⟨SqL.of ha,λ t1 ht1=>?_⟩⟩;have s3:=ze (o:=.tup us) ht1;have ru3:=JN ru s3;have hT1:upd H2 t1 (.tup us) t1=some (.tup us):=upd_same;have s13:=s2.trans s3;generalize upd H2 t1 (.tup us)=H3 at s3 ru3 hT1 s13 ⊢;have r1:Rep H3 (zR H3) (.ref t1) (.tup ((st.cells.map (ja rs)).map λ r=>.tup (r.map oiD))):=by
  rw [d9];exact ru3.mkT ⟨_,hT1⟩ hT1
 clear ru ru3 ha hT1 s2 s3;have so3:=so1.same s13;have hv3:Rep H3 p (.ref yw) (qk a bs rs):=hv1.keep λ b o hb ho=>⟨hb,s13 _ _ ho⟩;walk_at "go";refine iE7 yw a.Work dx fs _ _ _ (iA5 rfl (s13 _ _ (s1 _ _ hy)) (no _ (by decide +kernel) (by decide +kernel)) ((wI T).mono) ?_);refine iE4 (.ref yw) bs rs p (iA4 rfl hv3 (by omega) (λ q H4 s4 nq hq=>?_));have ln:=jy .source rs rs.length;have so4:=so3.same s4;have hv4:Rep H4 p (.ref yw) (qk a bs rs):=hv3.keep λ b o hb ho=>⟨hb,s4 _ _ ho⟩;refine ⟨q,rfl,.inl ⟨⟨_,SqL.of hq⟩,λ _ _ _ _ ac2 hac2=>?_⟩⟩;refine qG (K:=K) (a:=q) (xs:=iv (zB .source rs)) (λ i σ H'=>∃ (v0:Option V),σ=[v0,some (.ref yw),some (.ref y)]/\Same H4 H'/\H' ac2=some (.lst ((((zB .source rs).take i).map λ j=>some (xw rs st j)).map oiV))) ⟨_,iA3 rfl (ze hac2) upd_same⟩ (λ i σ H' _ h=>by obtain ⟨_,_,s,_⟩:=h;exact SqL.of (s _ _ hq)) ?_ ?_
 ·intro i x σ H5 hi zz_;refine oE1 zz_ λ v0 z1_=>oA3 z1_ λ z2_ s5 ha=>?_;clear zz_;subst z2_;obtain ⟨m,hm,rfl⟩:=xH hi;have hil:=(aa.mp hm).1;refine oE2 (zc1 (ah hm)) λ jj r z1_=>oA3 z1_ λ z2_ hr' hs=>?_;subst z2_;have ln:(zB .source rs).length<=rs.length:=ln;walk_at "go";refine uc (X7 T).mono (iE5 (.ref yw) y n jj bs (iE4 rs st r p (iA8 rfl (hv4.keep (λ b o hb ho=>⟨hb,s5 _ _ ho⟩)) (so4.same s5) hr' hs (ro r (ah hr')) wf ?_)));refine ⟨_,iA3 ha (zh (by rw [ae,ae,aI];omega)) ⟨_,iA3 rfl (λ b o hb=>by rw [upd_ne (ne_of_none hb hac2)];exact s5 b o hb) ?_⟩⟩;rw [upd_same,aF,hm];simp [oiV]
 intro σ H5 zz_;refine oE1 zz_ λ v0 z1_=>oA3 z1_ λ z2_ s5 ha=>?_;clear zz_;subst z2_;rw [zn,aK] at ha;refine iE2 ac2 _ ⟨rfl,.inl ⟨SqL.of ha,λ t2 ht2=>?_⟩⟩;have s6:=ze (o:=.tup (((zB .source rs).map λ j=>some (xw rs st j)).map oiV)) ht2;have hT2:upd H5 t2 (.tup (((zB .source rs).map λ j=>some (xw rs st j)).map oiV)) t2=some (.tup (((zB .source rs).map λ j=>some (xw rs st j)).map oiV)):=upd_same;have s36:=(s4.trans s5).trans s6;generalize upd H5 t2 (.tup (((zB .source rs).map λ j=>some (xw rs st j)).map oiV))=H6 at s36 hT2 ⊢;have so6:=so3.same s36;walk_at "go";refine ra so6.hy T.C_State T.N_State_sides rfl (iE2 n.ls _ ⟨rfl,.inl ⟨SqL.of so6.hs,λ t3 ht3=>?_⟩⟩);intro t4 ht4;have s7:=ze (o:=.tup (iv st.sides)) ht3;have hT3:upd H6 t3 (.tup (iv st.sides)) t3=some (.tup ((st.sides.map some).map oiV)):=by rw [upd_same,d9];rfl
 generalize upd H6 t3 (.tup (iv st.sides))=H7 at s7 hT3 ht4 ⊢;have s8:=ze (o:=.tup [.int (st.turn % beatL bs rs),.ref t1,.ref t3,.ref t2]) ht4;have hT4:upd H7 t4 (.tup [.int (st.turn % beatL bs rs),.ref t1,.ref t3,.ref t2]) t4=some (.tup [.int (st.turn % beatL bs rs),.ref t1,.ref t3,.ref t2]):=upd_same;generalize upd H7 t4 (.tup [.int (st.turn % beatL bs rs),.ref t1,.ref t3,.ref t2])=H8 at s8 hT4 ⊢;refine k t4 H8 ((s1.trans s13).trans (s36.trans (s7.trans s8))) ?_;exact Reps.mkT (vs:=[.int (st.turn % beatL bs rs),.ref t1,.ref t3,.ref t2]) (.cons .int (.cons (vM r1 (s36.trans (s7.trans s8))) (.cons (vM (V1 hT3) s8) (.cons (vM (V1 hT2) (s7.trans s8)) .nil)))) ⟨_,hT4⟩ hT4
theorem zaM {H:Hp} {p:Addr->Prop} {x:Option Int} {u:V} (h:Rep H p u (oiD x)):u=oiV x:=by
 cases x with
 | none=>have h:Rep H p u .non:=h;cases h;rfl
 | some n=>have h:Rep H p u (.int n):=h;cases h;rfl
theorem za7 {H:Hp} {p q:Addr->Prop} {n:Nat} {x y:Option Int} {u v:V} (h1:Rep H p u (oiD x)) (h2:Rep H q v (oiD y)):DE K H n u v (decide (x=y)):=by
 rw [<- zfk,zaM h1,zaM h2];exact .flat (WO x) (WO y)
theorem XQ {H:Hp} {p q:Addr->Prop} {x y:Option Int} {u:V} (h1:Rep H p u (oiD x)) (h2:Rep H q u (oiD y)):x=y:=by
 have e:=(zaM h1).symm.trans (zaM h2);cases x <;> cases y <;> simp_all [oiV]
theorem zcN {α:Type} {H:Hp} {p q:Addr->Prop} {f:α->D} {us:List V} {xs ys:List α} (hj:∀ x y u,Rep H p u (f x)->Rep H q u (f y)->x=y) (h1:Reps H p us (xs.map f)) (h2:Reps H q us (ys.map f)):xs=ys:=by
 have l1:=h1.len;have l2:=h2.len;rw [ae] at l1 l2;refine List.ext_getElem (by omega) λ i a b=>?_;have e:us[i]?=some (us[i]'(by omega)):=ad _;exact hj _ _ _ (h1.g i _ _ e (by rw [ak,ad a];rfl)) (h2.g i _ _ e (by rw [ak,ad b];rfl))
theorem zaB {α:Type} {H:Hp} {p q:Addr->Prop} {f:α->D} {u:V} {xs ys:List α} (hj:∀ x y u,Rep H p u (f x)->Rep H q u (f y)->x=y) (h1:Rep H p u (.tup (xs.map f))) (h2:Rep H q u (.tup (ys.map f))):xs=ys:=by
 refine oE2 h1.tup' λ l us z1_=>oA4 z1_ λ z2_ _ hl ru=>?_;subst z2_;refine oE2 h2.tup' λ m vs z1_=>oA4 z1_ λ e _ hm rv=>?_;cases e;rw [hl] at hm;cases hm;exact zcN hj ru rv
theorem X3 {α:Type} [DecidableEq α] {H:Hp} {p q:Addr->Prop} {n:Nat} {f:α->D} {xs ys:List α} {u v:V} (hi:∀ x y u v,Rep H p u (f x)->Rep H q v (f y)->DE K H n u v (decide (x=y))) (hj:∀ x y u,Rep H p u (f x)->Rep H q u (f y)->x=y) (h1:Rep H p u (.tup (xs.map f))) (h2:Rep H q v (.tup (ys.map f))):DE K H (n + 1) u v (decide (xs=ys)):=by
 have h1':=h1;refine oE2 h1.tup' λ l us z1_=>oA4 z1_ λ z2_ _ hl ru=>?_;subst z2_;refine oE2 h2.tup' λ m vs z1_=>oA4 z1_ λ z2_ _ hm rv=>?_;subst z2_;have lu:=ru.len;have lv:=rv.len;rw [ae] at lu lv;by_cases e:l=m
 ·subst e;rw [bO (zaB hj h1' h2)];exact .same
 ·have:=DE.tuples (K:=K) (n:=n) (e:=λ j=>decide (xs[j]?=ys[j]?)) e (SqT.of hl) (SqT.of hm) λ j x y hx hy=>by
   obtain ⟨d,hd,r1⟩:=ru.at hx;obtain ⟨d',hd',r2⟩:=rv.at hy;rw [ak,aq] at hd hd';obtain ⟨x',e1,rfl⟩:=hd;obtain ⟨y',e2,rfl⟩:=hd';show DE K H n x y (decide (xs[j]?=ys[j]?))
   rw [e1,e2,show decide (some x'=some y')=decide (x'=y') by simp];exact hi x' y' x y r1 r2
  rw [lu,lv,zfP] at this;exact this
def qE (b0 b1 b2 b3:Bool):Nat->Bool
 | 0=>b0
 | 1=>b1
 | 2=>b2
 | _=>b3
theorem zfa (k1 k2:ShK):((List.range (min 4 4)).all (qE (decide (k1.1=k2.1)) (decide (k1.2.1=k2.2.1)) (decide (k1.2.2.1=k2.2.2.1)) (decide (k1.2.2.2=k2.2.2.2))) && (4 == 4))=decide (k1=k2):=by
 obtain ⟨a,b,c,d⟩:=k1;obtain ⟨a',b',c',d'⟩:=k2;show ((decide (a=a') && (decide (b=b') && (decide (c=c') && (decide (d=d') && true)))) && true)=_
 simp
theorem zd6 {H:Hp} {Q:VK} {p q:Addr->Prop} {k1 k2:ShK} {u v:V} (neg:Bool) (h1:Rep H p u (shD k1)) (h2:Rep H q v (shD k2)) (k:Q (.bl (if neg then !decide (k1=k2) else decide (k1=k2))) H):zcS K neg u v H Q:=by
 refine oE2 (Rep.tup' h1) λ l us z1_=>oA4 z1_ λ z2_ _ hl ru=>?_;subst z2_;refine oE2 (Rep.tup' h2) λ m vs z1_=>oA4 z1_ λ z2_ _ hm rv=>?_;subst z2_;have lu:us.length=4:=ru.len;have lv:vs.length=4:=rv.len;refine iE6 l m us vs 2 (qE (decide (k1.1=k2.1)) (decide (k1.2.1=k2.2.1)) (decide (k1.2.2.1=k2.2.2.1)) (decide (k1.2.2.2=k2.2.2.2))) (iA5 rfl rfl (by decide) (λ j x y hx hy=>?_) (.inr ⟨SqT.of hl,SqT.of hm,?_⟩))
 ·have hj:=(aa.mp hx).1
  match j,hj,hx,hy with
  | 0,_,hx,hy=>exact za7 (ru.g 0 x _ hx rfl) (rv.g 0 y _ hy rfl)
  | 1,_,hx,hy=>exact X3 (f:=λ r:List (Option Int)=>.tup (r.map oiD)) (λ _ _ _ _ a b=>X3 (λ _ _ _ _ a b=>za7 a b) (λ _ _ _ a b=>XQ a b) a b) (λ _ _ _ a b=>zaB (λ _ _ _ a b=>XQ a b) a b) (ru.g 1 x _ hx rfl) (rv.g 1 y _ hy rfl)
  | 2,_,hx,hy=>exact X3 (n:=1) (λ _ _ _ _ a b=>za7 a b) (λ _ _ _ a b=>XQ a b) (ru.g 2 x _ hx rfl) (rv.g 2 y _ hy rfl)
  | 3,_,hx,hy=>exact X3 (n:=1) (λ _ _ _ _ a b=>za7 a b) (λ _ _ _ a b=>XQ a b) (ru.g 3 x _ hx rfl) (rv.g 3 y _ hy rfl)
  | j + 4,hj,_,_=>omega
 ·rw [lu,lv,zfa];exact k
def zaH (a:Ad):Sp:=λ vs H Q _=>∃ (vw:V) (y1 y2:Addr) (n1 n2:SN) (bs:List (Int × Int)) (rs:List Row) (s1 s2:PSt) (p:Addr->Prop),vs=[vw,.ref y1,.ref y2]/\Rep H p vw (qk a bs rs)/\StO a H y1 n1 s1/\StO a H y2 n2 s2/\stWf bs rs s1/\stWf bs rs s2/\bs.length<=24/\rs.length<=24/\(∀ b∈bs,zy b.1 b.2)/\(∀ r∈rs,r.ok)/\∀ H',Same H H'->Q (.bl (decide (shapeF bs rs s1=shapeF bs rs s2))) H'
theorem J6 {a:Ad} {vs:List V} {H:Hp} {Q:VK} {E:XK} (vw:V) (y1 y2:Addr) (n1 n2:SN) (bs:List (Int × Int)) (rs:List Row) (s1 s2:PSt) (p:Addr->Prop) (q0:vs=[vw,.ref y1,.ref y2]) (q1:Rep H p vw (qk a bs rs)) (q2:StO a H y1 n1 s1) (q3:StO a H y2 n2 s2) (q4:stWf bs rs s1) (q5:stWf bs rs s2) (q6:bs.length<=24) (q7:rs.length<=24) (q8:(∀ b∈bs,zy b.1 b.2)) (q9:(∀ r∈rs,r.ok)) (q10:∀ H',Same H H'->Q (.bl (decide (shapeF bs rs s1=shapeF bs rs s2))) H'):zaH a vs H Q E:=⟨vw,y1,y2,n1,n2,bs,rs,s1,s2,p,q0,q1,q2,q3,q4,q5,q6,q7,q8,q9,q10⟩
theorem zbc (T:Txt K mg a):Cal P w K mg base "alike" 5 ["work","one","other"] [] (zaH a):=T.h_alike.cal λ F=>by
 refine F.okx zcK ?_ ?_
 ·walk_at "i"
 walk_at "j";refine oE8 h λ vw y1 y2 n1 n2 bs rs s1 z1_=>oE2 z1_ λ s2 p z2_=>oA9 z2_ λ z3_ hv so1 so2 w1 w2 b24 r24 z4_=>oA3 z4_ λ bo ro k=>?_;clear h;subst z3_;walk_at "T";refine ⟨_,(zc (zk (vX (zc0 hr.units1) (zt ⟨rfl,rfl,rfl⟩ hr (za (pq 0) (za (pq 1) zb))) (zt ⟨rfl,rfl,rfl⟩ hr (za (pq 0) (za (pq 2) zb))) (zr _)))),?_⟩;walk_at "go";refine uc (Jj T).mono (iE7 vw y1 n1 bs rs s1 p (iA9 rfl hv so1 w1 b24 r24 bo ro (λ t1 H1 e1 r1=>?_)));refine uc (Jj T).mono (iE7 vw y2 n2 bs rs s2 p (iA9 rfl (hv.keep (λ b o hb ho=>⟨hb,e1 _ _ ho⟩)) (so2.same e1) w2 b24 r24 bo ro (λ t2 H2 e2 r2=>?_)));exact .inr (.inr (zd6 false (vM r1 e2) r2 (k _ (e1.trans e2))))
def six (L:Int):Prop:=L=1\/L=2\/L=3\/L=4\/L=6\/L=12
theorem ze3 {L:Int} (p:0 < L) (d:L ∣ 12):six L:=by
 have l:=Int.le_of_dvd (by decide) d;obtain ⟨q,hq⟩:=d;have h:L=1\/L=2\/L=3\/L=4\/L=5\/L=6\/L=7\/L=8\/L=9\/L=10\/L=11\/L=12:=by omega
 unfold six;rcases h with rfl|rfl|rfl|rfl|rfl|rfl|rfl|rfl|rfl|rfl|rfl|rfl <;> omega
theorem zdM {L d:Int} {i:Nat} (h:six L) (e:([1,2,3,4,6]:List Int)[i]?=some d) (no:∀ x∈([1,2,3,4,6]:List Int).take i,¬ L ∣ x) (y:L ∣ d):d=L:=by
 match i,e with
 | 0,e=>cases e;rcases h with rfl|rfl|rfl|rfl|rfl|rfl <;> revert y no <;> decide
 | 1,e=>cases e;rcases h with rfl|rfl|rfl|rfl|rfl|rfl <;> revert y no <;> decide
 | 2,e=>cases e;rcases h with rfl|rfl|rfl|rfl|rfl|rfl <;> revert y no <;> decide
 | 3,e=>cases e;rcases h with rfl|rfl|rfl|rfl|rfl|rfl <;> revert y no <;> decide
 | 4,e=>cases e;rcases h with rfl|rfl|rfl|rfl|rfl|rfl <;> revert y no <;> decide
 | i + 5,e=>simp at e
theorem zci {L:Int} (h:six L) (no:∀ x∈([1,2,3,4,6]:List Int),¬ L ∣ x):L=12:=by
 rcases h with rfl|rfl|rfl|rfl|rfl|rfl <;> revert no <;> decide
theorem all_dv {b:Int} {ns:List Int}:(ns.map λ n=>decide (b % n=0)).all id=true ↔ ∀ n∈ns,n ∣ b:=by
 rw [cS];constructor
 ·intro h n hn;have:=h _ (aW.mpr ⟨n,hn,rfl⟩);exact Int.dvd_of_emod_eq_zero (bw this)
 ·intro h x hx;obtain ⟨n,hn,rfl⟩:=aW.mp hx;exact bO (cT (h n hn))
theorem zgA (n:Nat):(if (n:Int) > 1 then (n:Int) else 1)=((max 1 n:Nat):Int):=by
 by_cases h:(n:Int) > 1
 ·rw [aA h];omega
 ·rw [aw h];omega
theorem zgz {n:Int} (h:0<=n) (h4:n<=4):∃ m:Int,(if n > 1 then n else 1)=m/\1<=m/\m<=4/\∀ d:Int,m ∣ d ↔ (0 < n->n ∣ d):=by
 by_cases z:n > 1
 ·rw [aA z];exact ⟨n,rfl,by omega,h4,λ d=>⟨λ x _=>x,λ x=>x (by omega)⟩⟩
 ·rw [aw z];refine ⟨1,iA4 rfl (by omega) (by omega) (λ d=>⟨λ _ p=>?_,λ _=>eG d⟩)⟩;rw [show n=1 by omega];exact eG d
theorem zgB (T:Txt K mg a) (wd:Wd):PySem.W.kitOne K (.ref (jY a wd)) (.ref a.Parter)=some (decide (wd=.parter)):=by
 cases wd
 ·exact T.k1_Source_Parter
 ·exact T.k1_Drain_Parter
 ·exact T.k1_Parter_Parter
 ·exact T.k1_FirstParter_Parter
 ·exact T.k1_Sieve_Parter
 ·exact T.k1_Joiner_Parter
def zcD (K:PySem.W.Frag):Sp:=λ vs H Q _=>∃ (l:Addr) (ns:List Int) (k:Nat),vs=[.ref l,.int k]/\SqL K H l (iv ns)/\k<=10000/\∀ n,0<=n->n < 2147483647->Q (.int n) H
theorem xI {K:PySem.W.Frag} {vs:List V} {H:Hp} {Q:VK} {E:XK} (l:Addr) (ns:List Int) (k:Nat) (q0:vs=[.ref l,.int k]) (q1:SqL K H l (iv ns)) (q2:k<=10000) (q3:∀ n,0<=n->n < 2147483647->Q (.int n) H):zcD K vs H Q E:=⟨l,ns,k,q0,q1,q2,q3⟩
theorem xM (T:Txt K mg a):Cal P w K mg base "_law_draw" 2 ["_law_script","_law_k"] [] (zcD K):=T.h_L_draw.cal λ F=>by
 refine F.okx zbx ?_ ?_
 ·walk_at "i"
 walk_at "j";refine oE3 h λ l ns kn z1_=>oA4 z1_ λ z2_ hl lk k=>?_;clear h;subst z2_;walk_at "T";refine ⟨_,(zc (zk (zt ⟨rfl,rfl,rfl⟩ hr (za (zq zL (zt ⟨rfl,rfl,rfl⟩ hr (za (pq 0) (za (zq qt (pq 1) (zP (ZN rfl) zaz (za zf (za (zP zY zX (za (pq 0) zb)) zb)))) zb))) (zq jQ (pq 1) (pq 1))) (za zf zb))))),?_⟩;walk_at "go";refine uc (qU T).mono (uc (zdJ T).mono (iA3 m_max m_len ⟨_,⟨.inl ⟨_,hl,rfl⟩,iE2 _ _ ⟨rfl,?_⟩⟩⟩));rw [zgA];have v0:=aG (kn:Int) (show ((max 1 (iv ns).length:Nat):Int)≠0 by omega);obtain ⟨j,ej⟩:∃ j:Nat,(kn:Int) % ((max 1 (iv ns).length:Nat):Int)=j:=⟨((kn:Int) % ((max 1 (iv ns).length:Nat):Int)).toNat,by omega⟩;rw [ej];refine ⟨by omega,iE3 l ns j (iA4 rfl hl (mul_okR (by omega) (by omega)) ?_)⟩;walk_at "go";exact iE2 _ _ (iA4 rfl (by decide) (by decide) (k _ (jg _ _) (zbn _ _)))
def zeZ (K:PySem.W.Frag):Sp:=λ vs H Q _=>∃ (l:Addr) (ns:List Int) (b:Int),vs=[.ref l,.int b]/\SqL K H l (iv ns)/\0 < b/\∀ n,0<=n->Q (.int n) H
theorem Vw (T:Txt K mg a):Cal P w K mg base "_law_fold" 1 ["_law_script","_law_bound"] [] (zeZ K):=T.h_L_fold.cal λ F=>by
 refine F.okx zbw ?_ ?_
 ·walk_at "i"
 walk_at "j";obtain ⟨l,ns,b,rfl,hl,b0,k⟩:=h;walk_at "T";refine ⟨_,(zi (zp 2 zbw.nd zf)  (zi (qh qF rfl (z9 (pq 0)) (zW 3 zbw.nd)  (zc (zp 2 zbw.nd (zq qt (zq zL (zq jQ (pq 2) zf) (pq 3)) (pq 1)))))  (zc (zk (pq 2))))),?_⟩;walk_at "go";walk_at "for";refine ⟨l,rfl,.inl ⟨⟨_,hl⟩,?_⟩⟩;refine qG (K:=K) (a:=l) (xs:=iv ns) (λ i σ H'=>∃ (m:Int) (v:Option V),σ=[some (.ref l),some (.int b),some (.int m),v]/\H'=H/\0<=m) ⟨0,none,rfl,rfl,by decide⟩ (λ i σ H' _ ⟨_,_,_,e,_⟩=>e ▸ hl) ?_ ?_
 ·rintro i x σ H1 hi ⟨m,v,rfl,rfl,m0⟩;obtain ⟨c,hc,rfl⟩:=xH hi;walk_at "go";refine ⟨mul_okR (by decide) (by decide),?_⟩;walk_at "go";exact ⟨_,_,rfl,aG _ (by omega)⟩
 ·rintro σ H1 ⟨m,v,rfl,rfl,m0⟩;walk_at "go";exact k _ m0
def Dv (bs:List (Int × Int)) (rs:List Row) (d:Int):Prop:=∀ n,xt bs rs n->n ∣ d
theorem Dv.snoc {bs:List (Int × Int)} {rs:List Row} {r:Row} {d:Int}:Dv bs (rs ++ [r]) d ↔ Dv bs rs d/\((r.wd=.source\/r.wd=.drain)->0 < r.pace->r.pace ∣ d):=by
 constructor
 ·intro h;refine ⟨λ n hn=>h n ?_,λ hw hp=>h _ (.inr ⟨r,iA4 (by simp) hw rfl hp⟩)⟩;rcases hn with hn|⟨x,hx,q⟩
  ·exact .inl hn
  ·exact .inr ⟨x,aZ _ hx,q⟩
 ·rintro ⟨h,g⟩ n (hn|⟨x,hx,hw,rfl,hp⟩)
  ·exact h n (.inl hn)
  ·rcases az.mp hx with hx|hx
   ·exact h _ (.inr ⟨x,iA4 hx hw rfl hp⟩)
   ·rw [ar.mp hx] at hw hp ⊢;exact g hw hp
section
variable {bs:List (Int × Int)} {rs:List Row}
theorem ZZ {n:Int} (bo:∀ b∈bs,zy b.1 b.2) (ro:∀ r∈rs,r.ok) (h:xt bs rs n):0 < n/\n<=4:=by
 rcases h with ⟨b,hb,rfl⟩|⟨r,hr,hw,rfl,hp⟩
 ·have h:=bo b hb;exact ⟨by have:=h.2.2.1;omega,h.2.2.2⟩
 ·exact ⟨hp,(QM (ro r hr) hw).2⟩
theorem zez (bo:∀ b∈bs,zy b.1 b.2) (ro:∀ r∈rs,r.ok):∃ L,ZO bs rs L:=by
 have hm:∀ n,n∈(bs.map (·.2) ++ (rs.filter λ r=>decide ((r.wd=.source\/r.wd=.drain)/\0 < r.pace)).map Row.pace) ↔ xt bs rs n:=λ n=>by
  simp only [az,aW,cg,cM,xt];constructor
  ·rintro (⟨b,hb,e⟩|⟨r,⟨hr,hw,hp⟩,e⟩)
   ·exact .inl ⟨b,hb,e⟩
   ·exact .inr ⟨r,iA4 hr hw e (by rw [<- e];exact hp)⟩
  ·rintro (⟨b,hb,e⟩|⟨r,hr,hw,e,hp⟩)
   ·exact .inl ⟨b,hb,e⟩
   ·exact .inr ⟨r,⟨hr,hw,by rw [e];exact hp⟩,e⟩
 obtain ⟨L,hL⟩:=IsLcm.ex (ns:=bs.map (·.2) ++ (rs.filter λ r=>decide ((r.wd=.source\/r.wd=.drain)/\0 < r.pace)).map Row.pace) λ n hn=>by
  have b4:=ZZ bo ro ((hm n).mp hn);omega
 exact iE2 L _ ⟨hL,hm⟩
theorem vJ (bo:∀ b∈bs,zy b.1 b.2) (ro:∀ r∈rs,r.ok):0 < beatL bs rs/\∀ d,beatL bs rs ∣ d ↔ Dv bs rs d:=by
 obtain ⟨L,hL⟩:=zez bo ro;rw [<- Vy hL];obtain ⟨ns,il,im⟩:=hL;exact ⟨il.pos,λ d=>⟨λ h n hn=>dW (il.dv n ((im n).mpr hn)) h,λ h=>il.least d λ n hn=>h n ((im n).mp hn)⟩⟩
theorem zcj (bo:∀ b∈bs,zy b.1 b.2) (ro:∀ r∈rs,r.ok):six (beatL bs rs):=by
 obtain ⟨p,h⟩:=vJ bo ro;refine ze3 p ((h 12).mpr λ n hn=>?_);have b4:=ZZ bo ro hn;have:n=1\/n=2\/n=3\/n=4:=by omega
 rcases this with rfl|rfl|rfl|rfl <;> decide
end
def zaG (a:Ad):Sp:=λ vs H Q _=>∃ (vw:V) (bs:List (Int × Int)) (rs:List Row) (p:Addr->Prop),vs=[vw]/\Rep H p vw (qk a bs rs)/\bs.length<=24/\rs.length<=24/\(∀ b∈bs,zy b.1 b.2)/\(∀ r∈rs,r.ok)/\∀ H',Same H H'->Q (.int (beatL bs rs)) H'
theorem zbZ {a:Ad} {vs:List V} {H:Hp} {Q:VK} {E:XK} (vw:V) (bs:List (Int × Int)) (rs:List Row) (p:Addr->Prop) (q0:vs=[vw]) (q1:Rep H p vw (qk a bs rs)) (q2:bs.length<=24) (q3:rs.length<=24) (q4:(∀ b∈bs,zy b.1 b.2)) (q5:(∀ r∈rs,r.ok)) (q6:∀ H',Same H H'->Q (.int (beatL bs rs)) H'):zaG a vs H Q E:=⟨vw,bs,rs,p,q0,q1,q2,q3,q4,q5,q6⟩
theorem zdI (T:Txt K mg a):Cal P w K mg base "_law_beat" 1 ["_law_work_here"] [] (zaG a):=T.h_L_beat.cal λ F=>by
 refine F.okx zbz ?_ ?_
 ·walk_at "i"
 walk_at "j";refine oE4 h λ v bs rs p z1_=>oA7 z1_ λ z2_ hv lb lr bo ro k=>?_;clear h;subst z2_;refine oE7 (qL hv) λ y dx fs l1 l2 bvs kvs z1_=>oA9 z1_ λ z2_ hy e1 e2 h1 h2 hB hK no=>?_;subst z2_;obtain ⟨bp,bd⟩:=vJ bo ro;have b6:=zcj bo ro;generalize beatL bs rs=L at bp bd b6 k;walk_at "T";refine ⟨_,(zg (ZS (i:=1) zbz.nd rfl (Or.inl rfl) (vars:=["_law_belt_here"]) (caps:=[]) (N:=["_law_belt_here"]) (ON:=["_law_work_here","_law_paces","_law_knot","_law_beat_here"]) (osc:=zd wC) rfl rfl (by first|decide +kernel|kernel_rfl) rfl rfl (z9 (zj (pq 0) rfl)) (λ s H fp pins=>(zW 0 (show (["_law_belt_here"]:List Str).Nodup from by decide +kernel))) (λ s H fp pins=>qc) (λ s H fp pins=>(zj (pq 0) rfl)))  (zK (qh qF rfl (z9 (zj (pq 0) rfl)) (zW 2 zbz.nd)  (zc (zA (PW.pt (pw_or (qf (zP jR zS (za (pq 2) (za jk zb))) (λ _=>rfl)) (pw_or1 (qf (zP jR zS (za (pq 2) (za jk zb))) (λ _=>rfl)))))  (zc (zo (qp aj ao am zz (pq 1) (za (zP (ZN rfl) zaz (za zf (za (zj (pq 2) rfl) zb))) zb))))  zl)))  (zK (qh qF rfl (z9 (zO (za zf (za zf (za zf (za zf (za zf zb))))))) (zaK (i:=3) zbz.nd rfl (Or.inr rfl))  (zc (zA (qf (zP (zfN rfl) zfL (za (jG (vars:=["_law_pace"]) (caps:=[3]) (N:=["_law_pace","_law_beat_here"]) (ON:=["_law_work_here","_law_paces","_law_knot","_law_beat_here"]) (osc:=zd wC) rfl rfl (by first|decide +kernel|kernel_rfl) rfl rfl (z9 (pq 1)) (λ s H fp pins=>(zW 0 (show (["_law_pace","_law_beat_here"]:List Str).Nodup from by decide +kernel))) (λ s H fp pins=>qc) (λ s H fp pins=>(vX (zc0 hr.units1) (zq qt (pq 1) (pq 0)) zf (zr _)))) zb)) (λ _=>rfl))  (zc (zk (pq 3)))  zl)))  (zc (zk zf))))),?_⟩;walk_at "go";walk_at "lc";walk_at "go";refine ra hy T.C_Work T.N_Work_belts e1 ⟨l1,rfl,.inl ⟨⟨_,SqL.of h1⟩,λ _ _ _ _ acc hacc=>?_⟩⟩;refine qG (K:=K) (a:=l1) (xs:=bvs) (λ i σ H'=>∃ (v0:Option V),σ=[v0]/\Same H H'/\H' acc=some (.lst (iv ((bs.take i).map (·.2))))) ⟨_,iA3 rfl (ze hacc) (by rw [cC];exact upd_same)⟩ (λ i σ H' _ h=>by obtain ⟨_,_,s,_⟩:=h;exact SqL.of (s _ _ h1)) ?_ ?_
 ·intro i x σ H' hi zz_;refine oE1 zz_ λ v0 z1_=>oA3 z1_ λ z2_ s7 e7=>?_;clear zz_;subst z2_;obtain ⟨b,hr',hBt⟩:=hB.at hi;refine oE3 hBt.inv λ y1 dx1 fs1 z1_=>oA5 z1_ λ z2_ _ g0 f1 f2=>?_;subst z2_;have hil:=(aa.mp hr').1;walk_at "go";refine ra (s7 _ _ g0) T.C_Belt T.N_Belt_pace f2 ?_;refine ⟨_,iA3 e7 (zh (by rw [zn,ae,aI];omega)) ⟨_,iA3 rfl (λ b o hb=>by rw [upd_ne (ne_of_none hb hacc)];exact s7 b o hb) ?_⟩⟩;rw [upd_same,aF,hr',aV,z8]
  rfl
 intro σ H2 zz_;refine oE1 zz_ λ v0 z1_=>oA3 z1_ λ z2_ s2 ha=>?_;clear zz_;subst z2_;rw [hB.len,aK] at ha;walk_at "go";refine cut (λ σ' H'=>∃ (v2:Option V) (ns:List Int),σ'=[some (.ref y),some (.ref acc),v2,none]/\Same H H'/\H' acc=some (.lst (iv ns))/\ns.length<=48/\(∀ n∈ns,1<=n/\n<=4)/\∀ d,(∀ n∈ns,n ∣ d) ↔ Dv bs rs d) ?_ ?_
 ·walk_at "for";walk_at "go";refine ra (s2 _ _ hy) T.C_Work T.N_Work_knots e2 ⟨l2,rfl,.inl ⟨⟨_,SqL.of (s2 _ _ h2)⟩,?_⟩⟩;refine qG (K:=K) (a:=l2) (xs:=kvs) (λ i σ H'=>∃ (v2:Option V) (ns:List Int),σ=[some (.ref y),some (.ref acc),v2,none]/\Same H H'/\H' acc=some (.lst (iv ns))/\ns.length<=bs.length + i/\(∀ n∈ns,1<=n/\n<=4)/\∀ d,(∀ n∈ns,n ∣ d) ↔ Dv bs (rs.take i) d) (iE2 _ (bs.map (·.2)) (iA6 rfl s2 ha (by simp) ?_ ?_)) (λ i σ H' _ h=>by obtain ⟨_,_,_,s,_⟩:=h;exact SqL.of (s _ _ h2)) ?_ ?_
  ·intro n hn;obtain ⟨b,hb,rfl⟩:=aW.mp hn;have h:=bo b hb;exact ⟨h.2.2.1,h.2.2.2⟩
  ·intro d;constructor
   ·rintro h n (⟨b,hb,rfl⟩|⟨r,hr,_⟩)
    ·exact h _ (aW.mpr ⟨b,hb,rfl⟩)
    ·exact absurd hr (by simp)
   ·intro h n hn;obtain ⟨b,hb,rfl⟩:=aW.mp hn;exact h _ (.inl ⟨b,hb,rfl⟩)
  ·intro i x σ H6 hi zz_;refine oE2 zz_ λ v2 ns z1_=>oA6 z1_ λ z2_ s6 ha6 ln pn dn=>?_;clear zz_;subst z2_;obtain ⟨r,hr',hKn⟩:=hK.at hi;refine oE6 hKn.inv λ y1 dx1 m1 m2 m3 fs1 z1_=>oA9 z1_ λ z2_ _ _ _ _ g0 _ _ z3_=>oA5 z3_ λ _ _ _ _ fp=>?_;subst z2_;have hil:=(aa.mp hr').1;have tk:rs.take (i + 1)=rs.take i ++ [r]:=by rw [aF,hr'];rfl
   walk_at "go";refine iE2 (.ref a.Source) _ (iA3 T.g_Source rfl (iE4 _ _ _ _ (iA4 rfl ((WT T r.wd).ty (CT T r.wd) (s6 _ _ g0)) (.inl ⟨_,rfl,zaf T r.wd⟩) ?_)));walk_at "go";refine XW (C:=r.wd=.drain) (λ hw=>?_) (λ n1 hp=>?_)
   ·have hp:=QM (ro r (ah hr')) hw;have NP:NoAttr K (jY a r.wd) "pace":=by
     rcases hw with z|z
     ·rw [z];exact T.N_Source_pace
     ·rw [z];exact T.N_Drain_pace
    refine oE1 (zgz hp.1 hp.2) λ m z1_=>oA4 z1_ λ em m1 m4 md=>?_;walk_at "go";refine iA3 (.inl ⟨rfl,_,SqL.of ha6⟩) m_max (iE5 y1 (jY a r.wd) dx1 fs1 _ (iA6 rfl (s6 _ _ g0) (CT T _) NP (fp hw) (iE2 _ _ ⟨rfl,?_⟩)));rw [em];refine iE3 acc _ _ (iA5 rfl rfl ha6 (zh (by rw [zn];omega)) ?_);rw [z8];refine iE2 _ (ns ++ [m]) (iA6 rfl (λ b o hb=>by rw [upd_ne (ne_of_none hb hacc)];exact s6 b o hb) upd_same (by simp;omega) (λ n hn=>?_) (λ d=>?_))
    ·rcases az.mp hn with hn|hn
     ·exact pn n hn
     ·rw [ar.mp hn];exact ⟨m1,m4⟩
    ·rw [tk,Dv.snoc,<- dn d];constructor
     ·intro h;exact ⟨λ n hn=>h n (aZ _ hn),λ _=>(md d).mp (h m (by simp))⟩
     ·rintro ⟨h,g⟩ n hn;rcases az.mp hn with hn|hn
      ·exact h n hn
      ·rw [ar.mp hn];exact (md d).mpr (g hw)
   walk_at "go";refine iE2 (.ref a.Drain) _ (iA3 T.g_Drain rfl (iE4 _ _ _ _ (iA4 rfl ((WT T r.wd).ty (CT T r.wd) (s6 _ _ g0)) (.inl ⟨_,rfl,zga T r.wd⟩) ?_)));walk_at "go";refine zI (λ z=>hp z) (λ n2=>(iE2 _ ns (iA6 rfl s6 ha6 (by omega) pn (λ d=>?_))));rw [tk,Dv.snoc,<- dn d];exact ⟨λ h=>⟨h,λ z=>absurd z (λ z=>z.elim n1 n2)⟩,λ h=>h.1⟩
  ·intro σ H6 zz_;refine oE2 zz_ λ v2 ns z1_=>oA6 z1_ λ z2_ s6 ha6 ln pn dn=>?_;clear zz_;subst z2_;rw [hK.len] at ln dn;rw [aK] at dn;exact iE2 _ ns (iA6 rfl s6 ha6 (by omega) pn dn)
 clear ha s2;intro σ' H3 zz_;refine oE2 zz_ λ v2 ns z1_=>oA6 z1_ λ z2_ s3 ha3 ln pn dn=>?_;clear zz_;subst z2_;have dv:∀ d,(∀ n∈ns,n ∣ d) ↔ L ∣ d:=λ d=>(dn d).trans (bd d).symm;walk_at "go";refine cut (λ σ' H'=>∃ (v3:Option V),σ'=[some (.ref y),some (.ref acc),v2,v3]/\Same H H'/\L=12) ?_ ?_
 ·walk_at "for";walk_at "go";intro B hB';have sB:=ze (o:=.lst [V.int 1,.int 2,.int 3,.int 4,.int 6]) hB';have hB3:upd H3 B (.lst [V.int 1,.int 2,.int 3,.int 4,.int 6]) B=some (.lst (iv [1,2,3,4,6])):=upd_same;have s4:=s3.trans sB;have ha4:=sB _ _ ha3;generalize upd H3 B (.lst [V.int 1,.int 2,.int 3,.int 4,.int 6])=H4 at s4 ha4 hB3 ⊢;clear s3 ha3 sB hB';refine ⟨B,rfl,.inl ⟨⟨_,SqL.of hB3⟩,?_⟩⟩;refine qG (K:=K) (a:=B) (xs:=iv [1,2,3,4,6]) (λ i σ H'=>∃ (v3:Option V),σ=[some (.ref y),some (.ref acc),v2,v3]/\Same H H'/\Same H4 H'/\∀ x∈([1,2,3,4,6]:List Int).take i,¬ L ∣ x) ⟨_,iA4 rfl s4 (Same.refl _) (λ x hx=>by simp at hx)⟩ (λ i σ H' _ h=>by obtain ⟨_,_,_,s,_⟩:=h;exact SqL.of (s _ _ hB3)) ?_ ?_
  ·intro i x σ H5 hi zz_;refine oE1 zz_ λ v3 z1_=>oA4 z1_ λ z2_ s5 t5 no=>?_;clear zz_;subst z2_;obtain ⟨d,hd,rfl⟩:=xH hi;walk_at "go";walk_at "lc";walk_at "go";refine ⟨acc,rfl,.inl ⟨⟨_,SqL.of (t5 _ _ ha4)⟩,λ _ _ _ _ ac hac=>?_⟩⟩;refine qG (K:=K) (a:=acc) (xs:=iv ns) (λ j σ H'=>∃ (v0:Option V),σ=[v0,some (.int d)]/\Same H5 H'/\H' ac=some (.lst (((ns.take j).map λ n=>decide (d % n=0)).map V.bl))) ⟨_,iA3 rfl (ze hac) upd_same⟩ (λ j σ H' _ h=>by obtain ⟨_,_,s,_⟩:=h;exact SqL.of (s _ _ (t5 _ _ ha4))) ?_ ?_
   ·intro j z σ H6 hj zz_;refine oE1 zz_ λ v0 z1_=>oA3 z1_ λ z2_ s6 h6=>?_;clear zz_;subst z2_;obtain ⟨n,hn,rfl⟩:=xH hj;have hjl:=(aa.mp hn).1;have n1:=(pn n (ah hn)).1;walk_at "go";refine ⟨_,iA3 h6 (zh (by rw [ae,ae,aI];omega)) ⟨_,iA3 rfl (λ b o hb=>by rw [upd_ne (ne_of_none hb hac)];exact s6 b o hb) ?_⟩⟩;rw [upd_same,aF,hn];simp
   intro σ H6 zz_;refine oE1 zz_ λ v0 z1_=>oA3 z1_ λ z2_ s6 h6=>?_;clear zz_;subst z2_;rw [zn,aK] at h6;refine iE2 ac _ (iA3 rfl h6 ?_);walk_at "go";refine zI (λ z=>?_) (λ z=>?_)
   ·have z:=(dv d).mp (all_dv.mp z);walk_at "go";rw [zdM b6 hd no z];exact k _ (s5.trans s6)
   ·refine ⟨_,iA4 rfl (s5.trans s6) (t5.trans s6) (λ x hx=>?_)⟩;rw [aF,hd] at hx;rcases az.mp hx with hx|hx
    ·exact no x hx
    ·rw [show x=d by simpa using hx];exact λ q=>z (all_dv.mpr ((dv d).mpr q))
  ·intro σ H5 zz_;refine oE1 zz_ λ v3 z1_=>oA4 z1_ λ z2_ s5 t5 no=>?_;clear zz_;subst z2_;exact ⟨_,iA3 rfl s5 (zci b6 no)⟩
 intro σ' H5 zz_;refine oE1 zz_ λ v3 z1_=>oA3 z1_ λ z2_ s5 z3_=>?_;clear zz_;subst z2_ z3_;walk_at "go";exact k _ s5
theorem frS {H0 H H':Hp} {ms:List Addr} (s:Same H0 H) (f:Fr ms H H') (n:∀ m∈ms,H0 m=none):Same H0 H':=(s.fr.trans f).same n
theorem zc2 {rs:List Row} (h:HasS rs):0 < (zB .source rs).length:=by
 obtain ⟨r,hr,e⟩:=h;obtain ⟨i,hi⟩:=bD hr;exact List.length_pos_of_mem (QW hi e)
theorem zaY {H:Hp} {ms:List Addr} {x:Addr} {o:HO} {H2:Hp} (f:Fr ms H2 H) (hx:H2 x=none):Fr ms H2 (upd H x o):=λ b u nb hb=>by rw [upd_ne (ne_of_none hb hx)];exact f b u nb hb
theorem Ji {bs:List (Int × Int)} {rs:List Row} {css:List (List zE)} {b:Int × Int} {c:List zE} (h:ql bs rs css) (l:c.length=b.1.toNat) (wk:∀ x∈c,qD rs x):ql (bs ++ [b]) rs (css ++ [c]):=by
 refine ⟨by simp [h.1],λ j b2 c2 e1 e2=>?_⟩;by_cases hj:j < css.length
 ·rw [aJ hj] at e2;rw [aJ (by rw [<- h.1];exact hj)] at e1;exact h.2 j b2 c2 e1 e2
 ·rw [aE (by omega)] at e2;rw [aE (by rw [<- h.1];omega),<- h.1] at e1;have j0:j - css.length=0:=by have:=(aa.mp e2).1;simp at this;omega
  rw [j0] at e1 e2;have e1:b=b2:=by simpa using e1
  have e2:c=c2:=by simpa using e2
  subst e1 e2;exact ⟨l,wk⟩
theorem J9 {rs:List Row}:ql [] rs []:=⟨rfl,λ _ _ _ h=>by simp at h⟩
def Gv (rs:List Row) (gs:List Int):Prop:=gs.length=rs.length/\∀ z∈gs,0<=z
theorem Gv.set {rs:List Row} {gs:List Int} (h:Gv rs gs) (i:Nat) {z:Int} (hz:0<=z):Gv rs (gs.set i z):=⟨by rw [bT];exact h.1,λ x hx=>by
 rcases dR hx with hx|hx
 ·exact h.2 x hx
 ·rw [hx];exact hz⟩
abbrev X4 (y l g S C:Addr) (v5 v6 v7 v8 v9 v10:Option V):St:=[some (.ref y),some (.ref l),some (.ref g),some (.ref S),some (.ref C),v5,v6,v7,v8,v9,v10]
def zaF (K:PySem.W.Frag) (a:Ad):Sp:=λ vs H Q _=>∃ (vw:V) (l g:Addr) (ns gs:List Int) (bs:List (Int × Int)) (rs:List Row) (H0:Hp),vs=[vw,.ref l,.ref g]/\Same H0 H/\H0 g=none/\Rep H0 (Off []) vw (qk a bs rs)/\SqL K H0 l (iv ns)/\H g=some (.lst (iv gs))/\Gv rs gs/\bs.length<=24/\rs.length<=24/\(∀ b∈bs,zy b.1 b.2)/\HasS rs /\
 ∀ C css gs' H',Same H0 H'->H' g=some (.lst (iv gs'))->Gv rs gs'->Rep H' (Off []) (.ref C) (.lst ((zC css).map D.lst))->ql bs rs css->Q (.ref C) H'
theorem V7 (T:Txt K mg a) (F:Fun K "_law_cells" "_law_cells" xD f fd):FnOk P w K mg base (CXr P w) 3 f fd ["_law_work_here","_law_script","_law_given"] (zaF K a):=by
 refine F.okx VV ?_ ?_
 ·walk_at "i"
 walk_at "j";refine oE8 h λ vw l g ns gs bs rs H0 z1_=>oA9 z1_ λ z2_ s0 g0 hw hl hg lg b24 z3_=>oA4 z3_ λ r24 bo hS k=>?_;clear h;subst z2_;refine oE7 (qL hw) λ yw dx fs l1 l2 bvs kvs z1_=>oA9 z1_ λ z2_ hy e1 e2 h1 h2 hB hK no=>?_;subst z2_;have lsrc:=zc2 hS;walk_at "T";refine ⟨_,(zg (ZS (i:=3) VV.nd rfl (Or.inl rfl) (vars:=["_law_k","_law_knot"]) (caps:=[]) (N:=["_law_k","_law_knot"]) (ON:=["_law_work_here","_law_script","_law_given","_law_sources","_law_cells_here","_law_spot","_law_belt_here","_law_row","_law_place","_law_number","_law_source_here"]) (osc:=zd xD) rfl rfl (by first|decide +kernel|kernel_rfl) rfl rfl (qu (za (zj (pq 0) rfl) zb)) (λ s H fp pins=>(jr (n:=2) rfl (zF (zW 0 (show (["_law_k","_law_knot"]:List Str).Nodup from by decide +kernel)) (zF (zW 1 (show (["_law_k","_law_knot"]:List Str).Nodup from by decide +kernel)) qN)))) (λ s H fp pins=>(XG (qf (zP jR zS (za (pq 1) (za jk zb))) (λ _=>rfl)))) (λ s H fp pins=>(pq 0)))  (zg (zp 4 VV.nd (zO zb))  (zg (zp 5 VV.nd zf)  (zK (qh qF rfl (z9 (zj (pq 0) rfl)) (zW 6 VV.nd)  (zg (zp 7 VV.nd (zO zb))  (zK (qh qF rfl (x9 (za (zj (pq 6) rfl) zb)) (zW 8 VV.nd)  (zg (zp 9 VV.nd (zt ⟨rfl,rfl,rfl⟩ hr (za (pq 1) (za (pq 5) zb))))  (zg (zfb (i:=5) VV.nd rfl (Or.inl rfl) zf zak)  (zc (zA (zm (jv hr.units1) (qv (pq 9)) zf (zr _))  (zc (zo (qp aj ao am zz (pq 7) (za zD zb))))  (zg (zp 10 VV.nd (zw (pq 3) (zq qt (qm (pq 9)) (zP zY zX (za (pq 3) zb)))))  (zg (zo (qp aj ao am zz (pq 7) (za (jx (za (pq 10) (za (zw (pq 2) (pq 10)) zb))) zb)))  (zc (zaJ (pq 2) (pq 10) Vg (zq zL zf (qv (qm (pq 9)))) zak jE)))))))))  (zc (zo (qp aj ao am zz (pq 4) (za (pq 7) zb)))))))  (zc (zk (pq 4))))))),?_⟩;walk_at "go";walk_at "lc";walk_at "go";refine ra (s0 _ _ hy) T.C_Work T.N_Work_knots e2 (iE2 l2 _ (iA3 rfl (s0 _ _ h2) (λ _ _ _ _ S hSn=>?_)));let M1_:Nat->St->Hp->Prop:=λ i σ H'=>∃ (v0 v1:Option V),σ=[v0,v1]/\Same H H'/\H' S=some (.lst (iv (qZ .source rs i)));refine Ze (K:=K) (a:=l2) (xs:=kvs) M1_ (iE2 _ _ (iA3 rfl (ze hSn) upd_same)) (λ i σ H' _ h=>by obtain ⟨_,_,_,s,_⟩:=h;exact SqL.of (s _ _ (s0 _ _ h2))) ?_ ?_
 ·intro i x t σ H' hi ht zz_;refine oE2 zz_ λ v0 v1 z1_=>oA3 z1_ λ z2_ s7 e1'=>?_;clear zz_;subst z2_;obtain ⟨r,hr',hKn⟩:=hK.at hi;refine oE6 hKn.inv λ y1 dx1 m1 m2 m3 fs1 z1_=>oA9 z1_ λ z2_ _ _ _ _ q0 _ _ z3_=>oA5 z3_ λ _ _ _ _ _=>?_;subst z2_;have hil:=(aa.mp hr').1;have s8:=s7.trans (ze (o:=.tup [.int i,.ref y1]) ht);have e8:=upd_keep (o:=.tup [.int i,.ref y1]) e1' ht;refine un2 upd_same ?_;generalize upd H' t (.tup [.int i,.ref y1])=H8 at s8 e8 ⊢;walk_at "go";refine iE2 (.ref a.Source) _ (iA3 T.g_Source rfl (iE4 _ _ _ _ (iA4 rfl ((WT T r.wd).ty (CT T r.wd) (s8 _ _ (s0 _ _ q0))) (.inl ⟨_,rfl,zaf T r.wd⟩) ?_)));walk_at "go";refine zI (λ b=>?_) (λ b=>?_)
  ·refine ⟨_,iA3 e8 (zh (by have:=jy .source rs i;rw [zn];omega)) (iE2 _ _ (iA3 rfl (λ b o hb=>by rw [upd_ne (ne_of_none hb hSn)];exact s8 b o hb) ?_))⟩;rw [upd_same,jl hr',aA b,z8]
  ·exact iE2 _ _ (iA3 rfl s8 (by rw [jl hr',aw b,cF];exact e8))
 intro σ H1 zz_;refine oE2 zz_ λ v0 v1 z1_=>oA3 z1_ λ z2_ s1 ha=>?_;clear zz_;subst z2_;rw [hK.len] at ha;have ha:H1 S=some (.lst (iv (zB .source rs))):=ha;walk_at "go";intro C hC;have s2:=s1.trans (ze (o:=.lst []) hC);have s02:=s0.trans s2;have hg2:=s2 _ _ hg;have hS2:=upd_keep (o:=.lst []) ha hC;have hC2:upd H1 C (.lst []) C=some (.lst []):=upd_same;have C0:H0 C=none:=zT (s0.trans s1) hC;have nSC:S≠C:=ne_of_none ha hC;have nSg:S≠g:=(ne_of_none hg hSn).symm;have ngC:g≠C:=ne_of_none (s1 _ _ hg) hC;have n0:∀ m∈[g,C],H0 m=none:=λ m hm=>by
  simp only [ay,be,bR] at hm;rcases hm with rfl|rfl
  ·exact g0
  ·exact C0
 have oS:S ∉ [g,C]:=by simp [nSg,nSC]
 generalize upd H1 C (.lst [])=H2 at s2 s02 hg2 hS2 hC2 ⊢;clear hg ha s1 s2 hC hSn;walk_at "go";let M2_:St->Hp->Prop:=λ σ' H'=>∃ (v5 v6 v7 v8 v9 v10:Option V) (us:List V) (gs:List Int) (css:List (List zE)),σ'=X4 yw l g S C v5 v6 v7 v8 v9 v10/\Fr [g,C] H2 H'/\H' g=some (.lst (iv gs))/\Gv rs gs/\H' C=some (.lst us)/\Reps H' (Off [g,C]) us ((zC css).map D.lst)/\ql bs rs css;refine cut M2_ ?_ ?_
 ·walk_at "for";walk_at "go";refine ra (s02 _ _ hy) T.C_Work T.N_Work_belts e1 ⟨l1,rfl,.inl ⟨⟨_,SqL.of (s02 _ _ h1)⟩,?_⟩⟩;let M3_:Nat->St->Hp->Prop:=λ i σ H'=>∃ (sp:Nat) (v6 v7 v8 v9 v10:Option V) (us:List V) (gs:List Int) (css:List (List zE)),σ=X4 yw l g S C (some (.int sp)) v6 v7 v8 v9 v10/\sp<=6 * i/\Fr [g,C] H2 H'/\H' g=some (.lst (iv gs))/\Gv rs gs/\H' C=some (.lst us)/\Reps H' (Off [g,C]) us ((zC css).map D.lst)/\ql (bs.take i) rs css;refine qG (K:=K) (a:=l1) (xs:=bvs) M3_ (iE5 0 _ _ _ _ (iE4 _ ([]) gs ([]) (iA8 rfl (by omega) Fr.refl hg2 lg hC2 (.nil) J9))) (λ i σ H' _ h=>by obtain ⟨_,_,_,_,_,_,_,_,_,_,_,f,_⟩:=h;exact SqL.of (frS s02 f n0 _ _ h1)) ?_ ?_
  ·intro i x σ H3 hi zz_;refine oE5 zz_ λ sp v6 v7 v8 v9 z1_=>oE4 z1_ λ v10 us gs css z2_=>oA8 z2_ λ z3_ hsp f3 hg3 lg3 hC3 ru3 co=>?_;clear zz_;subst z3_;obtain ⟨b,hb',hBt⟩:=hB.at hi;refine oE3 hBt.inv λ y1 dx1 fs1 z1_=>oA5 z1_ λ z2_ _ q0 f1 f2=>?_;subst z2_;have hil:=(aa.mp hb').1;have bk:=bo b (ah hb');have bk1:=bk.1;have bk6:=bk.2.1;have lus:us.length<=i:=by rw [ru3.len,ae,ae,co.1,aI];omega
   walk_at "go";intro Ln hLn;have sL:=ze (o:=.lst []) hLn;have L2n:H2 Ln=none:=by
    cases e:H2 Ln with
    | none=>rfl
    | some o =>
     by_cases z:Ln∈[g,C]
     ·simp only [ay,be,bR] at z;rcases z with rfl|rfl
      ·rw [hg3] at hLn;cases hLn
      ·rw [hC3] at hLn;cases hLn
     ·rw [f3 _ _ z e] at hLn;cases hLn
   have nLg:Ln≠g:=(ne_of_none hg3 hLn).symm;have nLC:Ln≠C:=(ne_of_none hC3 hLn).symm;have ru4:Reps (upd H3 Ln (.lst [])) (Off [g,C,Ln]) us ((zC css).map D.lst):=(ru3.more (ns:=[g,C,Ln]) λ b hb=>by
    simp only [ay,be,bR] at hb;rcases hb with rfl|rfl|rfl
    ·exact .inl (by simp)
    ·exact .inl (by simp)
    ·exact .inr hLn).same sL
   have f4:=f3.trans (Same.fr (ms:=[g,C]) sL);have hg4:=sL _ _ hg3;have hC4:=sL _ _ hC3;have hL4:upd H3 Ln (.lst []) Ln=some (.lst []):=upd_same;generalize upd H3 Ln (.lst [])=H4 at f4 hg4 hC4 hL4 ru4 ⊢;clear f3 hg3 hC3 ru3 sL hLn;walk_at "go";let M4_:St->Hp->Prop:=λ σ' H'=>∃ (sp:Nat) (v8 v9 v10:Option V) (ws:List V) (gs:List Int) (c:List zE),σ'=X4 yw l g S C (some (.int sp)) (some (.ref y1)) (some (.ref Ln)) v8 v9 v10/\sp<=6 * i + 6/\Fr [g,C] H2 H'/\H' g=some (.lst (iv gs))/\Gv rs gs/\H' C=some (.lst us)/\Reps H' (Off [g,C,Ln]) us ((zC css).map D.lst)/\H' Ln=some (.lst ws)/\Reps H' (Off [g,C,Ln]) ws (c.map zQ)/\c.length=b.1.toNat/\∀ x∈c,qD rs x;refine cut M4_ ?_ ?_
   ·walk_at "for";walk_at "go";refine ra (frS s02 f4 n0 _ _ q0) T.C_Belt T.N_Belt_room f1 ?_;walk_at "go";refine ⟨by omega,by omega,?_⟩;let M5_:Nat->St->Hp->Prop:=λ j σ H'=>∃ (v8 v9 v10:Option V) (ws:List V) (gs:List Int) (c:List zE),σ=X4 yw l g S C (some (.int ((sp + j:Nat):Int))) (some (.ref y1)) (some (.ref Ln)) v8 v9 v10/\Fr [g,C] H2 H'/\H' g=some (.lst (iv gs))/\Gv rs gs/\H' C=some (.lst us)/\Reps H' (Off [g,C,Ln]) us ((zC css).map D.lst)/\H' Ln=some (.lst ws)/\Reps H' (Off [g,C,Ln]) ws (c.map zQ)/\c.length=j/\∀ x∈c,qD rs x;refine Zd (n:=b.1.toNat) M5_ (iE6 _ _ _ ([]) gs ([]) (iA6 rfl f4 hg4 lg3 hC4 (iA5 ru4 hL4 (.nil) rfl (by simp)))) ?_ ?_
    ·clear f4 hg4 hC4 hL4 ru4;intro j σ H5 hj zz_;refine oE6 zz_ λ v8 v9 v10 ws gs c z1_=>oA6 z1_ λ z2_ f5 hg5 lg5 hC5 z3_=>oA5 z3_ λ ru5 hL5 rw5 lc wk=>?_;clear zz_;subst z2_;have s5:=frS s02 f5 n0;have lw:ws.length=j:=by rw [rw5.len,ae,lc]
     walk_at "go";refine uc (xM T).mono (xI l ns (sp + j) rfl (qB s5 hl) (by omega) (λ sd d0 d1=>?_));walk_at "go";have e:((sp + j:Nat):Int) + 1=((sp + (j + 1):Nat):Int):=by omega
     rw [e];refine zI (λ _=>?_) (λ _=>?_)
     ·have fm:Fr [g,C,Ln] H5 (upd H5 Ln (.lst (ws ++ [.non]))):=qj (by simp);walk_at "go";refine ⟨.inl ⟨rfl,_,SqL.of hL5⟩,iE3 Ln _ _ (iA5 rfl rfl hL5 (zh (by omega)) ?_)⟩;refine iE6 _ _ _ _ gs (c ++ [none]) (iA6 rfl (zaY f5 L2n) (by rw [upd_ne nLg.symm];exact hg5) lg5 (by rw [upd_ne nLC.symm];exact hC5) (iA5 (ru5.fr fm) upd_same ?_ (by simp [lc]) (λ x hx=>?_)))
      ·rw [aV];exact (rw5.fr fm).append (.one .non)
      ·rcases az.mp hx with hx|hx
       ·exact wk x hx
       ·rw [ar.mp hx];intro s n z;cases z
     have hS5:=f5 _ _ oS hS2;walk_at "go";walk_at "go";refine ⟨_,.inl ⟨_,SqL.of hS5,rfl⟩,?_⟩;rw [zn];walk_at "go";have sl:(0:Int) < (zB .source rs).length:=by omega
     refine ⟨sl,?_⟩;have v0:=aG (sd / 3) (show ((zB .source rs).length:Int)≠0 by omega);have v1:=aB (sd / 3) sl;generalize sd / 3 % ((zB .source rs).length:Int)=jj at v0 v1 ⊢;obtain ⟨sv,hsv⟩:∃ y,(zB .source rs)[jj.toNat]?=some y:=⟨(zB .source rs)[jj.toNat]'(by omega),ad _⟩;refine oE2 (xG (ah hsv)) λ j0 r0 z1_=>oA3 z1_ λ z2_ hr0 hw0=>?_;subst z2_;have hix:atI (iv (zB .source rs)) jj=some (.int j0):=by
      have:=zG (jf hsv);rw [show ((jj.toNat:Nat):Int)=jj by omega] at this;exact this
     refine zu (SqL.of hS5) hix ?_;have hj0:=(aa.mp hr0).1;have lg5':=lg5.1;obtain ⟨gj,hgj⟩:∃ y,gs[j0]?=some y:=⟨gs[j0]'(by omega),ad _⟩;have gj0:=lg5.2 gj (ah hgj);walk_at "go";refine ⟨.inl ⟨rfl,_,SqL.of hL5⟩,zu (SqL.of hg5) (zG (jf hgj)) ?_⟩;walk_at "go";intro tw htw;have st:=ze (o:=.tup [.int j0,.int gj]) htw;have hw6:upd H5 tw (.tup [.int j0,.int gj]) tw=some (.tup [.int j0,.int gj]):=upd_same;have f6:=f5.trans (Same.fr (ms:=[g,C]) st);have hg6:=st _ _ hg5;have hC6:=st _ _ hC5;have hL6:=st _ _ hL5;have ru6:=ru5.same st;have rw6:=rw5.same st;have oT:Off [g,C,Ln] tw:=λ z=>by
      simp only [ay,be,bR] at z;rcases z with rfl|rfl|rfl
      ·rw [hg5] at htw;cases htw
      ·rw [hC5] at htw;cases htw
      ·rw [hL5] at htw;cases htw
     generalize upd H5 tw (.tup [.int j0,.int gj])=H6 at hw6 f6 hg6 hC6 hL6 ru6 rw6 ⊢;clear f5 hg5 hC5 hL5 ru5 rw5 st htw hS5 s5;refine iE3 Ln _ _ (iA5 rfl rfl hL6 (zh (by omega)) ?_);have fm:Fr [g,C,Ln] H6 (upd H6 Ln (.lst (ws ++ [.ref tw]))):=qj (by simp);have f7:Fr [g,C] H2 (upd H6 Ln (.lst (ws ++ [.ref tw]))):=zaY f6 L2n;have hg7:upd H6 Ln (.lst (ws ++ [.ref tw])) g=some (.lst (iv gs)):=by rw [upd_ne nLg.symm];exact hg6
     have hC7:upd H6 Ln (.lst (ws ++ [.ref tw])) C=some (.lst us):=by rw [upd_ne nLC.symm];exact hC6
     have hL7:upd H6 Ln (.lst (ws ++ [.ref tw])) Ln=some (.lst (ws ++ [.ref tw])):=upd_same;have ru7:=ru6.fr fm;have rw7:Reps (upd H6 Ln (.lst (ws ++ [.ref tw]))) (Off [g,C,Ln]) (ws ++ [.ref tw]) ((c ++ [some ((j0:Int),gj)]).map zQ):=by
      rw [aV];exact (rw6.append (.one (Reps.mkT (vs:=[.int j0,.int gj]) (.cons .int (.cons .int .nil)) oT hw6))).fr fm
     generalize upd H6 Ln (.lst (ws ++ [.ref tw]))=H7 at f7 hg7 hC7 hL7 ru7 rw7 ⊢;clear f6 hg6 hC6 hL6 ru6 rw6 fm hw6;walk_at "go";unfold zct;walk_at "go";refine iE4 g _ (j0:Int) _ (iA6 rfl rfl (SqL.of hg7) (by omega) (zG (jf hgj)) ?_);walk_at "go";walk_at "go";refine xn hg7 (vE (by omega) (by rw [zn];omega)) ?_;rw [aO,XV];have gz0:0<=gj + (1 + sd / 48 % 3):=by omega
     generalize gj + (1 + sd / 48 % 3)=gz at gz0 ⊢;have fg:Fr [g,C,Ln] H7 (upd H7 g (.lst (iv (gs.set j0 gz)))):=qj (by simp);refine iE6 _ _ _ _ (gs.set j0 gz) _ (iA6 rfl (f7.trans (qj (by simp))) upd_same (lg5.set j0 gz0) (by rw [upd_ne ngC.symm];exact hC7) (iA5 (ru7.fr fg) (by rw [upd_ne nLg];exact hL7) (rw7.fr fg) (by simp [lc]) (λ x hx=>?_)));rcases az.mp hx with hx|hx
     ·exact wk x hx
     ·rw [ar.mp hx];intro s n z;cases z;exact iE2 j0 r0 (iA4 rfl hr0 hw0 gj0)
    ·intro σ H5 zz_;refine oE6 zz_ λ v8 v9 v10 ws gs c z1_=>oA6 z1_ λ z2_ f5 hg5 lg5 hC5 z3_=>oA5 z3_ λ ru5 hL5 rw5 lc wk=>?_;clear zz_;subst z2_;exact iE7 _ _ _ _ ws gs c (iA9 rfl (by omega) f5 hg5 lg5 hC5 ru5 hL5 (iA3 rw5 lc wk))
   clear f4 hg4 hC4 hL4 ru4;intro σ' H5 zz_;refine oE7 zz_ λ sp2 v8 v9 v10 ws gs c z1_=>oA9 z1_ λ z2_ hsp2 f5 hg5 lg5 hC5 ru5 hL5 z3_=>oA3 z3_ λ rw5 lc wk=>?_;clear zz_;subst z2_;have fm:Fr [g,C] H5 (upd H5 C (.lst (us ++ [.ref Ln]))):=qj (by simp);have lo:∀ b∈[g,C],b∈[g,C,Ln]\/H5 b=none:=λ b hb=>.inl (by simp only [ay,be,bR] at hb ⊢;exact hb.imp id .inl);walk_at "go";refine ⟨.inl ⟨rfl,_,SqL.of hC5⟩,iE3 C _ _ (iA5 rfl rfl hC5 (zh (by omega)) ?_)⟩;refine iE5 sp2 _ _ _ _ (iE4 _ _ gs (css ++ [c]) (iA8 rfl (by omega) (f5.trans fm) (by rw [upd_ne ngC];exact hg5) lg5 upd_same ?_ ?_))
   ·rw [show (zC (css ++ [c])).map D.lst=(zC css).map D.lst ++ [.lst (c.map zQ)] by simp [zC]];exact ((ru5.more lo).append (.one ((rw5.more lo).mk' (by simp [Off,nLg,nLC]) hL5))).fr fm
   ·rw [aF,hb'];exact Ji co lc wk
  ·intro σ H4 zz_;refine oE5 zz_ λ sp v6 v7 v8 v9 z1_=>oE4 z1_ λ v10 us gs css z2_=>oA8 z2_ λ z3_ hsp f3 hg3 lg3 hC3 ru3 co=>?_;clear zz_;subst z3_;rw [hB.len,aK] at co;exact iE5 _ _ _ _ _ (iE4 _ us gs css (iA7 rfl f3 hg3 lg3 hC3 ru3 co))
 intro σ' H4 zz_;refine oE5 zz_ λ v5 v6 v7 v8 v9 z1_=>oE4 z1_ λ v10 us gs css z2_=>oA7 z2_ λ z3_ f3 hg3 lg3 hC3 ru3 co=>?_;clear zz_;subst z3_;walk_at "go";exact k C css gs H4 (frS s02 f3 n0) hg3 lg3 (ru3.all.mk' (λ z=>nomatch z) hC3) co
theorem zcf (T:Txt K mg a):Cal P w K mg base "_law_cells" 3 ["_law_work_here","_law_script","_law_given"] [] (zaF K a):=T.h_L_cells.cal (V7 T)
theorem J7 {rs:List Row} {gss:List (List Int)} {r:Row} {g:List Int} (h:xz rs gss) (l:g.length=(qI r).length) (nn:∀ z∈g,0<=z):xz (rs ++ [r]) (gss ++ [g]):=by
 refine ⟨by simp [h.1],λ j b2 c2 e1 e2=>?_⟩;by_cases hj:j < gss.length
 ·rw [aJ hj] at e2;rw [aJ (by rw [<- h.1];exact hj)] at e1;exact h.2 j b2 c2 e1 e2
 ·rw [aE (by omega)] at e2;rw [aE (by rw [<- h.1];omega),<- h.1] at e1;have j0:j - gss.length=0:=by have:=(aa.mp e2).1;simp at this;omega
  rw [j0] at e1 e2;have e1:r=b2:=by simpa using e1
  have e2:g=c2:=by simpa using e2
  subst e1 e2;exact ⟨l,nn⟩
theorem Vf:xz [] []:=⟨rfl,λ _ _ _ h=>by simp at h⟩
theorem zcu {r:Row} (ok:r.ok) (h:r.wd=.source):(qI r).length=1:=by
 rw [Jh];unfold Row.ok at ok;rw [h] at ok;obtain ⟨h1,⟨o,h2⟩,_⟩:=ok;rw [h1,h2]
 rfl
theorem zcJ {r:Row} (ok:r.ok) (h:r.wd=.parter\/r.wd=.joiner) (nu:Int):j5 r (nu % ((qI r).length:Int)):=by
 have cp:=qS ok;have l:=vS ok;have m0:=aG nu (show ((qI r).length:Int)≠0 by omega);have m1:=aB nu (show (0:Int) < (qI r).length by omega);have cl:=Jh r;refine iA4 m0 (λ hw=>?_) (λ hw=>?_) (λ h1 h2=>?_)
 ·have e:r.ins.length=1/\2<=r.outs.length:=by
   unfold Row.ok at ok;rw [hw] at ok;obtain ⟨⟨o,q⟩,q2,_⟩:=ok;exact ⟨by rw [q];rfl,q2⟩
  omega
 ·have e:r.outs.length=1/\2<=r.ins.length:=by
   unfold Row.ok at ok;rw [hw] at ok;obtain ⟨⟨o,q⟩,q2,_⟩:=ok;exact ⟨by rw [q];rfl,q2⟩
  omega
 ·rcases h with h|h
  ·exact absurd h h1
  ·exact absurd h h2
abbrev XS (y l g C S G:Addr) (v6 v7 v8 v9 v10:Option V):St:=[some (.ref y),some (.ref l),some (.ref g),some (.ref C),some (.ref S),some (.ref G),v6,v7,v8,v9,v10]
def VH (K:PySem.W.Frag) (a:Ad):Sp:=λ vs H Q _=>∃ (vw:V) (l:Addr) (ns:List Int) (bs:List (Int × Int)) (rs:List Row),vs=[vw,.ref l]/\Rep H (Off []) vw (qk a bs rs)/\SqL K H l (iv ns)/\bs.length<=24/\rs.length<=24/\(∀ b∈bs,zy b.1 b.2)/\(∀ r∈rs,r.ok)/\HasS rs/\∀ y n st H',Same H H'->StO a H' y n st->stWf bs rs st->Q (.ref y) H'
theorem zdn {K:PySem.W.Frag} {a:Ad} {vs:List V} {H:Hp} {Q:VK} {E:XK} (vw:V) (l:Addr) (ns:List Int) (bs:List (Int × Int)) (rs:List Row) (q0:vs=[vw,.ref l]) (q1:Rep H (Off []) vw (qk a bs rs)) (q2:SqL K H l (iv ns)) (q3:bs.length<=24) (q4:rs.length<=24) (q5:(∀ b∈bs,zy b.1 b.2)) (q6:(∀ r∈rs,r.ok)) (q7:HasS rs) (q8:∀ y n st H',Same H H'->StO a H' y n st->stWf bs rs st->Q (.ref y) H'):VH K a vs H Q E:=⟨vw,l,ns,bs,rs,q0,q1,q2,q3,q4,q5,q6,q7,q8⟩
theorem zbM (T:Txt K mg a) (F:Fun K "_law_made" "_law_made" xC f fd):FnOk P w K mg base (CXr P w) 4 f fd ["_law_work_here","_law_script"] (VH K a):=by
 refine F.okx zbt ?_ ?_
 ·walk_at "i"
 walk_at "j";refine oE5 h λ vw l ns bs rs z1_=>oA9 z1_ λ z2_ hw hl b24 r24 bo ro hS k=>?_;clear h;subst z2_;refine oE7 (qL hw) λ yw dx fs l1 l2 bvs kvs z1_=>oA9 z1_ λ z2_ hy e1 e2 h1 h2 hB hK no=>?_;subst z2_;have lK:=hK.len;walk_at "T";refine ⟨_,(zg (ZS (i:=2) zbt.nd rfl (Or.inl rfl) (vars:=["_law_k"]) (caps:=[1]) (N:=["_law_k","_law_script"]) (ON:=["_law_work_here","_law_script","_law_given","_law_cells_here","_law_sides","_law_gone","_law_k","_law_knot","_law_number","_law_many","_law_counts"]) (osc:=zd xC) rfl rfl (by first|decide +kernel|kernel_rfl) rfl rfl (x9 (za (zP zY zX (za (zj (pq 0) rfl) zb)) zb)) (λ s H fp pins=>(zW 0 (show (["_law_k","_law_script"]:List Str).Nodup from by decide +kernel))) (λ s H fp pins=>qc) (λ s H fp pins=>(zq zaN (ZG hr (za (pq 1) (za QR zb))) (zq zL (pq 0) zf))))  (zg (zp 3 zbt.nd (zt ⟨rfl,rfl,rfl⟩ hr (za (pq 0) (za (pq 1) (za (pq 2) zb)))))  (zg (zp 4 zbt.nd (zO zb))  (zg (zp 5 zbt.nd (zO zb))  (zK (qh qF rfl (qu (za (zj (pq 0) rfl) zb)) (jr (n:=2) rfl (zF (zW 6 zbt.nd) (zF (zW 7 zbt.nd) qN)))  (zg (vB (i:=8) zbt.nd rfl (Or.inr rfl) (zt ⟨rfl,rfl,rfl⟩ hr (za (pq 1) (za (zq zL zf (pq 6)) zb))))  (zg (zp 9 zbt.nd (zP (ZN rfl) zaz (za (zP zY zX (za (zj (pq 7) rfl) zb)) (za (zP zY zX (za (zj (pq 7) rfl) zb)) zb))))  (zK (zA (PW.pt (pw_or (qf (zP jR zS (za (pq 7) (za jk zb))) (λ _=>rfl)) (pw_or1 (qf (zP jR zS (za (pq 7) (za jk zb))) (λ _=>rfl)))))  (zc (zo (qp aj ao am zz (pq 4) (za (zq qt (pq 8) (pq 9)) zb))))  (zc (zo (qp aj ao am zz (pq 4) (za zf zb)))))  (zg (ZS (i:=10) zbt.nd rfl (Or.inl rfl) (vars:=["_law_b"]) (caps:=[8]) (N:=["_law_b","_law_number"]) (ON:=["_law_work_here","_law_script","_law_given","_law_cells_here","_law_sides","_law_gone","_law_k","_law_knot","_law_number","_law_many","_law_counts"]) (osc:=zd xC) rfl rfl (by first|decide +kernel|kernel_rfl) rfl rfl (x9 (za (pq 9) zb)) (λ s H fp pins=>(zW 0 (show (["_law_b","_law_number"]:List Str).Nodup from by decide +kernel))) (λ s H fp pins=>qc) (λ s H fp pins=>(zq jQ (pq 1) (zq zL (pq 0) zf))))  (zK (zA (qf (zP jR zS (za (pq 7) (za jk zb))) (λ _=>rfl))  (zc (zp 10 zbt.nd (zO (za (zw (pq 2) (pq 6)) zb))))  zl)  (zc (zo (qp aj ao am zz (pq 5) (za (pq 10) zb))))))))))  (zc (zk (ju (x:="State") ⟨rfl,rfl,rfl⟩ hr (za (zt ⟨rfl,rfl,rfl⟩ hr (za (pq 1) (za QR zb))) (za (pq 3) (za (pq 4) (za (pq 5) zb)))))))))))),?_⟩;walk_at "go";walk_at "lc";walk_at "go";refine ra hy T.C_Work T.N_Work_knots e2 ⟨_,.inl ⟨_,SqL.of h2,rfl⟩,?_⟩;rw [lK];walk_at "go";refine ⟨by omega,by omega,λ _ _ _ _ g hg=>?_⟩;let M1_:Nat->St->Hp->Prop:=λ i σ H'=>∃ (v0:Option V) (gs:List Int),σ=[v0,some (.ref l)]/\Same H H'/\H' g=some (.lst (iv gs))/\gs.length=i/\∀ z∈gs,0<=z;refine Zd (n:=((rs.length:Nat):Int).toNat) M1_ (iE2 _ ([]) (iA5 rfl (ze hg) upd_same rfl (by simp))) ?_ ?_
 ·intro i σ H1 hi zz_;refine oE2 zz_ λ v0 gs z1_=>oA5 z1_ λ z2_ s1 hg1 lgs gn=>?_;clear zz_;subst z2_;walk_at "go";refine uc (Vw T).mono (iE3 l ns _ (iA4 rfl (qB s1 hl) (by decide) (λ m m0=>?_)));walk_at "go";refine ⟨fd_small (by omega) (by omega),⟨_,iA3 hg1 (zh (by rw [zn];omega)) (iE2 _ (gs ++ [_]) (iA5 rfl (λ b o hb=>by rw [upd_ne (ne_of_none hb hg)];exact s1 b o hb) (by rw [upd_same,z8]) (by simp [lgs]) (λ z hz=>?_)))⟩⟩;rcases az.mp hz with hz|hz
  ·exact gn z hz
  ·rw [ar.mp hz];rw [fdiv_pos (by omega)];exact bI m0 (by omega)
 intro σ H1 zz_;refine oE2 zz_ λ v0 gs z1_=>oA5 z1_ λ z2_ s1 hg1 lgs gn=>?_;clear zz_;subst z2_;walk_at "go";refine uc (zcf T).mono (iE8 (.ref yw) l g ns gs bs rs H (iA9 rfl s1 hg hw hl hg1 ⟨by omega,gn⟩ b24 (iA4 r24 bo hS (λ C css gs' H2 s2 hg2 lg2 rC co=>?_))));clear hg1 lgs s1;walk_at "go";intro S hSn;walk_at "go";intro G hGn;have nSG:S≠G:=ne_of_none upd_same hGn;have s3:=(ze (o:=.lst []) hSn).trans (ze (o:=.lst []) hGn);have n2:∀ m∈[S,G],H2 m=none:=λ m hm=>by
  simp only [ay,be,bR] at hm;rcases hm with rfl|rfl
  ·exact hSn
  ·exact zJ hGn
 have n0:∀ m∈[S,G],H m=none:=λ m hm=>zT s2 (n2 m hm);have rC3:=rC.ahead s3 n2;have hg3:=s3 _ _ hg2;have ogS:g ∉ [S,G]:=λ z=>by rw [n2 g z] at hg2;cases hg2
 have hS3:upd (upd H2 S (.lst [])) G (.lst []) S=some (.lst []):=by rw [upd_ne nSG];exact upd_same
 have hG3:upd (upd H2 S (.lst [])) G (.lst []) G=some (.lst []):=upd_same;have sH3:=s2.trans s3;generalize upd (upd H2 S (.lst [])) G (.lst [])=H3 at s3 rC3 hg3 hS3 hG3 sH3 ⊢;clear hSn hGn n2 rC hg2 s2 s3;walk_at "go";let M2_:St->Hp->Prop:=λ σ' H'=>∃ (v6 v7 v8 v9 v10:Option V) (us:List V) (sds:List Int) (gss:List (List Int)),σ'=XS yw l g C S G v6 v7 v8 v9 v10/\Fr [S,G] H3 H'/\H' S=some (.lst (iv sds))/\xQ rs sds/\H' G=some (.lst us)/\Reps H' (Off [S,G]) us ((z7 gss).map D.lst)/\xz rs gss;refine cut M2_ ?_ ?_
 ·walk_at "for";walk_at "go";refine ra (sH3 _ _ hy) T.C_Work T.N_Work_knots e2 (iE2 l2 _ (iA3 rfl (sH3 _ _ h2) ?_));let M3_:Nat->St->Hp->Prop:=λ i σ H'=>∃ (v6 v7 v8 v9 v10:Option V) (us:List V) (sds:List Int) (gss:List (List Int)),σ=XS yw l g C S G v6 v7 v8 v9 v10/\Fr [S,G] H3 H'/\H' S=some (.lst (iv sds))/\xQ (rs.take i) sds/\H' G=some (.lst us)/\Reps H' (Off [S,G]) us ((z7 gss).map D.lst)/\xz (rs.take i) gss;refine Ze (K:=K) (a:=l2) (xs:=kvs) M3_ (iE8 _ _ _ _ _ ([]) ([]) ([]) (iA7 rfl Fr.refl hS3 ⟨rfl,λ _ _ _ h=>by simp at h⟩ hG3 (.nil) Vf)) (λ i σ H' _ h=>by obtain ⟨_,_,_,_,_,_,_,_,_,f,_⟩:=h;exact SqL.of (frS sH3 f n0 _ _ h2)) ?_ ?_
  ·intro i x t σ H4 hi ht zz_;refine oE8 zz_ λ v6 v7 v8 v9 v10 us sds gss z1_=>oA7 z1_ λ z2_ f4 hS4 ls4 hG4 ru4 go4=>?_;clear zz_;subst z2_;obtain ⟨r,hr',hKn⟩:=hK.at hi;refine oE6 hKn.inv λ y1 dx1 m1 m2 m3 fs1 z1_=>oA9 z1_ λ z2_ _ _ _ _ q0 qa qb z3_=>oA5 z3_ λ _ qi qo _ _=>?_;subst z2_;have hil:=(aa.mp hr').1;have ok:=ro r (ah hr');have cl:=Jh r;have cp:=qS ok;have ls4':sds.length<=i:=by rw [ls4.1,aI];omega
   have lu:us.length<=i:=by rw [ru4.len,ae,ae,go4.1,aI];omega
   have st:=ze (o:=.tup [.int i,.ref y1]) ht;refine un2 upd_same ?_;have f5:=f4.trans (Same.fr (ms:=[S,G]) st);have hS5:=st _ _ hS4;have hG5:=st _ _ hG4;have ru5:=ru4.same st;generalize upd H4 t (.tup [.int i,.ref y1])=H5 at f5 hS5 hG5 ru5 ⊢;clear f4 hS4 hG4 ru4 st ht;have s5:=frS sH3 f5 n0;walk_at "go";refine uc (xM T).mono (xI l ns (1000 + i) (by simp) (qB s5 hl) (by omega) (λ nu nu0 nu1=>?_));walk_at "go";refine ra (s5 _ _ q0) (CT T _) (NI T _) qa ⟨_,iA3 (.inl ⟨_,SqL.of (s5 _ _ qi),rfl⟩) m_len (iE5 y1 (jY a r.wd) dx1 fs1 _ (iA6 rfl (s5 _ _ q0) (CT T _) (NO T _) qb ⟨_,⟨.inl ⟨_,SqL.of (s5 _ _ qo),rfl⟩,iE2 _ _ ⟨rfl,?_⟩⟩⟩))⟩;rw [zn,zn,zfp,<- cl];walk_at "go";let M4_:St->Hp->Prop:=λ σ' H'=>∃ sd:Int,σ'=XS yw l g C S G (some (.int i)) (some (.ref y1)) (some (.int nu)) (some (.int ((qI r).length:Int))) v10/\j5 r sd/\H'=upd H5 S (.lst (iv (sds ++ [sd])));refine cut M4_ ?_ ?_
   ·walk_at "go";refine iE2 (.ref a.Parter) _ (iA3 T.g_Parter rfl (iE4 _ _ _ _ (iA4 rfl ((WT T r.wd).ty (CT T r.wd) (s5 _ _ q0)) (.inl ⟨_,rfl,zgB T r.wd⟩) ?_)));walk_at "go";refine XW (C:=r.wd=.joiner) (λ pj=>?_) (λ np hp=>?_)
    ·walk_at "go";refine iA3 (.inl ⟨rfl,_,SqL.of hS5⟩) (by omega) (iE3 S _ _ (iA5 rfl rfl hS5 (zh (by rw [zn];omega)) ⟨nu % ((qI r).length:Int),iA3 rfl (zcJ ok pj nu) ?_⟩));rw [z8]
    walk_at "go";refine iE2 (.ref a.Joiner) _ (iA3 T.g_Joiner rfl (iE4 _ _ _ _ (iA4 rfl ((WT T r.wd).ty (CT T r.wd) (s5 _ _ q0)) (.inl ⟨_,rfl,zf9 T r.wd⟩) ?_)));walk_at "go";refine zI (λ z=>hp z) (λ nj=>?_);walk_at "go";refine ⟨.inl ⟨rfl,_,SqL.of hS5⟩,iE3 S _ _ (iA5 rfl rfl hS5 (zh (by rw [zn];omega)) ⟨0,iA3 rfl (iA4 (Int.le_refl _) (λ z=>absurd z np) (λ z=>absurd z nj) (λ _ _=>rfl)) ?_⟩)⟩;rw [z8]
   intro σ' H6 zz_;refine oE1 zz_ λ sd z1_=>oA3 z1_ λ z2_ sdk z3_=>?_;clear zz_;subst z2_ z3_;have f6:Fr [S,G] H3 (upd H5 S (.lst (iv (sds ++ [sd])))):=f5.trans (qj (by simp));have hS6:upd H5 S (.lst (iv (sds ++ [sd]))) S=some (.lst (iv (sds ++ [sd]))):=upd_same;have hG6:upd H5 S (.lst (iv (sds ++ [sd]))) G=some (.lst us):=by rw [upd_ne nSG.symm];exact hG5
   have ru6:=ru5.fr (qj (o:=.lst (iv (sds ++ [sd]))) (x:=S) (by simp));generalize upd H5 S (.lst (iv (sds ++ [sd])))=H6 at f6 hS6 hG6 ru6 ⊢;clear f5 hS5 hG5 ru5 s5;have s6:=frS sH3 f6 n0;walk_at "go";walk_at "lc";walk_at "go";refine ⟨by omega,by omega,λ _ _ _ _ Z hZ=>?_⟩;let M5_:Nat->St->Hp->Prop:=λ j σ H'=>∃ (v0:Option V) (cn:List Int),σ=[v0,some (.int nu)]/\Same H6 H'/\H' Z=some (.lst (iv cn))/\cn.length=j/\∀ z∈cn,0<=z;refine Zd (n:=(((qI r).length:Nat):Int).toNat) M5_ (iE2 _ ([]) (iA5 rfl (ze hZ) upd_same rfl (by simp))) ?_ ?_
   ·intro j σ H7 hj zz_;refine oE2 zz_ λ v0 cn z1_=>oA5 z1_ λ z2_ s7 hZ7 lcn cnn=>?_;clear zz_;subst z2_;walk_at "go";refine ⟨mul_okR (by omega) (by omega),⟨_,iA3 hZ7 (zh (by rw [zn];omega)) (iE2 _ (cn ++ [_]) (iA5 rfl (λ b o hb=>by rw [upd_ne (ne_of_none hb hZ)];exact s7 b o hb) (by rw [upd_same,z8]) (by simp [lcn]) (λ z hz=>?_)))⟩⟩;rcases az.mp hz with hz|hz
    ·exact cnn z hz
    ·rw [ar.mp hz];exact dO nu0 (by omega)
   intro σ H7 zz_;refine oE2 zz_ λ v0 cn z1_=>oA5 z1_ λ z2_ s7 hZ7 lcn cnn=>?_;clear zz_;subst z2_;walk_at "go";let M6_:St->Hp->Prop:=λ σ' H'=>∃ (Z:Addr) (cn:List Int),σ'=XS yw l g C S G (some (.int i)) (some (.ref y1)) (some (.int nu)) (some (.int ((qI r).length:Int))) (some (.ref Z))/\Same H6 H'/\H' Z=some (.lst (iv cn))/\cn.length=(qI r).length/\(∀ z∈cn,0<=z)/\H6 Z=none;refine cut M6_ ?_ ?_
   ·walk_at "go";refine iE2 (.ref a.Source) _ (iA3 T.g_Source rfl (iE4 _ _ _ _ (iA4 rfl ((WT T r.wd).ty (CT T r.wd) (s7 _ _ (s6 _ _ q0))) (.inl ⟨_,rfl,zaf T r.wd⟩) ?_)));walk_at "go";refine zI (λ b=>?_) (λ b=>(iE2 Z cn (iA6 rfl s7 hZ7 (by omega) cnn hZ)));have lg2':=lg2.1;obtain ⟨gi,hgi⟩:∃ y,gs'[i]?=some y:=⟨gs'[i]'(by omega),ad _⟩;walk_at "go";refine zu (SqL.of (s7 _ _ (f6 _ _ ogS hg3))) (zG (jf hgi)) λ Z2 hZ2=>?_;walk_at "go";exact iE2 Z2 ([gi]) (iA6 rfl (s7.trans (ze hZ2)) upd_same (by rw [zcu ok b];rfl) (λ z hz=>by rw [ar.mp hz];exact lg2.2 gi (ah hgi)) (zT s7 hZ2))
   clear hZ7 lcn s7 hZ;intro σ' H8 zz_;refine oE2 zz_ λ Z cn z1_=>oA6 z1_ λ z2_ s8 hZ8 lcn cnn Z6=>?_;clear zz_;subst z2_;have fm:Fr [S,G] H8 (upd H8 G (.lst (us ++ [.ref Z]))):=qj (by simp);have oZ:Off [S,G] Z:=λ z=>by
    simp only [ay,be,bR] at z;rcases z with rfl|rfl
    ·rw [hS6] at Z6;cases Z6
    ·rw [hG6] at Z6;cases Z6
   walk_at "go";refine ⟨.inl ⟨rfl,_,SqL.of (s8 _ _ hG6)⟩,iE3 G _ _ (iA5 rfl rfl (s8 _ _ hG6) (zh (by omega)) ?_)⟩;refine iE8 _ _ _ _ _ (us ++ [.ref Z]) (sds ++ [sd]) (gss ++ [cn]) (iA7 rfl ((f6.trans s8.fr).trans fm) (by rw [upd_ne nSG];exact s8 _ _ hS6) (VM hr' ls4 sdk) upd_same ?_ ?_)
   ·rw [show (z7 (gss ++ [cn])).map D.lst=(z7 gss).map D.lst ++ [.ints cn] by simp [z7]];exact ((ru6.same s8).append (.one (qe oZ hZ8))).fr fm
   ·rw [aF,hr'];exact J7 go4 lcn cnn
  ·intro σ H4 zz_;refine oE8 zz_ λ v6 v7 v8 v9 v10 us sds gss z1_=>oA7 z1_ λ z2_ f4 hS4 ls4 hG4 ru4 go4=>?_;clear zz_;subst z2_;rw [lK] at ls4 go4;rw [aK] at ls4 go4;exact iE8 _ _ _ _ _ us sds gss (iA7 rfl f4 hS4 ls4 hG4 ru4 go4)
 intro σ' H4 zz_;refine oE8 zz_ λ v6 v7 v8 v9 v10 us sds gss z1_=>oA7 z1_ λ z2_ f4 hS4 ls4 hG4 ru4 go4=>?_;clear zz_;subst z2_;have s4:=frS sH3 f4 n0;walk_at "go";refine iE4 a.State _ _ _ ⟨(XT T).mono,iE3 _ _ _ ⟨(Vw T).mono,⟨l,ns,_,rfl,qB s4 hl,by decide,λ tn _=>?_⟩⟩⟩;refine Q1 T (st:=⟨tn,css,sds,gss⟩) (rC3.fr f4).all (qe (p:=Off []) (λ z=>nomatch z) hS4) (ru4.all.mk' (λ z=>nomatch z) hG4) (by show css.length<=100;rw [co.1];omega) (by show gss.length<=100;rw [go4.1];omega) λ y H5 s5 sn=>?_;refine oE2 sn λ y' n z1_=>oA3 z1_ λ e so _=>?_;clear sn;cases e;exact k y n _ H5 (s4.trans s5) so ⟨co,ls4,go4⟩
theorem zdH (T:Txt K mg a):Cal P w K mg base "_law_made" 4 ["_law_work_here","_law_script"] [] (VH K a):=T.h_L_made.cal (zbM T)
def sh (d:List Int) (x:zE):zE:=x.map λ y=>(y.1,y.2 + d.getD y.1.toNat 0)
abbrev shC (d:List Int) (cs:List (List zE)):List (List zE):=cs.map λ c=>c.map (sh d)
abbrev shG (gs:List (List Int)) (ms:List Int):List (List Int):=List.zipWith (λ g m=>g.map (· + m)) gs ms
def StK (rs:List Row) (i:Nat) (ms:List Int):Prop:=ms.length=i/\∀ (k:Nat) r z,rs[k]?=some r->r.wd=.source->ms[k]?=some z->(r.kinds.length:Int) ∣ z/\0<=z
structure Shf (bs:List (Int × Int)) (rs:List Row) (ms:List Int) (s s':PSt):Prop where
 tn:beatL bs rs ∣ s'.turn - s.turn
 ce:s'.cells=shC ms s.cells
 sd:s'.sides=s.sides
 gn:s'.gone=shG s.gone ms
 kd:StK rs rs.length ms
theorem StK.snoc {rs:List Row} {i:Nat} {ms:List Int} {r:Row} (h:StK rs i ms) (hr:rs[i]?=some r) {z:Int} (hz:r.wd=.source->(r.kinds.length:Int) ∣ z/\0<=z):StK rs (i + 1) (ms ++ [z]):=by
 refine ⟨by simp [h.1],λ k r' z' h1 h2 h3=>?_⟩;by_cases hk:k < ms.length
 ·rw [aJ hk] at h3;exact h.2 k r' z' h1 h2 h3
 ·have hk':k=i:=by have:=(aa.mp h3).1;simp at this;have:=h.1;omega
  subst hk';rw [aE (by omega),h.1,ef] at h3;rw [hr] at h1;cases h1;cases h3;exact hz h2
theorem zfZ {rs:List Row} {d ms:List Int} {x:zE} (w:qD rs x) (h:∀ (k:Nat) r,rs[k]?=some r->r.wd=.source->d[k]?=ms[k]?):sh d x=sh ms x:=by
 cases x with
 | none=>rfl
 | some y =>
  refine oE2 (w y.1 y.2 rfl) λ j r z1_=>oA4 z1_ λ e hr hs _=>?_;show some (y.1,y.2 + d.getD y.1.toNat 0)=some (y.1,y.2 + ms.getD y.1.toNat 0)
  rw [e,aO,ap,ap,h j r hr hs]
theorem ze4 {bs:List (Int × Int)} {rs:List Row} {d ms:List Int} {cs:List (List zE)} (w:ql bs rs cs) (h:∀ (k:Nat) r,rs[k]?=some r->r.wd=.source->d[k]?=ms[k]?):shC d cs=shC ms cs:=by
 refine b7 λ c hc=>b7 λ x hx=>zfZ ?_ h;obtain ⟨i,hi⟩:=bD hc;have hb:=ad (l:=bs) (i:=i) (by rw [<- w.1];exact (aa.mp hi).1);exact (w.2 i _ c hb hi).2 x hx
abbrev xR (y s l:Addr) (bt:Int) (Sp:Addr) (v5 v6 v7 v8 v9 v10 v11:Option V):St:=[some (.ref y),some (.ref s),some (.ref l),some (.int bt),some (.ref Sp),v5,v6,v7,v8,v9,v10,v11]
def JR (K:PySem.W.Frag) (a:Ad):Sp:=λ vs H Q _=>∃ (vw:V) (y l:Addr) (n:SN) (bt:Int) (ns:List Int) (bs:List (Int × Int)) (rs:List Row) (st:PSt),vs=[vw,.ref y,.ref l,.int bt]/\Rep H (Off []) vw (qk a bs rs)/\StO a H y n st/\stWf bs rs st/\SqL K H l (iv ns)/\bs.length<=24/\rs.length<=24/\(∀ b∈bs,zy b.1 b.2)/\(∀ r∈rs,r.ok)/\beatL bs rs ∣ bt/\∀ y n st' ms H',Same H H'->StO a H' y n st'->stWf bs rs st'->Shf bs rs ms st st'->Q (.ref y) H'
theorem XM (T:Txt K mg a) (F:Fun K "_law_shifted" "_law_shifted" ji f fd):FnOk P w K mg base (CXr P w) 3 f fd ["_law_work_here","_law_state","_law_script","_law_beat_here"] (JR K a):=by
 refine F.okx Xx ?_ ?_
 ·walk_at "i"
 walk_at "j";refine oE5 h λ vw y l n bt z1_=>oE4 z1_ λ ns bs rs st z2_=>oA9 z2_ λ z3_ hw so wf hl b24 r24 bo z4_=>oA3 z4_ λ ro bd k=>?_;clear h;subst z3_;refine oE7 (qL hw) λ yw dx fs l1 l2 bvs kvs z1_=>oA9 z1_ λ z2_ hy e1 e2 h1 h2 hB hK no=>?_;subst z2_;have lK:=hK.len;have lc:n.acs.length=st.cells.length:=by rw [so.hc.len,zC,ae]
 have lgn:n.ags.length=st.gone.length:=by rw [so.hg.len,z7,ae]
 have lcb:st.cells.length=bs.length:=wf.co.1;have lgr:st.gone.length=rs.length:=wf.go.1;walk_at "T";refine ⟨_,(zg (vB (i:=4) Xx.nd rfl (Or.inr rfl) (zO zb))  (zK (qh qF rfl (qu (za (zj (pq 0) rfl) zb)) (jr (n:=2) rfl (zF (zW 5 Xx.nd) (zF (zW 6 Xx.nd) qN)))  (zg (zo (qp aj ao am zz (pq 4) (za zf zb)))  (zc (zA (qf (zP jR zS (za (pq 6) (za jk zb))) (λ _=>rfl))  (zc (ZD (zq jQ (zq jQ (zP zY zX (za (zj (pq 6) rfl) zb)) (V4 (zt ⟨rfl,rfl,rfl⟩ hr (za (pq 2) (za (zq zL zf (pq 5)) zb))))) (zq zL zf (zq jQ (pq 5) QR))) (ZF (pq 4) (pq 5) jE)))  zl))))  (zg (zp 7 Xx.nd (zO zb))  (zK (qh qF rfl (z9 (zj (pq 1) rfl)) (zW 8 Xx.nd)  (zc (zo (qp aj ao am zz (pq 7) (za (jG (vars:=["_law_ware"]) (caps:=[4]) (N:=["_law_ware","_law_steps"]) (ON:=["_law_work_here","_law_state","_law_script","_law_beat_here","_law_steps","_law_k","_law_knot","_law_cells_here","_law_row","_law_gone","_law_counts","_law_more"]) (osc:=zd ji) rfl rfl (by first|decide +kernel|kernel_rfl) rfl rfl (z9 (pq 8)) (λ s H fp pins=>(zW 0 (show (["_law_ware","_law_steps"]:List Str).Nodup from by decide +kernel))) (λ s H fp pins=>qc) (λ s H fp pins=>(xg (zm je (pq 0) zD (zr _)) zD (jx (za (zw (pq 0) zf) (za (zq zL (zw (pq 0) zf) (zw (pq 1) (zw (pq 0) zf))) zb)))))) zb)))))  (zg (zp 9 Xx.nd (zO zb))  (zK (qh qF rfl (qu (za (zj (pq 1) rfl) zb)) (jr (n:=2) rfl (zF (zW 5 Xx.nd) (zF (zW 10 Xx.nd) qN)))  (zg (vB (i:=11) Xx.nd rfl (Or.inr rfl) (qv (zt ⟨rfl,rfl,rfl⟩ hr (za (pq 2) (za (zq zL zf (pq 5)) zb)))))  (zK (zA (qf (zP jR zS (za (zw (zj (pq 0) rfl) (pq 5)) (za jk zb))) (λ _=>rfl))  (zc (vB (i:=11) Xx.nd rfl (Or.inr rfl) (zw (pq 4) (pq 5))))  zl)  (zc (zo (qp aj ao am zz (pq 9) (za (jG (vars:=["_law_count"]) (caps:=[11]) (N:=["_law_count","_law_more"]) (ON:=["_law_work_here","_law_state","_law_script","_law_beat_here","_law_steps","_law_k","_law_knot","_law_cells_here","_law_row","_law_gone","_law_counts","_law_more"]) (osc:=zd ji) rfl rfl (by first|decide +kernel|kernel_rfl) rfl rfl (z9 (pq 10)) (λ s H fp pins=>(zW 0 (show (["_law_count","_law_more"]:List Str).Nodup from by decide +kernel))) (λ s H fp pins=>qc) (λ s H fp pins=>(zq zL (pq 0) (pq 1)))) zb)))))))  (zc (zk (ju (x:="State") ⟨rfl,rfl,rfl⟩ hr (za (zq zL (zj (pq 1) rfl) (zq jQ (pq 3) (zt ⟨rfl,rfl,rfl⟩ hr (za (pq 2) (za zf zb))))) (za (pq 7) (za (zj (pq 1) rfl) (za (pq 9) zb))))))))))))),?_⟩;walk_at "go";intro Sp hSn;have s1:=ze (o:=.lst []) hSn;have hS1:upd H Sp (.lst []) Sp=some (.lst (iv [])):=upd_same;generalize upd H Sp (.lst [])=H1 at s1 hS1 ⊢;walk_at "go";let M1_:St->Hp->Prop:=λ σ' H'=>∃ (v5 v6:Option V) (sts:List Int),σ'=xR yw y l bt Sp v5 v6 none none none none none/\Same H H'/\H' Sp=some (.lst (iv sts))/\StK rs rs.length sts;refine cut M1_ ?_ ?_
 ·walk_at "for";walk_at "go";refine ra (s1 _ _ hy) T.C_Work T.N_Work_knots e2 (iE2 l2 _ (iA3 rfl (s1 _ _ h2) ?_));let M2_:Nat->St->Hp->Prop:=λ i σ H'=>∃ (v5 v6:Option V) (sts:List Int),σ=xR yw y l bt Sp v5 v6 none none none none none/\Same H H'/\H' Sp=some (.lst (iv sts))/\StK rs i sts;refine Ze (K:=K) (a:=l2) (xs:=kvs) M2_ (iE3 _ _ ([]) (iA5 rfl s1 hS1 rfl (λ _ _ _ _ _ h=>by simp at h))) (λ i σ H' _ h=>by obtain ⟨_,_,_,_,s,_⟩:=h;exact SqL.of (s _ _ h2)) ?_ ?_
  ·clear s1 hS1;intro i x t σ H4 hi ht zz_;refine oE3 zz_ λ v5 v6 sts z1_=>oA4 z1_ λ z2_ s4 hS4 ls=>?_;clear zz_;subst z2_;obtain ⟨r,hr',hKn⟩:=hK.at hi;refine oE6 hKn.inv λ y1 dx1 m1 m2 m3 fs1 z1_=>oA9 z1_ λ z2_ _ _ _ _ q0 _ _ z3_=>oA5 z3_ λ _ _ _ g3 _=>?_;subst z2_;have hil:=(aa.mp hr').1;have ls':=ls.1;have st':=ze (o:=.tup [.int i,.ref y1]) ht;refine un2 upd_same ?_;have s5:=s4.trans st';have hS5:=st' _ _ hS4;generalize upd H4 t (.tup [.int i,.ref y1])=H5 at s5 hS5 ⊢;clear s4 hS4 st' ht;walk_at "go";refine ⟨.inl ⟨rfl,_,SqL.of hS5⟩,iE3 Sp _ _ (iA5 rfl rfl hS5 (zh (by rw [zn];omega)) ?_)⟩;rw [z8];have s6:Same H (upd H5 Sp (.lst (iv (sts ++ [0])))):=λ b o hb=>by rw [upd_ne (ne_of_none hb hSn)];exact s5 b o hb
   have hS6:upd H5 Sp (.lst (iv (sts ++ [0]))) Sp=some (.lst (iv (sts ++ [0]))):=upd_same;generalize upd H5 Sp (.lst (iv (sts ++ [0])))=H6 at s6 hS6 ⊢;clear s5 hS5;walk_at "go";refine iE2 (.ref a.Source) _ (iA3 T.g_Source rfl (iE4 _ _ _ _ (iA4 rfl ((WT T r.wd).ty (CT T r.wd) (s6 _ _ q0)) (.inl ⟨_,rfl,zaf T r.wd⟩) ?_)));walk_at "go";refine zI (λ b=>?_) (λ b=>(iE3 _ _ _ (iA4 rfl s6 hS6 (ls.snoc hr' λ z=>absurd z b))));obtain ⟨g3a,g3b⟩:=g3 b;have k6:r.kinds.length<=6:=by
    have ok:=ro r (ah hr');unfold Row.ok at ok;rw [b] at ok;exact ok.2.2.2.2.2.1
   walk_at "go";refine iE5 y1 (jY a r.wd) dx1 fs1 _ (iA6 rfl (s6 _ _ q0) (CT T _) (by rw [b];exact T.N_Source_kinds) g3a ⟨_,⟨.inl ⟨_,SqL.of (s6 _ _ g3b),rfl⟩,?_⟩⟩);rw [zn];refine uc (xM T).mono (xI l ns (2000 + i) (by simp) (qB s6 hl) (by omega) (λ dn d0 d1=>?_));walk_at "go";have z0:=aG dn (show (1000000000:Int)≠0 by decide);have z1:=aB dn (show (0:Int) < 1000000000 by decide);generalize dn % 1000000000=dz at z0 z1 ⊢;obtain ⟨p0,p1⟩:=zbD (x:=(r.kinds.length:Int)) (y:=dz) (m:=7) (n:=1000000000) (by omega) z0 (by omega) z1;refine iA4 (mul_okR (by omega) (by omega)) (mul_okL (by omega) (by omega)) (mul_okL (by omega) (by omega)) ?_;refine xn hS6 (vE (by omega) (by rw [zn];simp;omega)) ?_;rw [aO,XV,List.set_append_right _ _ (by omega),ls',ef];exact iE3 _ _ _ (iA4 rfl (λ b o hb=>by rw [upd_ne (ne_of_none hb hSn)];exact s6 b o hb) upd_same (ls.snoc hr' λ _=>⟨d8 (Int.dvd_mul_right _ _),dO p0 (by omega)⟩))
  ·intro σ H4 zz_;refine oE3 zz_ λ v5 v6 sts z1_=>oA4 z1_ λ z2_ s4 hS4 ls=>?_;clear zz_;subst z2_;exact iE3 _ _ sts (iA4 rfl s4 hS4 (by rw [lK] at ls;exact ls))
 clear s1 hS1 hSn;intro σ' H1 zz_;refine oE3 zz_ λ v5 v6 sts z1_=>oA4 z1_ λ z2_ s1 hS1 stk=>?_;clear zz_;subst z2_;have lst:=stk.1;walk_at "go";intro C hC;have s2:=s1.trans (ze (o:=.lst []) hC);have hS2:=upd_keep (o:=.lst []) hS1 hC;have hC2:upd H1 C (.lst []) C=some (.lst []):=upd_same;have C0:H C=none:=zT s1 hC;have nSC:Sp≠C:=ne_of_none hS1 hC;have n0:∀ m∈[C],H m=none:=λ m hm=>by rw [ar.mp hm];exact C0
 generalize upd H1 C (.lst [])=H2 at s2 hS2 hC2 ⊢;clear s1 hS1 hC;walk_at "go";let M3_:St->Hp->Prop:=λ σ' H'=>∃ (v8:Option V) (us:List V) (css:List (List zE)),σ'=xR yw y l bt Sp v5 v6 (some (.ref C)) v8 none none none/\Fr [C] H2 H'/\H' C=some (.lst us)/\Reps H' (Off [C]) us ((zC css).map D.lst)/\ql bs rs css/\css=shC sts st.cells;refine cut M3_ ?_ ?_
 ·walk_at "for";walk_at "go";have so2:=so.same s2;refine ra so2.hy T.C_State T.N_State_cells rfl ⟨n.lc,rfl,.inl ⟨⟨_,SqL.of so2.hc.out⟩,?_⟩⟩;let M4_:Nat->St->Hp->Prop:=λ i σ H'=>∃ (v8:Option V) (us:List V) (css:List (List zE)),σ=xR yw y l bt Sp v5 v6 (some (.ref C)) v8 none none none/\Fr [C] H2 H'/\H' C=some (.lst us)/\Reps H' (Off [C]) us ((zC css).map D.lst)/\ql (bs.take i) rs css/\css=shC sts (st.cells.take i);refine qG (K:=K) (a:=n.lc) (xs:=n.acs.map V.ref) M4_ (iE3 _ ([]) ([]) (iA6 rfl Fr.refl hC2 (.nil) J9 rfl)) (λ i σ H' _ h=>by obtain ⟨_,_,_,_,f,_⟩:=h;exact SqL.of (frS s2 f n0 _ _ so.hc.out)) ?_ ?_
  ·clear so2 hC2;intro i x σ H3 hi zz_;refine oE3 zz_ λ v8 us css z1_=>oA6 z1_ λ z2_ f3 hC3 ru3 co ecs=>?_;clear zz_;subst z2_;rw [ak,aq] at hi;obtain ⟨cb,hcb,rfl⟩:=hi;have hil:i < st.cells.length:=by rw [<- lc];exact (aa.mp hcb).1
   obtain ⟨c,ec⟩:∃ c,st.cells[i]?=some c:=⟨_,ad hil⟩;obtain ⟨vs,hvs,rvs⟩:=so.hc.g i cb _ hcb (show (zC st.cells)[i]?=some (c.map zQ) by rw [zC,ak,ec];rfl);obtain ⟨b,hb⟩:∃ b,bs[i]?=some b:=⟨_,ad (by rw [<- lcb];exact hil)⟩;obtain ⟨lc6,wk⟩:=wf.co.2 i b c hb ec;have bk:=(bo b (ah hb)).2.1;have lv:vs.length=c.length:=by rw [rvs.len,ae]
   have s3:=frS s2 f3 n0;have hS3:=f3 _ _ (by simp [nSC]) hS2;have lus:us.length<=i:=by rw [ru3.len,ae,ae,co.1,aI];omega
   walk_at "go";walk_at "lc";walk_at "go";refine ⟨.inl ⟨rfl,_,SqL.of hC3⟩,⟨cb,⟨rfl,.inl ⟨⟨_,SqL.of (s3 _ _ hvs)⟩,λ _ _ _ _ Z hZ=>?_⟩⟩⟩⟩;have nZC:Z≠C:=(ne_of_none hC3 hZ).symm;let M5_:Nat->St->Hp->Prop:=λ j σ H'=>∃ (v0:Option V) (ws:List V) (c':List zE),σ=[v0,some (.ref Sp)]/\Same H3 H'/\H' Z=some (.lst ws)/\Reps H' (Off [C,Z]) ws (c'.map zQ)/\c'.length=j/\c'=(c.take j).map (sh sts)/\∀ x∈c',qD rs x;refine qG (K:=K) (a:=cb) (xs:=vs) M5_ (iE3 _ ([]) ([]) (iA7 rfl (ze hZ) upd_same (.nil) rfl rfl (by simp))) (λ j σ H' _ h=>by obtain ⟨_,_,_,_,s,_⟩:=h;exact SqL.of (s _ _ (s3 _ _ hvs))) ?_ ?_
   ·intro j v σ H4 hj zz_;refine oE3 zz_ λ v0 ws c' z1_=>oA7 z1_ λ z2_ s4 hZ4 rw4 lc' ec' wk'=>?_;clear zz_;subst z2_;obtain ⟨d,hd,rv⟩:=rvs.at hj;rw [ak,aq] at hd;obtain ⟨wr,hwr,rfl⟩:=hd;have hjl:=(aa.mp hwr).1;have lw:ws.length=j:=by rw [rw4.len,ae,lc']
    have snZ:∀ {H5:Hp} {o:HO},Same H3 H5->Same H3 (upd H5 Z o):=λ s b o hb=>by rw [upd_ne (ne_of_none hb hZ)];exact s b o hb
    cases wr with
    | none =>
     have rv:Rep H (zR H) v .non:=rv;cases rv;walk_at "go";have fm:Fr [C,Z] H4 (upd H4 Z (.lst (ws ++ [.non]))):=qj (by simp);refine ⟨_,iA3 hZ4 (zh (by omega)) (iE3 _ _ (c' ++ [none]) (iA7 rfl (snZ s4) upd_same ?_ (by simp [lc']) (by rw [ec',aF,hwr,aV];rfl) (λ x hx=>?_)))⟩
     ·rw [aV];exact (rw4.fr fm).append (.one .non)
     ·rcases az.mp hx with hx|hx
      ·exact wk' x hx
      ·rw [ar.mp hx];intro s n z;cases z
    | some x =>
     obtain ⟨tx,rfl,htx⟩:=jH (b:=x) rv;refine oE2 (wk _ (ah hwr) x.1 x.2 rfl) λ jj r z1_=>oA4 z1_ λ ej hr' hs x0=>?_;have hjj:=(aa.mp hr').1;have htx4:=s4 _ _ (s3 _ _ htx);rw [ej] at htx4;obtain ⟨sj,hsj⟩:∃ z,sts[jj]?=some z:=⟨sts[jj]'(by omega),ad _⟩;walk_at "go";refine rd_ixT htx4 at0 ?_;refine rd_ixT htx4 rfl ?_;refine rd_ixT htx4 at0 ?_;refine zu (SqL.of (s4 _ _ hS3)) (zG (jf hsj)) ?_;walk_at "go";intro tw htw;have st':=ze (o:=.tup [.int jj,.int (x.2 + sj)]) htw;have hw5:upd H4 tw (.tup [.int jj,.int (x.2 + sj)]) tw=some (.tup [.int jj,.int (x.2 + sj)]):=upd_same;have oT:Off [C,Z] tw:=λ z=>by
      simp only [ay,be,bR] at z;rcases z with rfl|rfl
      ·rw [s4 _ _ hC3] at htw;cases htw
      ·rw [hZ4] at htw;cases htw
     have s5:=s4.trans st';have hZ5:=st' _ _ hZ4;have rw5:=rw4.same st';generalize upd H4 tw (.tup [.int jj,.int (x.2 + sj)])=H5 at hw5 s5 hZ5 rw5 ⊢;have fm:Fr [C,Z] H5 (upd H5 Z (.lst (ws ++ [.ref tw]))):=qj (by simp);refine ⟨_,iA3 hZ5 (zh (by omega)) (iE3 _ _ (c' ++ [some ((jj:Int),x.2 + sj)]) (iA7 rfl (snZ s5) upd_same ?_ (by simp [lc']) ?_ (λ z hz=>?_)))⟩
     ·rw [aV];exact (rw5.append (.one (Reps.mkT (vs:=[.int jj,.int (x.2 + sj)]) (.cons .int (.cons .int .nil)) oT hw5))).fr fm
     ·rw [ec',aF,hwr,aV];show _=_ ++ [some (x.1,x.2 + sts.getD x.1.toNat 0)]
      rw [ej,aO,ap,hsj]
      rfl
     ·rcases az.mp hz with hz|hz
      ·exact wk' z hz
      ·rw [ar.mp hz];intro s n q;cases q;exact iE2 jj r (iA4 rfl hr' hs (by have:=(stk.2 jj r sj hr' hs hsj).2;omega))
   intro σ H4 zz_;refine oE3 zz_ λ v0 ws c' z1_=>oA7 z1_ λ z2_ s4 hZ4 rw4 lc' ec' wk'=>?_;clear zz_;subst z2_;rw [lv,aK] at ec';have fm:Fr [C] H4 (upd H4 C (.lst (us ++ [.ref Z]))):=qj (by simp);have lo:∀ b∈[C],b∈[C,Z]\/H4 b=none:=λ b hb=>.inl (by simp [ar.mp hb]);refine iE3 C _ _ (iA5 rfl rfl (s4 _ _ hC3) (zh (by omega)) ?_);refine iE3 _ _ (css ++ [c']) (iA6 rfl ((f3.trans s4.fr).trans fm) upd_same ?_ ?_ (by rw [ecs,ec',aF,ec];simp [shC]))
   ·rw [show (zC (css ++ [c'])).map D.lst=(zC css).map D.lst ++ [.lst (c'.map zQ)] by simp [zC]];exact ((ru3.same s4).append (.one ((rw4.more lo).mk' (by simp [Off,nZC]) hZ4))).fr fm
   ·rw [aF,hb];exact Ji co (by omega) wk'
  ·intro σ H3 zz_;refine oE3 zz_ λ v8 us css z1_=>oA6 z1_ λ z2_ f3 hC3 ru3 co ecs=>?_;clear zz_;subst z2_;rw [ae,lc] at co ecs;rw [aK] at ecs;rw [lcb,aK] at co;exact iE3 _ us css (iA6 rfl f3 hC3 ru3 co ecs)
 clear hC2;intro σ' H3 zz_;refine oE3 zz_ λ v8 us css z1_=>oA6 z1_ λ z2_ f3 hC3 ru3 co ecs=>?_;clear zz_;subst z2_;have s3:=frS s2 f3 n0;have hS3:=f3 _ _ (by simp [nSC]) hS2;have rC3:Rep H3 (Off []) (.ref C) (.lst ((zC css).map D.lst)):=ru3.all.mk' (λ z=>nomatch z) hC3;clear ru3 f3 hC3 hS2 s2 n0;walk_at "go";intro G hG;have s4:=s3.trans (ze (o:=.lst []) hG);have hS4:=upd_keep (o:=.lst []) hS3 hG;have rC4:=rC3.ahead (ms:=[G]) (ze (o:=.lst []) hG) (λ m hm=>by rw [ar.mp hm];exact hG);have hG4:upd H3 G (.lst []) G=some (.lst []):=upd_same;have n0:∀ m∈[G],H m=none:=λ m hm=>by rw [ar.mp hm];exact zT s3 hG
 have nSG:Sp≠G:=ne_of_none hS3 hG;generalize upd H3 G (.lst [])=H4 at s4 hS4 rC4 hG4 ⊢;clear s3 hS3 rC3 hG;walk_at "go";let M6_:St->Hp->Prop:=λ σ' H'=>∃ (v5 v10 v11:Option V) (us:List V) (gss:List (List Int)),σ'=xR yw y l bt Sp v5 v6 (some (.ref C)) v8 (some (.ref G)) v10 v11/\Fr [G] H4 H'/\H' G=some (.lst us)/\Reps H' (Off [G]) us ((z7 gss).map D.lst)/\xz rs gss/\∃ ms,StK rs rs.length ms/\gss=shG st.gone ms/\∀ (k:Nat) r,k < rs.length->rs[k]?=some r->r.wd=.source->sts[k]?=ms[k]?;refine cut M6_ ?_ ?_
 ·walk_at "for";walk_at "go";have so4:=so.same s4;refine ra so4.hy T.C_State T.N_State_gone rfl (iE2 n.lg _ (iA3 rfl so4.hg.out ?_));let M7_:Nat->St->Hp->Prop:=λ i σ H'=>∃ (v5 v10 v11:Option V) (us:List V) (gss:List (List Int)),σ=xR yw y l bt Sp v5 v6 (some (.ref C)) v8 (some (.ref G)) v10 v11/\Fr [G] H4 H'/\H' G=some (.lst us)/\Reps H' (Off [G]) us ((z7 gss).map D.lst)/\xz (rs.take i) gss/\∃ ms,StK rs i ms/\gss=shG (st.gone.take i) ms/\∀ (k:Nat) r,k < i->rs[k]?=some r->r.wd=.source->sts[k]?=ms[k]?;refine Ze (K:=K) (a:=n.lg) (xs:=n.ags.map V.ref) M7_ (iE5 _ _ _ ([]) ([]) (iA6 rfl Fr.refl hG4 (.nil) Vf ⟨[],iA3 ⟨rfl,λ _ _ _ _ _ h=>by simp at h⟩ rfl (λ _ _ h=>absurd h (Nat.not_lt_zero _))⟩)) (λ i σ H' _ h=>by obtain ⟨_,_,_,_,_,_,f,_⟩:=h;exact SqL.of (frS s4 f n0 _ _ so.hg.out)) ?_ ?_
  ·clear so4 hG4;intro i x t σ H5 hi ht zz_;refine oE5 zz_ λ v5 v10 v11 us gss z1_=>oA6 z1_ λ z2_ f5 hG5 ru5 go5 z3_=>oE1 z3_ λ ms z4_=>oA3 z4_ λ mk eg5 ms5=>?_;clear zz_;subst z2_;rw [ak,aq] at hi;obtain ⟨gb,hgb,rfl⟩:=hi;have hil:i < st.gone.length:=by rw [<- lgn];exact (aa.mp hgb).1
   obtain ⟨g,eg⟩:∃ g,st.gone[i]?=some g:=⟨_,ad hil⟩;obtain ⟨gb',hgb',hgG⟩:=wL so.hg eg;rw [hgb] at hgb';cases hgb';obtain ⟨r,hr'⟩:∃ r,rs[i]?=some r:=⟨_,ad (by rw [<- lgr];exact hil)⟩;have hir:=(aa.mp hr').1;obtain ⟨gl,gnn⟩:=wf.go.2 i r g hr' eg;have cp:=qS (ro r (ah hr'));obtain ⟨kv,hkv,hKn⟩:=Qm hK hr';refine oE6 hKn.inv λ y1 dx1 m1 m2 m3 fs1 z1_=>oA9 z1_ λ z2_ _ _ _ _ q0 _ _ z3_=>oA5 z3_ λ _ _ _ _ _=>?_;subst z2_;obtain ⟨si,hsi⟩:∃ z,sts[i]?=some z:=⟨sts[i]'(by omega),ad _⟩;have lus:us.length<=i:=by rw [ru5.len,ae,ae,go5.1,aI];omega
   have st':=ze (o:=.tup [.int i,.ref gb]) ht;refine un2 upd_same ?_;have f6:=f5.trans (Same.fr (ms:=[G]) st');have hG6:=st' _ _ hG5;have ru6:=ru5.same st';generalize upd H5 t (.tup [.int i,.ref gb])=H6 at f6 hG6 ru6 ⊢;clear f5 hG5 ru5 st' ht;have s6:=frS s4 f6 n0;have hS6:=f6 _ _ (by simp [nSG]) hS4;walk_at "go";refine uc (xM T).mono (xI l ns (3000 + i) (by simp) (qB s6 hl) (by omega) (λ dn d0 d1=>?_));walk_at "go";let M8_:St->Hp->Prop:=λ σ' H'=>∃ mo:Int,σ'=xR yw y l bt Sp (some (.int i)) v6 (some (.ref C)) v8 (some (.ref G)) (some (.ref gb)) (some (.int mo))/\0<=mo/\(r.wd=.source->mo=si)/\H'=H6;refine cut M8_ ?_ ?_
   ·walk_at "go";refine ra (s6 _ _ hy) T.C_Work T.N_Work_knots e2 (zu (SqL.of (s6 _ _ h2)) (zG hkv) ?_);walk_at "go";refine iE2 (.ref a.Source) _ (iA3 T.g_Source rfl (iE4 _ _ _ _ (iA4 rfl ((WT T r.wd).ty (CT T r.wd) (s6 _ _ q0)) (.inl ⟨_,rfl,zaf T r.wd⟩) ?_)));walk_at "go";refine zI (λ z=>?_) (λ z=>⟨_,iA4 rfl (by omega) (λ q=>absurd q z) rfl⟩);walk_at "go";refine zu (SqL.of hS6) (zG (jf hsi)) ?_;walk_at "go";exact ⟨_,iA4 rfl ((stk.2 i r si hr' z hsi).2) (λ _=>rfl) rfl⟩
   intro σ' H7 zz_;refine oE1 zz_ λ mo z1_=>oA4 z1_ λ z2_ mo0 moS z3_=>?_;clear zz_;subst z2_ z3_;walk_at "go";walk_at "lc";walk_at "go";refine ⟨.inl ⟨rfl,_,SqL.of hG6⟩,⟨gb,⟨rfl,.inl ⟨⟨_,SqL.of (s6 _ _ hgG)⟩,λ _ _ _ _ Z hZ=>?_⟩⟩⟩⟩;have nZG:Z≠G:=(ne_of_none hG6 hZ).symm;let M9_:Nat->St->Hp->Prop:=λ j σ H'=>∃ (v0:Option V) (cn:List Int),σ=[v0,some (.int mo)]/\Same H7 H'/\H' Z=some (.lst (iv cn))/\cn=(g.take j).map (· + mo);refine qG (K:=K) (a:=gb) (xs:=iv g) M9_ (iE2 _ ([]) (iA4 rfl (ze hZ) upd_same rfl)) (λ j σ H' _ h=>by obtain ⟨_,_,_,s,_⟩:=h;exact SqL.of (s _ _ (s6 _ _ hgG))) ?_ ?_
   ·intro j v σ H8 hj zz_;refine oE2 zz_ λ v0 cn z1_=>oA4 z1_ λ z2_ s8 hZ8 lcn=>?_;clear zz_;subst z2_;obtain ⟨z,hz,rfl⟩:=xH hj;have hjl:=(aa.mp hz).1;walk_at "go";refine ⟨_,iA3 hZ8 (zh (by rw [zn,lcn,ae,aI];omega)) (iE2 _ (cn ++ [_]) (iA4 rfl (λ b o hb=>by rw [upd_ne (ne_of_none hb hZ)];exact s8 b o hb) (by rw [upd_same,z8]) (by rw [lcn,aF,hz,aV];rfl)))⟩
   intro σ H8 zz_;refine oE2 zz_ λ v0 cn z1_=>oA4 z1_ λ z2_ s8 hZ8 lcn=>?_;clear zz_;subst z2_;rw [zn,aK] at lcn;have lcn':cn.length=g.length:=by rw [lcn,ae]
   have fm:Fr [G] H8 (upd H8 G (.lst (us ++ [.ref Z]))):=qj (by simp);refine iE3 G _ _ (iA5 rfl rfl (s8 _ _ hG6) (zh (by omega)) ?_);refine iE5 _ _ _ (us ++ [.ref Z]) (gss ++ [cn]) (iA6 rfl ((f6.trans s8.fr).trans fm) upd_same ?_ ?_ ⟨ms ++ [mo],iA3 (mk.snoc hr' (λ z=>by rw [moS z];exact stk.2 i r si hr' z hsi)) ?_ (λ k r' hk h1 h2=>?_)⟩)
   ·rw [show (z7 (gss ++ [cn])).map D.lst=(z7 gss).map D.lst ++ [.ints cn] by simp [z7]];exact ((ru6.same s8).append (.one (qe (by simp [Off,nZG]) hZ8))).fr fm
   ·rw [aF,hr'];exact J7 go5 (by omega) λ z hz=>by
     rw [lcn] at hz;obtain ⟨q,hq,rfl⟩:=aW.mp hz;have:=gnn q hq;omega
   ·rw [aF,eg,eg5,lcn];show _=List.zipWith _ _ _
    rw [ey (by rw [aI,mk.1];omega)]
    rfl
   ·by_cases e:k=i
    ·subst e;rw [hr'] at h1;cases h1;rw [hsi,aE (by rw [mk.1];exact av _),mk.1,ef,moS h2]
     rfl
    ·rw [aJ (by rw [mk.1];omega)];exact ms5 k r' (by omega) h1 h2
  ·intro σ H5 zz_;refine oE5 zz_ λ v5 v10 v11 us gss z1_=>oA6 z1_ λ z2_ f5 hG5 ru5 go5 mz=>?_;clear zz_;subst z2_;rw [ae,lgn] at go5 mz;rw [aK] at mz;rw [lgr] at go5 mz;rw [aK] at go5;exact iE5 _ _ _ us gss (iA6 rfl f5 hG5 ru5 go5 mz)
 clear hG4;intro σ' H5 zz_;refine oE5 zz_ λ v5' v10 v11 us gss z1_=>oA6 z1_ λ z2_ f5 hG5 ru5 go5 z3_=>oE1 z3_ λ ms z4_=>oA3 z4_ λ mk eg5 ms5=>?_;clear zz_;subst z2_;have s5:=frS s4 f5 n0;have so5:=so.same s5;walk_at "go";refine iE4 a.State _ _ _ ⟨(XT T).mono,iE5 y a.State n.dx _ _ (iA6 rfl so5.hy T.C_State T.N_State_turn rfl ?_)⟩;refine uc (xM T).mono (xI l ns 4000 rfl (qB s5 hl) (by omega) (λ dn d0 d1=>?_));walk_at "go";refine ⟨mul_okR (by omega) (by omega),?_⟩;walk_at "go";refine ra so5.hy T.C_State T.N_State_sides rfl ?_;refine Q1 T (st:=⟨st.turn + bt * dn,css,st.sides,gss⟩) (rC4.fr f5).all (qe (p:=Off []) (λ z=>nomatch z) so5.hs) (ru5.all.mk' (λ z=>nomatch z) hG5) (by show css.length<=100;rw [co.1];omega) (by show gss.length<=100;rw [go5.1];omega) λ y' H6 s6 sn=>?_;refine oE2 sn λ y2 n2 z1_=>oA3 z1_ λ e so6 _=>?_;clear sn;cases e;refine k y' n2 _ ms H6 (s5.trans s6) so6 ⟨co,wf.so,go5⟩ ⟨?_,?_,rfl,eg5,mk⟩
 ·show beatL bs rs ∣ st.turn + bt * dn - st.turn
  rw [show st.turn + bt * dn - st.turn=bt * dn by omega];exact d8 bd
 ·show css=shC ms st.cells
  rw [ecs];exact ze4 wf.co λ k r h1 h2=>ms5 k r (aa.mp h1).1 h1 h2
theorem Vt (T:Txt K mg a):Cal P w K mg base "_law_shifted" 3 ["_law_work_here","_law_state","_law_script","_law_beat_here"] [] (JR K a):=T.h_L_shifted.cal (XM T)
theorem Wg {st:PSt} {k:Nat} {fb:Option Int}:(z6 st k fb).2.turn=st.turn/\(z6 st k fb).2.sides=st.sides/\(z6 st k fb).2.gone=st.gone:=by
 cases fb <;> exact ⟨rfl,rfl,rfl⟩
theorem WL {st:PSt} {x:zE} {tb:Option Int}:(ZE st x tb).turn=st.turn/\(ZE st x tb).sides=st.sides/\(ZE st x tb).gone=st.gone:=by
 cases tb <;> exact ⟨rfl,rfl,rfl⟩
theorem wG {r:Row} {st:PSt} {k:Nat} {ch:Option Nat × Option Nat × Nat}:(movedF r st k ch).turn=st.turn/\(movedF r st k ch).sides=st.sides/\(movedF r st k ch).gone=st.gone:=by
 obtain ⟨a1,a2,a3⟩:=Wg (st:=st) (k:=k) (fb:=qK r ch);obtain ⟨b1,b2,b3⟩:=WL (st:=(z6 st k (qK r ch)).2) (x:=(z6 st k (qK r ch)).1) (tb:=vN r ch);exact ⟨b1.trans a1,b2.trans a2,b3.trans a3⟩
theorem ZY {α:Type} {xs:List α} {k j:Nat} {x d:α} (h:k≠j):(xs.set k x).getD j d=xs.getD j d:=by
 rw [ap,ap,bg h]
theorem zck (rs:List Row) (st:PSt) (k:Nat):(jm rs st k).1.turn=st.turn/\∀ j,k < j->(jm rs st k).1.sides.getD j 0=st.sides.getD j 0/\(jm rs st k).1.gone.getD j []=st.gone.getD j []:=by
 unfold jm;cases rs[k]? with
 | none=>exact ⟨rfl,λ _ _=>⟨rfl,rfl⟩⟩
 | some r =>
  simp only;cases qw r (qz rs st.cells r) (jt st.cells r) st.turn (st.sides.getD k 0).toNat with
  | none=>exact ⟨rfl,λ _ _=>⟨rfl,rfl⟩⟩
  | some ch =>
   obtain ⟨c1,c2,c3⟩:=wG (r:=r) (st:=st) (k:=k) (ch:=ch);refine ⟨c1,λ j hj=>⟨?_,?_⟩⟩
   ·show ((movedF r st k ch).sides.set k _).getD j 0=_
    rw [ZY (by omega),c2]
   ·show ((movedF r st k ch).gone.set k _).getD j []=_
    rw [ZY (by omega),c3]
theorem Z0 (rs:List Row) (st:PSt):∀ i,(zx rs st i).1.turn=st.turn/\∀ j,i<=j->(zx rs st i).1.sides.getD j 0=st.sides.getD j 0/\(zx rs st i).1.gone.getD j []=st.gone.getD j []
 | 0=>⟨rfl,λ _ _=>⟨rfl,rfl⟩⟩
 | i + 1=>by
  obtain ⟨h1,h2⟩:=Z0 rs st i;obtain ⟨g1,g2⟩:=zck rs (zx rs st i).1 i;refine ⟨g1.trans h1,λ j hj=>?_⟩;obtain ⟨a1,a2⟩:=h2 j (by omega);obtain ⟨b1,b2⟩:=g2 j (by omega);exact ⟨b1.trans a1,b2.trans a2⟩
def shM (ms:List Int) (m:Move):Move:={ m with ware:=sh ms m.ware }
section
variable {bs:List (Int × Int)} {rs:List Row} {ms:List Int}
theorem sh_none {x:zE}:sh ms x=none ↔ x=none:=by cases x <;> simp [sh]
theorem zdx (c:List zE):wM (c.map (sh ms))=sh ms (wM c):=by
 unfold wM;rw [bz,bz,List.getLast?_map];cases c.getLast? <;> rfl
theorem zfO (c:List zE):zey (c.map (sh ms))=sh ms (zey c):=by cases c <;> rfl
theorem zaV (c:List zE) (p:Nat):(c.map (sh ms)).getD p none=sh ms (c.getD p none):=by
 rw [ap,ap,ak];cases c[p]? <;> rfl
theorem zaW (cs:List (List zE)) (b:Nat):(shC ms cs).getD b []=(cs.getD b []).map (sh ms):=by
 rw [ap,ap,ak];cases cs[b]? <;> rfl
theorem Zg (cs:List (List zE)) (b:Int):zM (shC ms cs) b=(zM cs b).map (sh ms):=zaW cs _
theorem zc7 {n m:Int} {l:Nat} (h:(l:Int) ∣ m):(n + m) % (l:Int)=n % (l:Int):=by
 obtain ⟨q,rfl⟩:=h;exact Int.add_mul_emod_self_left ..
theorem zfy (k:StK rs rs.length ms) {y:Int × Int} (w:qD rs (some y)):kdW rs (y.1,y.2 + ms.getD y.1.toNat 0)=kdW rs y:=by
 refine oE2 (w y.1 y.2 rfl) λ j r z1_=>oA4 z1_ λ e hr hs _=>?_;have hj:=(aa.mp hr).1;obtain ⟨m,hm⟩:∃ m,ms[j]?=some m:=⟨_,ad (by rw [k.1];exact hj)⟩;unfold kdW ZI;simp only;rw [e,aO,ap (l:=ms),hm,hr];show List.getD _ ((y.2 + m) % _).toNat 0=_
 rw [show ((Option.map Row.kinds (some r)).getD []=r.kinds) from rfl,zc7 (k.2 j r m hr hs hm).1]
theorem zeN (k:StK rs rs.length ms) {x:zE} (w:qD rs x):J5 rs (sh ms x)=J5 rs x:=by
 cases x with
 | none=>rfl
 | some y=>exact bS some (zfy k w)
theorem zgc (k:StK rs rs.length ms) {c:List zE} (w:∀ x∈c,qD rs x):ja rs (c.map (sh ms))=ja rs c:=by
 unfold ja;rw [d9];exact b7 λ x hx=>zeN k (w x hx)
theorem zco {cs:List (List zE)} (w:ql bs rs cs) (b:Int):qD rs (wM (zM cs b)):=by
 cases e:cs[b.toNat]? with
 | none =>
  unfold zM;rw [ap,e];exact wR
 | some c =>
  have hb:=ad (l:=bs) (i:=b.toNat) (by rw [<- w.1];exact (aa.mp e).1);have ec:zM cs b=c:=by unfold zM;rw [ap,e];rfl
  rw [ec];unfold wM;rw [bz];cases z:c.getLast? with
  | none=>exact wR
  | some x=>exact (w.2 _ _ c hb e).2 x (List.mem_of_getLast? z)
theorem zdq (k:StK rs rs.length ms) {cs:List (List zE)} (w:ql bs rs cs) (r:Row):qz rs (shC ms cs) r=qz rs cs r:=by
 unfold qz;refine b7 λ b _=>?_;rw [Zg,zdx,zeN k (zco w b)]
theorem zet (cs:List (List zE)) (r:Row):jt (shC ms cs) r=jt cs r:=by
 unfold jt;refine b7 λ b _=>?_;rw [Zg,zfO];exact decide_eq_decide.mpr sh_none
theorem zcb {r:Row} {hs:List (Option Int)} {fs:List Bool} {t t':Int} {side:Nat} (h:(r.wd=.source\/r.wd=.drain)->0 < r.pace->t' % r.pace=t % r.pace) (ok:r.ok):qw r hs fs t' side=qw r hs fs t side:=by
 unfold qw;cases e:r.wd
 ·rw [h (.inl e) (by unfold Row.ok at ok;rw [e] at ok;have:=ok.2.2.1;omega)]
 ·by_cases z:r.pace=0
  ·simp [z]
  ·rw [h (.inr e) (by unfold Row.ok at ok;rw [e] at ok;have:=ok.2.2.1;omega)]
 all_goals rfl
theorem Xs (cs:List (List zE)) (b:Nat) (c:List zE):(shC ms cs).set b (c.map (sh ms))=shC ms (cs.set b c):=by rw [shC,shC,du]
theorem Qj (c:List zE) (p:Nat) (x:zE):(c.map (sh ms)).set p (sh ms x)=(c.set p x).map (sh ms):=List.map_set.symm
theorem zd0 {gs:List (List Int)} {k:Nat} (g:List Int) (hk:k < ms.length):(shG gs ms).set k (g.map (· + ms.getD k 0))=shG (gs.set k g) ms:=by
 refine dH λ i=>?_;have em:ms[k]?=some (ms.getD k 0):=by rw [ap,ad hk];rfl
 by_cases e:k=i
 ·subst e;by_cases hg:k < gs.length
  ·rw [ba (by rw [cO];omega),bn,ba hg,em]
  ·rw [br (by rw [bT,cO];omega),br (by rw [cO,bT];omega)]
 ·rw [bg e,bn,bn,bg e]
theorem VY {gs:List (List Int)} {k:Nat} (hk:k < gs.length) (hm:k < ms.length):(shG gs ms).getD k []=(gs.getD k []).map (· + ms.getD k 0):=by
 rw [ap,bn,ad hk,ad hm,ap,ap,ad hk,ad hm]
 rfl
theorem zex (g:List Int) (m:Int) (p:Nat):Jo (g.map (· + m)) p=(Jo g p).map (· + m):=by
 unfold Jo;by_cases h:p < g.length
 ·rw [du,ap,ap,ak,ad h];show List.set _ p (g[p] + m + 1)=List.set _ p (g[p] + 1 + m)
  rw [show g[p] + m + 1=g[p] + 1 + m by omega]
 ·rw [dB (by rw [ae];omega),dB (by omega)]
theorem zfo (c:List zE) (p:Nat):xi (c.map (sh ms)) p=(xi c p).map (sh ms):=by
 unfold xi;rw [zaV,zaV];by_cases h:c.getD (p + 1) none=none
 ·rw [aA (sh_none.mpr h),aA h,Qj];exact Qj _ p none
 ·rw [aw (λ z=>h (sh_none.mp z)),aw h]
theorem zc5 (c:List zE):∀ k,vZ (c.map (sh ms)) k=(vZ c k).map (sh ms)
 | 0=>rfl
 | k + 1=>by rw [vZ,vZ,zc5 c k,ae,zfo]
theorem zeL {t t':Int} (ht:∀ b∈bs,t' % b.2=t % b.2) (cs:List (List zE)):∀ i,qy bs t' (shC ms cs) i=shC ms (qy bs t cs i)
 | 0=>rfl
 | i + 1=>by
  have e:t' % (bs.getD i (0,1)).2=t % (bs.getD i (0,1)).2:=by
   rw [ap];cases h:bs[i]? with
   | none=>show t' % 1=t % 1;omega
   | some b=>exact ht b (ah h)
  rw [qy,qy,zeL ht cs i,e]
  split
  ·rw [zaW];unfold zc6;rw [ae,zc5,Xs]
  ·rfl
variable {s s':PSt}
theorem Shf.mod (h:Shf bs rs ms s s') (bo:∀ b∈bs,zy b.1 b.2) (ro:∀ r∈rs,r.ok) {n:Int} (hn:xt bs rs n):s'.turn % n=s.turn % n:=da.mpr (cT (dW (((vJ bo ro).2 _).mp (Int.dvd_refl _) n hn) h.tn))
theorem zfQ (h:Shf bs rs ms s s') (w:stWf bs rs s) (bo:∀ b∈bs,zy b.1 b.2) (ro:∀ r∈rs,r.ok) (k:Nat):Shf bs rs ms (jm rs s k).1 (jm rs s' k).1/\(jm rs s' k).2=(jm rs s k).2.map (shM ms):=by
 unfold jm;cases hr:rs[k]? with
 | none=>exact ⟨h,rfl⟩
 | some r =>
  have ok:=ro r (ah hr);have hk:=(aa.mp hr).1;have hkm:k < ms.length:=by rw [h.kd.1];exact hk
  simp only;rw [h.ce,zdq h.kd w.co,zet,h.sd,zcb (t:=s.turn) (λ z p=>h.mod bo ro (.inr ⟨r,ah hr,z,rfl,p⟩)) ok];cases hc:qw r (qz rs s.cells r) (jt s.cells r) s.turn (s.sides.getD k 0).toNat with
  | none=>exact ⟨h,rfl⟩
  | some ch =>
   have sd:=w.so.2 k r _ hr (qX (d:=0) (by rw [w.so.1];exact hk));have sd':j5 r ((s.sides.getD k 0).toNat:Int):=by rw [cH sd.1];exact sd
   have tk:(z6 s' k (qK r ch)).1=sh ms (z6 s k (qK r ch)).1/\(z6 s' k (qK r ch)).2.cells=shC ms (z6 s k (qK r ch)).2.cells:=by
    cases qK r ch with
    | none =>
     refine ⟨?_,h.ce⟩;show some ((k:Int),(s'.gone.getD k []).headD 0)=sh ms (some ((k:Int),(s.gone.getD k []).headD 0))
     have hg:k < s.gone.length:=by rw [w.go.1];exact hk
     rw [h.gn,VY hg hkm];have cp:=qS ok;have gl:=(w.go.2 k r _ hr (qX (xs:=s.gone) (d:=[]) hg)).1;cases e:s.gone.getD k [] with
     | nil=>rw [e] at gl;simp at gl;omega
     | cons x xs=>simp [sh]
    | some b =>
     refine ⟨?_,?_⟩
     ·show wM (zM s'.cells b)=sh ms (wM (zM s.cells b))
      rw [h.ce,Zg,zdx]
     ·show s'.cells.set b.toNat (wy (zM s'.cells b))=shC ms (s.cells.set b.toNat (wy (zM s.cells b)))
      rw [h.ce,Zg,<- Xs]
      congr 1
      unfold wy;rw [ae];exact Qj _ _ none
   have mv:(movedF r s' k ch).cells=shC ms (movedF r s k ch).cells:=by
    unfold movedF;cases vN r ch with
    | none=>exact tk.2
    | some b =>
     show (z6 s' k (qK r ch)).2.cells.set b.toNat ((zM (z6 s' k (qK r ch)).2.cells b).set 0 (z6 s' k (qK r ch)).1)=shC ms ((z6 s k (qK r ch)).2.cells.set b.toNat ((zM (z6 s k (qK r ch)).2.cells b).set 0 (z6 s k (qK r ch)).1))
     rw [tk.1,tk.2,Zg,Qj,Xs]
   obtain ⟨a1,a2,a3⟩:=wG (r:=r) (st:=s) (k:=k) (ch:=ch);obtain ⟨b1,b2,b3⟩:=wG (r:=r) (st:=s') (k:=k) (ch:=ch);refine ⟨⟨?_,mv,?_,?_,h.kd⟩,?_⟩
   ·show beatL bs rs ∣ (movedF r s' k ch).turn - (movedF r s k ch).turn
    rw [a1,b1];exact h.tn
   ·show (movedF r s' k ch).sides.set k _=(movedF r s k ch).sides.set k _
    rw [a2,b2,h.sd]
   ·show (movedF r s' k ch).gone.set k (Jo ((movedF r s' k ch).gone.getD k []) (xj r ch))=shG ((movedF r s k ch).gone.set k (Jo ((movedF r s k ch).gone.getD k []) (xj r ch))) ms
    rw [a3,b3,h.gn,VY (by rw [w.go.1];exact hk) hkm,zex,zd0 _ hkm]
   ·show some (⟨k,(z6 s' k (qK r ch)).1,_,_⟩:Move)=some (shM ms ⟨k,(z6 s k (qK r ch)).1,_,_⟩)
    rw [tk.1]
    rfl
theorem Wa (h:Shf bs rs ms s s') (w:stWf bs rs s) (wok:qg bs rs) (bo:∀ b∈bs,zy b.1 b.2) (ro:∀ r∈rs,r.ok):∀ m,Shf bs rs ms (zx rs s m).1 (zx rs s' m).1/\(zx rs s' m).2=(zx rs s m).2.map (shM ms)
 | 0=>⟨h,rfl⟩
 | m + 1=>by
  obtain ⟨i1,i2⟩:=Wa h w wok bo ro m;obtain ⟨j1,j2⟩:=zfQ i1 (jZ w wok bo ro m) bo ro m;refine ⟨j1,?_⟩;show (zx rs s' m).2 ++ (jm rs (zx rs s' m).1 m).2.toList=((zx rs s m).2 ++ (jm rs (zx rs s m).1 m).2.toList).map _
  rw [i2,j2,aV];cases (jm rs (zx rs s m).1 m).2 <;> rfl
theorem zec (h:Shf bs rs ms s s') (w:stWf bs rs s) (wok:qg bs rs) (bo:∀ b∈bs,zy b.1 b.2) (ro:∀ r∈rs,r.ok):Shf bs rs ms (passF bs rs s).1 (passF bs rs s').1/\(passF bs rs s').2=(passF bs rs s).2.map (shM ms):=by
 obtain ⟨i1,i2⟩:=Wa h w wok bo ro rs.length;refine ⟨⟨?_,?_,i1.sd,i1.gn,i1.kd⟩,i2⟩
 ·show beatL bs rs ∣ (zx rs s' rs.length).1.turn + 1 - ((zx rs s rs.length).1.turn + 1)
  rw [show (zx rs s' rs.length).1.turn + 1 - ((zx rs s rs.length).1.turn + 1)=(zx rs s' rs.length).1.turn - (zx rs s rs.length).1.turn by omega];exact i1.tn
 ·show qy bs _ (zx rs s' rs.length).1.cells bs.length=shC ms (qy bs _ (zx rs s rs.length).1.cells bs.length)
  rw [i1.ce];exact zeL (λ b hb=>i1.mod bo ro (.inl ⟨b,hb,rfl⟩)) _ _
theorem Wt (h:Shf bs rs ms s s') (w:stWf bs rs s) (bo:∀ b∈bs,zy b.1 b.2) (ro:∀ r∈rs,r.ok):shapeF bs rs s=shapeF bs rs s':=by
 unfold shapeF;have e1:s.turn % beatL bs rs=s'.turn % beatL bs rs:=(da.mpr (cT h.tn)).symm;have e2:s'.cells.map (ja rs)=s.cells.map (ja rs):=by
  rw [h.ce,d9];refine b7 λ c hc=>?_;obtain ⟨i,hi⟩:=bD hc;have hb:=ad (l:=bs) (i:=i) (by rw [<- w.co.1];exact (aa.mp hi).1);exact zgc h.kd (w.co.2 i _ c hb hi).2
 rw [e1,e2,h.sd]
 congr 3
 refine b7 λ q hq=>?_;refine oE2 (xG hq) λ j r z1_=>oA3 z1_ λ z2_ hr hs=>?_;subst z2_;have hj:=(aa.mp hr).1;have hg:j < s.gone.length:=by rw [w.go.1];exact hj
 obtain ⟨m,hm⟩:∃ m,ms[j]?=some m:=⟨_,ad (by rw [h.kd.1];exact hj)⟩;have hgl:=(w.go.2 j r _ hr (qX (xs:=s.gone) (d:=[]) hg)).1;have cp:=qS (ro r (ah hr));unfold xw;rw [aO,hr];simp only;rw [h.gn,VY hg (by rw [h.kd.1];exact hj),ap (l:=ms),hm];cases e:s.gone.getD j [] with
 | nil=>rw [e] at hgl;simp at hgl;omega
 | cons x xs=>exact bS some (zc7 (h.kd.2 j r m hr hs hm).1).symm
end
theorem wg {H:Hp} {n:Nat} {x:V} (h:jT x=true) (e:eqV x x=true):DE K H n x x true:=e ▸ .flat h h
theorem za6 {H:Hp} {t1 t2:Addr} {x:Int × Int} (h1:H t1=some (.tup [.int x.1,.int x.2])) (h2:H t2=some (.tup [.int x.1,.int x.2])):DE K H 1 (.ref t1) (.ref t2) true:=by
 by_cases e:t1=t2
 ·rw [e];exact .same
 ·refine DE.tuples (n:=0) (e:=λ _=>true) e (SqT.of h1) (SqT.of h2) λ j u v hu hv=>?_;rw [hu] at hv;cases hv;have:u∈[V.int x.1,V.int x.2]:=ah hu;simp only [ay,be,bR] at this;rcases this with rfl|rfl
  ·exact wg rfl (by simp [eqV])
  ·exact wg rfl (by simp [eqV])
theorem zdA {H:Hp} {p q:Addr->Prop} {vs ws:List V} {c:List zE} (h1:Reps H p vs (c.map zQ)) (h2:Reps H q ws (c.map zQ)) (j:Nat) (x y:V) (e1:vs[j]?=some x) (e2:ws[j]?=some y):DE K H 1 x y true:=by
 obtain ⟨d,hd,r1⟩:=h1.at e1;have r2:=h2.g j y d e2 hd;rw [ak,aq] at hd;obtain ⟨wr,_,rfl⟩:=hd;cases wr with
 | none =>
  have r1:Rep H p x .non:=r1;have r2:Rep H q y .non:=r2;cases r1;cases r2;exact wg rfl rfl
 | some z =>
  obtain ⟨t1,rfl,h1⟩:=jH (b:=z) r1;obtain ⟨t2,rfl,h2⟩:=jH (b:=z) r2;exact za6 h1 h2
def zfY (a:Ad):Sp:=λ vs H Q _=>∃ (v:V) (S:Addr) (ms:List Int) (rs:List Row) (wr:zE) (p:Addr->Prop),vs=[v,.ref S]/\H S=some (.lst (iv ms))/\ms.length=rs.length/\Rep H p v (zQ wr)/\qD rs wr/\∀ v' H',Same H H'->Rep H' (zR H') v' (zQ (sh ms wr))->Q v' H'
theorem zfE {a:Ad} {vs:List V} {H:Hp} {Q:VK} {E:XK} (v:V) (S:Addr) (ms:List Int) (rs:List Row) (wr:zE) (p:Addr->Prop) (q0:vs=[v,.ref S]) (q1:H S=some (.lst (iv ms))) (q2:ms.length=rs.length) (q3:Rep H p v (zQ wr)) (q4:qD rs wr) (q5:∀ v' H',Same H H'->Rep H' (zR H') v' (zQ (sh ms wr))->Q v' H'):zfY a vs H Q E:=⟨v,S,ms,rs,wr,p,q0,q1,q2,q3,q4,q5⟩
theorem zdG (T:Txt K mg a):Cal P w K mg base "_law_on" 1 ["_law_ware","_law_steps"] [] (zfY a):=T.h_L_on.cal λ F=>by
 refine F.okx zd1 ?_ ?_
 ·walk_at "i"
 walk_at "j";refine oE6 h λ v S ms rs wr p z1_=>oA6 z1_ λ z2_ hS lm rv wk k=>?_;clear h;subst z2_;refine ⟨_,(zi (zA (zm je (pq 0) zD (zr _))  (zc (zk zD))  zl)  (zc (zk (jx (za (zw (pq 0) zf) (za (zq zL (zw (pq 0) zf) (zw (pq 1) (zw (pq 0) zf))) zb)))))),?_⟩;cases wr with
 | none =>
  have rv:Rep H p v .non:=rv;cases rv;walk_at "go";exact k _ _ (Same.refl _) .non
 | some x =>
  refine oE2 (wk x.1 x.2 rfl) λ j r z1_=>oA3 z1_ λ ej hr' _=>?_;obtain ⟨t,rfl,ht⟩:=jH (b:=x) rv;obtain ⟨m,hm⟩:∃ m,ms[j]?=some m:=⟨_,ad (by rw [lm];exact (aa.mp hr').1)⟩;walk_at "go";rw [ej] at ht;refine rd_ixT ht at0 (rd_ixT ht (show atI _ 1=some (.int x.2) from rfl) (rd_ixT ht at0 (zu (SqL.of hS) (zG (jf hm)) ?_)));walk_at "go";intro t2 ht2;have e:sh ms (some x)=some ((j:Int),x.2 + m):=by
   show some (x.1,x.2 + ms.getD x.1.toNat 0)=_
   rw [ej,aO,ap,hm]
   rfl
  refine k _ _ (ze ht2) ?_;rw [e];exact Reps.mkT (vs:=[.int j,.int (x.2 + m)]) (.cons .int (.cons .int .nil)) ⟨_,upd_same⟩ upd_same
theorem zgk {H:Hp} {p q:Addr->Prop} {x:zE} {u v:V} (h1:Rep H p u (zQ x)) (h2:Rep H q v (zQ x)):DE K H 1 u v true:=by
 cases x with
 | none =>
  have h1:Rep H p u .non:=h1;have h2:Rep H q v .non:=h2;cases h1;cases h2;exact wg rfl rfl
 | some x =>
  obtain ⟨t1,rfl,g1⟩:=jH (b:=x) h1;obtain ⟨t2,rfl,g2⟩:=jH (b:=x) h2;exact za6 g1 g2
theorem zaT (o:Option Int):jT (hdV o)=true:=by cases o <;> rfl
theorem zeP (o:Option Int):eqV (hdV o) (hdV o)=true:=by cases o <;> simp [hdV,eqV]
theorem Q0 {H:Hp} {p:Addr->Prop} {v:V} {m:Move} (h:Rep H p v (wn m)):∃ t u,v=.ref t/\H t=some (.tup [.int m.k,u,hdV m.fr,hdV m.to])/\Rep H p u (zQ m.ware):=by
 refine oE2 (Rep.tup' h) λ t us z1_=>oA4 z1_ λ z2_ _ ht rr=>?_;subst z2_;have g:=rr.g;refine oE2 (Qr rr.len) λ x0 _ z1_=>oA2 z1_ λ z2_ h1=>?_;subst z2_;refine oE2 (Qr h1) λ x1 _ z1_=>oA2 z1_ λ z2_ h2=>?_;subst z2_;obtain ⟨x2,x3,rfl⟩:=two_of h2;have a0:=g 0 x0 _ rfl rfl;have a1:=g 1 x1 _ rfl rfl;have a2:=g 2 x2 _ rfl rfl;have a3:=g 3 x3 _ rfl rfl;have opt:∀ (u:V) (o:Option Int),Rep H p u (zew o)->u=hdV o:=λ u o r=>by
  cases o
  ·cases r;rfl
  ·cases r;rfl
 cases a0;rw [opt _ _ a2,opt _ _ a3] at ht;exact iE2 t x1 (iA3 rfl ht a1)
def zdU (a:Ad):Sp:=λ vs H Q _=>∃ (l1 l2 S:Addr) (us1 us2:List V) (ms:List Int) (rs:List Row) (mv:List Move),vs=[.ref l1,.ref l2,.ref S]/\H l1=some (.lst us1)/\H l2=some (.lst us2)/\H S=some (.lst (iv ms))/\ms.length=rs.length/\Reps H (zR H) us1 (mv.map wn)/\Reps H (zR H) us2 ((mv.map (shM ms)).map wn)/\(∀ m∈mv,qD rs m.ware)/\∀ H',Same H H'->Q (.bl true) H'
theorem zcd (T:Txt K mg a):Cal P w K mg base "_law_moves" 2 ["_law_one","_law_other","_law_steps"] [] (zdU a):=T.h_L_moves.cal λ F=>by
 refine F.okx VR ?_ ?_
 ·walk_at "i"
 walk_at "j";refine oE8 h λ l1 l2 S us1 us2 ms rs mv z1_=>oA9 z1_ λ z2_ g1 g2 gS lm r1 r2 wk k=>?_;clear h;subst z2_;have e1:us1.length=mv.length:=by rw [r1.len,ae]
 have e2:us2.length=mv.length:=by rw [r2.len,ae,ae]
 walk_at "T";refine ⟨_,(zi (zA (zm (xF hr.units1) (zP zY zX (za (pq 0) zb)) (zP zY zX (za (pq 1) zb)) (zr _))  (zc (zk w9))  zl)  (zi (qh qF rfl (QQ (za (pq 0) (za (pq 1) zb))) (jr (n:=2) rfl (zF (zW 3 VR.nd) (zF (zW 4 VR.nd) qN)))  (zc (zA (zm (xF hr.units1) (jx (za (zw (pq 3) zf) (za (zt ⟨rfl,rfl,rfl⟩ hr (za (zw (pq 3) zf) (za (pq 2) zb))) (za (zw (pq 3) zf) (za (zw (pq 3) zf) zb))))) (pq 4) (zr _))  (zc (zk w9))  zl)))  (zc (zk w9)))),?_⟩;walk_at "go";refine ⟨_,iA3 (.inl ⟨_,SqL.of g1,rfl⟩) m_len ⟨_,⟨.inl ⟨_,SqL.of g2,rfl⟩,zI (λ z=>absurd (by omega) z) λ _=>?_⟩⟩⟩;walk_at "for";walk_at "go";refine iE6 true true l1 l2 _ _ (iA4 rfl (SqL.of g1) (SqL.of g2) ?_);refine Vh (K:=K) (xs:=us1) (ys:=us2) (λ i σ H'=>∃ (v3 v4:Option V),σ=[some (.ref l1),some (.ref l2),some (.ref S),v3,v4]/\Same H H') (iE2 _ _ ⟨rfl,Same.refl _⟩) (λ i σ H' _ h=>by obtain ⟨_,_,_,s⟩:=h;exact ⟨SqL.of (s _ _ g1),SqL.of (s _ _ g2)⟩) ?_ ?_
 ·intro i x z t σ H2 hi hj ht zz_;refine oE2 zz_ λ v3 v4 z1_=>oA2 z1_ λ z2_ s2=>?_;clear zz_;subst z2_;obtain ⟨d,hd,rx⟩:=r1.at hi;rw [ak,aq] at hd;obtain ⟨m,hm,rfl⟩:=hd;obtain ⟨d,hd,rz⟩:=r2.at hj;rw [ak,ak,hm] at hd;cases hd;refine oE2 (Q0 rx) λ t1 u1 z1_=>oA3 z1_ λ z2_ h1 q1=>?_;subst z2_;refine oE2 (Q0 rz) λ t2 u2 z1_=>oA3 z1_ λ z2_ h2 q2=>?_;subst z2_;have s3:=s2.trans (ze (o:=.tup [.ref t1,.ref t2]) ht);refine un2 upd_same ?_;generalize upd H2 t (.tup [.ref t1,.ref t2])=H3 at s3 ⊢;have h13:=s3 _ _ h1;walk_at "go";refine rd_ixT h13 at0 (uc (zdG T).mono (rd_ixT h13 (show atI _ 1=some u1 from rfl) (iE6 u1 S ms rs m.ware _ (iA6 rfl (s3 _ _ gS) lm (qM q1 s3) (wk m (ah hm)) (λ v' H4 s4 rv=>?_)))));have s34:=s3.trans s4;have h14:=s34 _ _ h1;refine rd_ixT h14 (show atI _ 2=some (hdV m.fr) from rfl) (rd_ixT h14 (show atI _ 3=some (hdV m.to) from rfl) λ t3 ht3=>?_);have s5:=ze (o:=.tup [.int m.k,v',hdV m.fr,hdV m.to]) ht3;have h35:upd H4 t3 (.tup [.int m.k,v',hdV m.fr,hdV m.to]) t3=some (.tup [.int m.k,v',hdV m.fr,hdV m.to]):=upd_same;generalize upd H4 t3 (.tup [.int m.k,v',hdV m.fr,hdV m.to])=H5 at s5 h35 ⊢;have rv5:=qM rv s5;have q25:=qM q2 (s34.trans s5);have h25:=(s34.trans s5) _ _ h2;refine .inr (.inr (iE6 t3 t2 _ _ 1 (λ _=>true) (iA5 rfl rfl (by decide) (λ q x y hx hy=>?_) (.inr ⟨SqT.of h35,SqT.of h25,?_⟩))))
  ·match q,hx,hy with
   | 0,hx,hy=>cases hx;cases hy;exact wg rfl (by simp [eqV])
   | 1,hx,hy=>cases hx;cases hy;exact zgk rv5 q25
   | 2,hx,hy=>cases hx;cases hy;exact wg (zaT _) (zeP _)
   | 3,hx,hy=>cases hx;cases hy;exact wg (zaT _) (zeP _)
   | _ + 4,hx,_=>cases hx
  ·exact iE2 _ _ ⟨rfl,s34.trans s5⟩
 ·intro σ H2 zz_;refine oE2 zz_ λ v3 v4 z1_=>oA2 z1_ λ z2_ s2=>?_;clear zz_;subst z2_;walk_at "go";exact k H2 s2
def xJ (old new:List Int):List Int:=List.zipWith (λ e l=>l - e) old new
def xp (gs0 gs1:List (List Int)):List (List Int):=List.zipWith xJ gs0 gs1
theorem zb5 {gs0 gs1:List (List Int)} {i:Nat} {g0 g1:List Int} (h0:gs0[i]?=some g0) (h1:gs1[i]?=some g1):xp (gs0.take (i + 1)) (gs1.take (i + 1))=xp (gs0.take i) (gs1.take i) ++ [xJ g0 g1]:=by
 unfold xp;rw [aF,aF,h0,h1];have l0:=(aa.mp h0).1;have l1:=(aa.mp h1).1;rw [ey (by rw [aI,aI];omega)]
 rfl
def Wm (a:Ad):Sp:=λ vs H Q _=>∃ (y0 y1:Addr) (n0 n1:SN) (s0 s1:PSt),vs=[.ref y0,.ref y1]/\StO a H y0 n0 s0/\StO a H y1 n1 s1/\s0.gone.length=s1.gone.length/\s0.gone.length<=24/\(∀ (i:Nat) g0 g1,s0.gone[i]?=some g0->s1.gone[i]?=some g1->g0.length=g1.length/\g0.length<=4) /\
 ∀ l as H',Same H H'->NL H' (zR H') l as (z7 (xp s0.gone s1.gone))->(∀ b∈l :: as,H b=none)->Q (.ref l) H'
theorem Jb {a:Ad} {vs:List V} {H:Hp} {Q:VK} {E:XK} (y0 y1:Addr) (n0 n1:SN) (s0 s1:PSt) (q0:vs=[.ref y0,.ref y1]) (q1:StO a H y0 n0 s0) (q2:StO a H y1 n1 s1) (q3:s0.gone.length=s1.gone.length) (q4:s0.gone.length<=24) (q5:(∀ (i:Nat) g0 g1,s0.gone[i]?=some g0->s1.gone[i]?=some g1->g0.length=g1.length/\g0.length<=4)) (q6:∀ l as H',Same H H'->NL H' (zR H') l as (z7 (xp s0.gone s1.gone))->(∀ b∈l :: as,H b=none)->Q (.ref l) H'):Wm a vs H Q E:=⟨y0,y1,n0,n1,s0,s1,q0,q1,q2,q3,q4,q5,q6⟩
theorem Xe (T:Txt K mg a):Cal P w K mg base "_law_grown" 1 ["_law_before","_law_after"] [] (Wm a):=T.h_L_grown.cal λ F=>by
 refine F.okx VS ?_ ?_
 ·walk_at "i"
 walk_at "j";refine oE6 h λ y0 y1 n0 n1 s0 s1 z1_=>oA7 z1_ λ z2_ so0 so1 le l24 lg k=>?_;clear h;subst z2_;have la0:n0.ags.length=s0.gone.length:=by rw [so0.hg.len,z7,ae]
 have la1:n1.ags.length=s0.gone.length:=by rw [so1.hg.len,z7,ae,le]
 walk_at "T";refine ⟨_,(zi (zp 2 VS.nd (zO zb))  (zi (qh qF rfl (QQ (za (zj (pq 0) rfl) (za (zj (pq 1) rfl) zb))) (jr (n:=2) rfl (zF (zW 3 VS.nd) (zF (zW 4 VS.nd) qN)))  (zc (zo (qp aj ao am zz (pq 2) (za (jG (vars:=["_law_earlier","_law_later"]) (caps:=[]) (N:=["_law_earlier","_law_later"]) (ON:=["_law_before","_law_after","_law_grown_here","_law_one","_law_other"]) (osc:=zd wS) rfl rfl (by first|decide +kernel|kernel_rfl) rfl rfl (QQ (za (pq 3) (za (pq 4) zb))) (λ s H fp pins=>(jr (n:=2) rfl (zF (zW 0 (show (["_law_earlier","_law_later"]:List Str).Nodup from by decide +kernel)) (zF (zW 1 (show (["_law_earlier","_law_later"]:List Str).Nodup from by decide +kernel)) qN)))) (λ s H fp pins=>qc) (λ s H fp pins=>(zq XH (pq 1) (pq 0)))) zb)))))  (zc (zk (pq 2))))),?_⟩;walk_at "go";intro l hl;have sl:=ze (o:=.lst []) hl;have nl0:NL (upd H l (.lst [])) (zR (upd H l (.lst []))) l [] (z7 (xp (s0.gone.take 0) (s1.gone.take 0))):=V8 upd_same;generalize upd H l (.lst [])=H1 at sl nl0 ⊢;have so10:=so0.same sl;have so11:=so1.same sl;walk_at "for";walk_at "go";refine ra so10.hy T.C_State T.N_State_gone rfl (ra so11.hy T.C_State T.N_State_gone rfl (iE6 true true n0.lg n1.lg _ _ (iA4 rfl (SqL.of so10.hg.out) (SqL.of so11.hg.out) ?_)));refine Vh (K:=K) (xs:=n0.ags.map V.ref) (ys:=n1.ags.map V.ref) (λ i σ H'=>∃ (v3 v4:Option V) (as:List Addr),σ=[some (.ref y0),some (.ref y1),some (.ref l),v3,v4]/\Same H H'/\NL H' (zR H') l as (z7 (xp (s0.gone.take i) (s1.gone.take i)))/\∀ b∈as,H b=none) (iE3 _ _ ([]) (iA4 rfl sl nl0 (by simp))) (λ i σ H' _ h=>by obtain ⟨_,_,_,_,s,_⟩:=h;exact ⟨SqL.of (s _ _ so0.hg.out),SqL.of (s _ _ so1.hg.out)⟩) ?_ ?_
 ·intro i x z t σ H2 hi hj ht zz_;refine oE3 zz_ λ v3 v4 as z1_=>oA4 z1_ λ z2_ s2 nl2 fa=>?_;clear zz_;subst z2_;rw [ak,aq] at hi hj;obtain ⟨b0,hb0,rfl⟩:=hi;obtain ⟨b1,hb1,rfl⟩:=hj;have hil:i < s0.gone.length:=by rw [<- la0];exact (aa.mp hb0).1
  obtain ⟨g0,e0⟩:∃ g,s0.gone[i]?=some g:=⟨_,ad hil⟩;obtain ⟨g1,e1⟩:∃ g,s1.gone[i]?=some g:=⟨_,ad (by rw [<- le];exact hil)⟩;obtain ⟨lg1,lg4⟩:=lg i g0 g1 e0 e1;obtain ⟨c0,q0,h0⟩:=wL so0.hg e0;obtain ⟨c1,q1,h1⟩:=wL so1.hg e1;rw [hb0] at q0;cases q0;rw [hb1] at q1;cases q1;have st:=ze (o:=.tup [.ref b0,.ref b1]) ht;have s3:=s2.trans st;have nl3:=nl2.tup (H':=upd H2 t (.tup [.ref b0,.ref b1])) λ b o _ hb=>st b o hb;refine un2 upd_same ?_;generalize upd H2 t (.tup [.ref b0,.ref b1])=H3 at s3 nl3 ⊢;have las:as.length<=24:=by rw [nl3.len,z7,ae,xp,cO,aI,aI];omega
  walk_at "go";refine ⟨.inl ⟨rfl,_,SqL.of nl3.out⟩,?_⟩;walk_at "lc";walk_at "go";refine iE6 true true b0 b1 _ _ (iA4 rfl (SqL.of (s3 _ _ h0)) (SqL.of (s3 _ _ h1)) (λ _ _ _ _ acc hacc=>?_));refine Vh (K:=K) (xs:=iv g0) (ys:=iv g1) (λ j σ H'=>∃ (v0 v1:Option V),σ=[v0,v1]/\Same H3 H'/\H' acc=some (.lst (iv (xJ (g0.take j) (g1.take j))))) (iE2 _ _ (iA3 rfl (ze hacc) upd_same)) (λ j σ H' _ h=>by obtain ⟨_,_,_,s,_⟩:=h;exact ⟨SqL.of (s _ _ (s3 _ _ h0)),SqL.of (s _ _ (s3 _ _ h1))⟩) ?_ ?_
  ·intro j x z t2 σ H4 hj hj2 ht2 zz_;refine oE2 zz_ λ v0 v1 z1_=>oA3 z1_ λ z2_ s4 ha=>?_;clear zz_;subst z2_;obtain ⟨e,he,rfl⟩:=xH hj;obtain ⟨l',hl',rfl⟩:=xH hj2;have hjl:=(aa.mp he).1;have s5:=s4.trans (ze (o:=.tup [.int e,.int l']) ht2);have ha5:=upd_keep (o:=.tup [.int e,.int l']) ha ht2;refine un2 upd_same ?_;generalize upd H4 t2 (.tup [.int e,.int l'])=H5 at s5 ha5 ⊢;walk_at "go";refine ⟨_,iA3 ha5 (zh (by rw [zn,xJ,cO,aI];omega)) (iE2 _ _ (iA3 rfl (λ b o hb=>by rw [upd_ne (ne_of_none hb hacc)];exact s5 b o hb) ?_))⟩;have lj:=(aa.mp hl').1;rw [upd_same,z8,xJ,xJ,aF,aF,he,hl',ey (by rw [aI,aI];omega)]
   rfl
  intro σ H4 zz_;refine oE2 zz_ λ v0 v1 z1_=>oA3 z1_ λ z2_ s4 ha=>?_;clear zz_;subst z2_;rw [zn,zn,<- lg1,et,aK,show List.take g0.length g1=g1 by rw [lg1];exact aK] at ha;have nl4:=nl3.tup (H':=H4) λ b o _ hb=>s4 b o hb;have nb:acc ∉ as:=λ z=>by
   obtain ⟨vs,h⟩:=nl3.isl (aH _ z);rw [hacc] at h;cases h
  have nG:acc≠l:=λ z=>by rw [z,nl3.out] at hacc;cases hacc
  have ntG:¬ zR H4 l:=λ ⟨xs,hx⟩=>by rw [nl4.out] at hx;cases hx
  refine iE3 l _ _ (iA5 rfl rfl nl4.out (zh (by rw [ae];omega)) ?_);have np:=nl4.push (b:=acc) (vs:=iv (xJ g0 g1)) (ys:=(xJ g0 g1).map D.int) ha nb nG ntG reps_ints;refine iE3 _ _ (as ++ [acc]) (iA4 rfl (λ b o hb=>by rw [upd_ne (ne_of_none hb hl)];exact s4 _ _ (s3 _ _ hb)) ?_ (λ b hb=>?_))
  ·rw [zb5 e0 e1,show z7 (xp (s0.gone.take i) (s1.gone.take i) ++ [xJ g0 g1])=z7 (xp (s0.gone.take i) (s1.gone.take i)) ++ [(xJ g0 g1).map D.int] by simp [z7]];refine np.keep (λ _ _ _ hc=>hc) λ c hc _=>?_;obtain ⟨xs,hx⟩:=hc;exact ⟨xs,by rw [upd_ne (λ z=>by rw [z,nl4.out] at hx;cases hx)];exact hx⟩
  ·rcases az.mp hb with hb|hb
   ·exact fa b hb
   ·rw [ar.mp hb];exact zT s3 hacc
 ·intro σ H2 zz_;refine oE3 zz_ λ v3 v4 as z1_=>oA4 z1_ λ z2_ s2 nl2 fa=>?_;clear zz_;subst z2_;rw [ae,ae,la0,la1,et,aK,show List.take s0.gone.length s1.gone=s1.gone by rw [le];exact aK] at nl2;walk_at "go";refine k l as _ s2 nl2 λ b hb=>?_;rcases ay.mp hb with rfl|hb
  ·exact hl
  ·exact fa b hb
theorem zeq {ms:List Int} {gs gs1:List (List Int)} (h0:gs.length=ms.length) (h1:gs1.length=ms.length):xp (shG gs ms) (shG gs1 ms)=xp gs gs1:=by
 refine dH λ i=>?_;unfold xp;rw [bn,bn,bn,bn];by_cases hi:i < ms.length
 ·rw [ad (l:=gs) (by omega),ad (l:=gs1) (by omega),ad hi];show some (xJ (gs[i].map _) (gs1[i].map _))=some (xJ gs[i] gs1[i])
  unfold xJ;rw [List.zipWith_map]
  congr 2
  funext e l
  show l + ms[i] - (e + ms[i])=l - e
  omega
 ·rw [br (l:=gs) (by omega),br (l:=ms) (by omega)]
theorem zef {X:Cx}:OpR X (compareOp .IsNot) (λ x y H Q=>∃ c d,x=.bl c/\y=.bl d/\Q (.bl (c != d)) H):=by
 intro pins s σ H x y v u Q I rx ry h;refine oE2 h λ c d z1_=>oA3 z1_ λ z2_ z3_ q=>?_;clear h;subst z2_ z3_;cases rx;cases ry;exact PyProof.Rows.isnot_bool (zU I q rfl)
theorem zfl {X:Cx}:OpR X (compareOp .Is) (λ x y H Q=>∃ c d,x=.bl c/\y=.bl d/\Q (.bl (c == d)) H):=by
 intro pins s σ H x y v u Q I rx ry h;refine oE2 h λ c d z1_=>oA3 z1_ λ z2_ z3_ q=>?_;clear h;subst z2_ z3_;cases rx;cases ry;exact PyProof.Rows.is_bool (zU I q rfl)
theorem zdN {bs:List (Int × Int)} {rs:List Row} {st:PSt} {k:Nat} (wf:stWf bs rs st) (wok:qg bs rs) (bo:∀ b∈bs,zy b.1 b.2) (ro:∀ r∈rs,r.ok) {m:Move} (h:(jm rs st k).2=some m):qD rs m.ware:=by
 unfold jm at h;cases hr:rs[k]? with
 | none=>rw [hr] at h;cases h
 | some r =>
  rw [hr] at h;simp only at h;have hk:=(aa.mp hr).1;have ok:=ro r (ah hr);have hsd:=wf.so.2 k r _ hr (qX (d:=0) (by rw [wf.so.1];exact hk));have hsd':j5 r ((st.sides.getD k 0).toNat:Int):=by rw [cH hsd.1];exact hsd
  cases hc:qw r (qz rs st.cells r) (jt st.cells r) st.turn (st.sides.getD k 0).toNat with
  | none=>rw [hc] at h;cases h
  | some ch =>
   rw [hc] at h;cases h;refine oA5 (ZL ok (by simp [qz]) (by simp [jt]) hsd' hc) λ c1 _ _ c4 _=>?_;refine (Qt wf wok bo ro hr (λ b hb=>?_) λ hb=>?_).2
   ·unfold qK at hb;obtain ⟨j,_,hj2⟩:=bP.mp hb;exact Zc wok hr (ah hj2)
   ·cases e:ch.1 with
    | none=>exact c4 e
    | some j =>
     unfold qK at hb;rw [e] at hb;simp at hb;have:=c1 j e;omega
theorem Xk {bs:List (Int × Int)} {rs:List Row} {st:PSt} (wf:stWf bs rs st) (wok:qg bs rs) (bo:∀ b∈bs,zy b.1 b.2) (ro:∀ r∈rs,r.ok):∀ i,∀ m∈(zx rs st i).2,qD rs m.ware
 | 0,m,h=>by cases h
 | i + 1,m,h=>by
  rcases az.mp (show m∈(zx rs st i).2 ++ (jm rs (zx rs st i).1 i).2.toList from h) with h|h
  ·exact Xk wf wok bo ro i m h
  ·exact zdN (jZ wf wok bo ro i) wok bo ro (Option.mem_toList.mp h)
theorem Ve {bs:List (Int × Int)} {rs:List Row} {s s':PSt} (ro:∀ r∈rs,r.ok) (w:stWf bs rs s) (w':stWf bs rs s'):∀ (i:Nat) g0 g1,s.gone[i]?=some g0->s'.gone[i]?=some g1->g0.length=g1.length/\g0.length<=4:=λ i g0 g1 e0 e1=>by
 have hi:=(aa.mp e0).1;have er:=ad (l:=rs) (i:=i) (by rw [<- w.go.1];exact hi);have q0:=(w.go.2 i _ g0 er e0).1;have q1:=(w'.go.2 i _ g1 er e1).1;have cp:=qS (ro _ (ah er));omega
def Wk (K:PySem.W.Frag):Sp:=λ vs H Q _=>∃ (l:Addr) (ns:List Int),vs=[.ref l]/\SqL K H l (ns.map V.int)/\ns.length<=63/\∀ H',Q (.bl true) H'
theorem zfi (T:Txt K mg a) (F:Fun K "law" "law" vP f fd):FnOk P w K mg base (CXr P w) 8 f fd ["_law_script"] (Wk K):=by
 refine F.okx ze5 ?_ ?_
 ·walk_at "i"
 walk_at "j";refine oE2 h λ l ns z1_=>oA4 z1_ λ z2_ hl hn k=>?_;clear h;subst z2_;walk_at "T";refine ⟨_,(zg (zp 1 ze5.nd (zt ⟨rfl,rfl,rfl⟩ hr (za (pq 0) zb)))  (zg (zp 2 ze5.nd (zt ⟨rfl,rfl,rfl⟩ hr (za (pq 1) (za (pq 0) zb))))  (zg (zp 3 ze5.nd (zt ⟨rfl,rfl,rfl⟩ hr (za (pq 1) (za (pq 2) (za (pq 0) (za (zt ⟨rfl,rfl,rfl⟩ hr (za (pq 1) zb)) zb))))))  (zg (vB (i:=4) ze5.nd rfl (Or.inr rfl) (jG (vars:=["_law_a","_law_b"]) (caps:=[]) (N:=["_law_a","_law_b"]) (ON:=["_law_script","_law_work_here","_law_one","_law_other","_law_steps","_law_step","_law_first","_law_second","_law_row","_law_cells_here"]) (osc:=zd vP) rfl rfl (by first|decide +kernel|kernel_rfl) rfl rfl (QQ (za (zj (pq 2) rfl) (za (zj (pq 3) rfl) zb))) (λ s H fp pins=>(jr (n:=2) rfl (zF (zW 0 (show (["_law_a","_law_b"]:List Str).Nodup from by decide +kernel)) (zF (zW 1 (show (["_law_a","_law_b"]:List Str).Nodup from by decide +kernel)) qN)))) (λ s H fp pins=>qc) (λ s H fp pins=>(zq XH (zw (pq 1) zf) (zw (pq 0) zf)))))  (zK (qh qF rfl (x9 (za (zq zL zf (qv (zt ⟨rfl,rfl,rfl⟩ hr (za (pq 0) (za zf zb))))) zb)) (zW 5 ze5.nd)  (zg (zA (zm zef (zt ⟨rfl,rfl,rfl⟩ hr (za (pq 1) (za (pq 2) (za (pq 3) zb)))) w9 (zr _))  (zc (zk w9))  zl)  (zg (zA (jP (qf (zt ⟨rfl,rfl,rfl⟩ hr (za (zt ⟨rfl,rfl,rfl⟩ hr (za (pq 1) (za (pq 2) zb))) (za (zt ⟨rfl,rfl,rfl⟩ hr (za (pq 1) (za (pq 3) zb))) (za (pq 4) zb)))) (λ _=>rfl)))  (zc (zk w9))  zl)  (zg (zp 6 ze5.nd (zt ⟨rfl,rfl,rfl⟩ hr (za (pq 1) (za (pq 2) zb))))  (zg (zp 7 ze5.nd (zt ⟨rfl,rfl,rfl⟩ hr (za (pq 1) (za (pq 3) zb))))  (zg (zA (PW.pt (pw_or (zm (xF hr.units1) (zj (pq 6) rfl) (zq zL (zj (pq 2) rfl) zf) (zr _)) (pw_or (zm (xF hr.units1) (zj (pq 7) rfl) (zq zL (zj (pq 3) rfl) zf) (zr _)) (pw_or1 (zm (xF hr.units1) (zj (pq 6) rfl) (zj (pq 7) rfl) (zr _))))))  (zc (zk w9))  zl)  (zK (qh qF rfl (QQ (za (zj (pq 6) rfl) (za (zj (pq 7) rfl) zb))) (jr (n:=2) rfl (zF (zW 8 ze5.nd) (zF (zW 9 ze5.nd) qN)))  (zc (zA (zm (xF hr.units1) (jG (vars:=["_law_ware"]) (caps:=[4]) (N:=["_law_ware","_law_steps"]) (ON:=["_law_script","_law_work_here","_law_one","_law_other","_law_steps","_law_step","_law_first","_law_second","_law_row","_law_cells_here"]) (osc:=zd vP) rfl rfl (by first|decide +kernel|kernel_rfl) rfl rfl (z9 (pq 8)) (λ s H fp pins=>(zW 0 (show (["_law_ware","_law_steps"]:List Str).Nodup from by decide +kernel))) (λ s H fp pins=>qc) (λ s H fp pins=>(ZG hr (za (pq 0) (za (pq 1) zb))))) (pq 9) (zr _))  (zc (zk w9))  zl)))  (zg (zA (zm (xF hr.units1) (zt ⟨rfl,rfl,rfl⟩ hr (za (pq 2) (za (pq 6) zb))) (zt ⟨rfl,rfl,rfl⟩ hr (za (pq 3) (za (pq 7) zb))) (zr _))  (zc (zk w9))  zl)  (zg (zp 2 ze5.nd (pq 6))  (zc (zp 3 ze5.nd (pq 7))))))))))))  (zc (zk (vX zfl (zt ⟨rfl,rfl,rfl⟩ hr (za (pq 1) (za (pq 2) (za (pq 3) zb)))) w9 (zr _))))))))),?_⟩;walk_at "go";refine uc (zdF T).mono (zan l ns rfl hl (λ vw H1 bs rs s1 hw wok bo ro hS=>?_));have b24:=wok.1.1.2;have r24:=wok.1.2.2;have hl1:=qB s1 hl;clear s1 hl hn;walk_at "go";refine uc (zdH T).mono (zdn vw l ns bs rs rfl hw hl1 b24 r24 bo ro hS (λ y n st H2 s2 so wf=>?_));have hw2:=hw.same s2;have hl2:=qB s2 hl1;clear hw hl1 s2;walk_at "go";refine uc (Vt T).mono (uc (zdI T).mono (zbZ vw bs rs _ rfl hw2 b24 r24 bo ro (λ H3 s3=>(iE5 vw y l n _ (iE4 ns bs rs st (iA9 rfl (hw2.same s3) (so.same s3) wf (qB s3 hl2) b24 r24 bo (iA3 ro (Int.dvd_refl _) (λ y' n' st' ms H4 s4 so' wf' shf=>?_))))))));have hw4:=(hw2.same s3).same s4;have hl4:=qB s4 (qB s3 hl2);have so4:=(so.same s3).same s4;clear hw2 hl2 so s3 s4;walk_at "go";walk_at "lc";walk_at "go";have lg:n.ags.length=rs.length:=by rw [so4.hg.len,z7,ae,wf.go.1]
 have lg':n'.ags.length=rs.length:=by rw [so'.hg.len,z7,ae,wf'.go.1]
 have lm:=shf.kd.1;refine ra so4.hy T.C_State T.N_State_gone rfl (ra so'.hy T.C_State T.N_State_gone rfl (iE6 true true n.lg n'.lg _ _ (iA4 rfl (SqL.of so4.hg.out) (SqL.of so'.hg.out) (λ _ _ _ _ S hSn=>?_))));let M1_:Nat->St->Hp->Prop:=λ i σ H'=>∃ (v0 v1:Option V),σ=[v0,v1]/\Same H4 H'/\H' S=some (.lst (iv (ms.take i)));refine Vh (K:=K) (xs:=n.ags.map V.ref) (ys:=n'.ags.map V.ref) M1_ (iE2 _ _ (iA3 rfl (ze hSn) upd_same)) (λ i σ H' _ h=>by obtain ⟨_,_,_,s,_⟩:=h;exact ⟨SqL.of (s _ _ so4.hg.out),SqL.of (s _ _ so'.hg.out)⟩) ?_ ?_
 ·intro i x z t σ H5 hi hj ht zz_;refine oE2 zz_ λ v0 v1 z1_=>oA3 z1_ λ z2_ s5 hS5=>?_;clear zz_;subst z2_;rw [ak,aq] at hi hj;obtain ⟨b0,hb0,rfl⟩:=hi;obtain ⟨b1,hb1,rfl⟩:=hj;have hil:i < rs.length:=by rw [<- lg];exact (aa.mp hb0).1
  have er:=ad hil;obtain ⟨g,eg⟩:∃ g,st.gone[i]?=some g:=⟨_,ad (by rw [wf.go.1];exact hil)⟩;obtain ⟨m,em⟩:∃ m,ms[i]?=some m:=⟨_,ad (by rw [lm];exact hil)⟩;have eg':st'.gone[i]?=some (g.map (· + m)):=by rw [shf.gn,bn,eg,em]
  have gl:=(wf.go.2 i _ g er eg).1;have cp:=qS (ro _ (ah er));obtain ⟨x0,xs,rfl⟩:=bZ (dl (by omega:0 < g.length));obtain ⟨c0,q0,h0⟩:=wL so4.hg eg;obtain ⟨c1,q1,h1⟩:=wL so'.hg eg';rw [hb0] at q0;cases q0;rw [hb1] at q1;cases q1;have s6:=s5.trans (ze (o:=.tup [.ref b0,.ref b1]) ht);have hS6:=upd_keep (o:=.tup [.ref b0,.ref b1]) hS5 ht;refine un2 upd_same ?_;generalize upd H5 t (.tup [.ref b0,.ref b1])=H6 at s6 hS6 ⊢;walk_at "go";refine zu (SqL.of (s6 _ _ h1)) at0 (zu (SqL.of (s6 _ _ h0)) at0 ?_);walk_at "go";refine ⟨_,iA3 hS6 (zh (by rw [zn,aI];omega)) (iE2 _ _ (iA3 rfl (λ b o hb=>by rw [upd_ne (ne_of_none hb hSn)];exact s6 b o hb) ?_))⟩;rw [upd_same,show x0 + m - x0=m by omega,z8,aF,em]
  rfl
 intro σ H5 zz_;refine oE2 zz_ λ v0 v1 z1_=>oA3 z1_ λ z2_ s5 hS5=>?_;clear zz_;subst z2_;rw [ae,ae,lg,lg',et,<- lm,aK] at hS5;have hw5:=hw4.same s5;have hl5:=qB s5 hl4;have so5:=so4.same s5;have so5':=so'.same s5;clear hw4 hl4 so4 so' s5 hSn lg lg';walk_at "go";let M2_:St->Hp->Prop:=λ σ' H'=>∃ (v5 v6 v7 v8 v9:Option V) (y y':Addr) (n n':SN) (s s':PSt),σ'=[some (.ref l),some vw,some (.ref y),some (.ref y'),some (.ref S),v5,v6,v7,v8,v9]/\Same H5 H'/\StO a H' y n s/\StO a H' y' n' s'/\stWf bs rs s/\stWf bs rs s'/\Shf bs rs ms s s';refine cut M2_ ?_ ?_
 ·walk_at "for";walk_at "go";refine uc (xM T).mono (xI l ns 6000 rfl hl5 (by omega) (λ dn d0 d1=>?_));walk_at "go";refine ⟨by omega,by omega,?_⟩;let M3_:Nat->St->Hp->Prop:=λ i σ H'=>∃ (v5 v6 v7 v8 v9:Option V) (y y':Addr) (n n':SN) (s s':PSt),σ=[some (.ref l),some vw,some (.ref y),some (.ref y'),some (.ref S),v5,v6,v7,v8,v9]/\Same H5 H'/\StO a H' y n s/\StO a H' y' n' s'/\stWf bs rs s/\stWf bs rs s'/\Shf bs rs ms s s';refine Zd (n:=(1 + dn % 4).toNat) M3_ (iE8 _ _ _ _ _ y y' n (iE3 n' st st' (iA7 rfl (Same.refl _) so5 so5' wf wf' shf))) ?_ ?_
  ·clear so5 so5' wf wf' shf;intro i σ H6 hi zz_;refine oE8 zz_ λ v5 v6 v7 v8 v9 y y' n z1_=>oE3 z1_ λ n' s s' z2_=>oA7 z2_ λ z3_ s6 so6 so6' wf wf' shf=>?_;clear zz_;subst z3_;obtain ⟨ash,amv⟩:=Wa shf wf wok bo ro rs.length;obtain ⟨psh,_⟩:=zec shf wf wok bo ro;walk_at "go";refine uc (zbc T).mono (J6 vw y y' n n' bs rs s s' _ rfl (hw5.same s6) so6 so6' wf wf' b24 r24 bo ro (λ H7 s7=>(iE2 _ _ (iA3 rfl rfl ?_))));rw [bO (Wt shf wf bo ro)];have s67:=s6.trans s7;have so7:=so6.same s7;have so7':=so6'.same s7;clear s6 s7 so6 so6';walk_at "go";refine uc (zcd T).mono (uc (Jl T).mono (ZX vw (.ref y) s bs rs _ rfl (hw5.same s67) so7.rep wf wok bo ro (λ m1 us1 H8 s8 _ g1 r1=>(uc (Jl T).mono (ZX vw (.ref y') s' bs rs _ rfl (hw5.same (s67.trans s8)) ((so7'.same s8).rep) wf' wok bo ro (λ m2 us2 H9 s9 _ g2 r2=>?_))))));rw [amv] at r2;have s79:=s8.trans s9;have s9:=s9;refine iE8 m1 m2 S us1 us2 ms rs _ (iA9 rfl (s9 _ _ g1) g2 ((s67.trans s79) _ _ hS5) lm (r1.keep (λ b o hb ho=>⟨hb.elim λ xs hx=>⟨xs,s9 _ _ hx⟩,s9 b o ho⟩)) r2 (Xk wf wok bo ro _) (λ H10 s10=>?_));have s710:=s79.trans s10;have s610:=s67.trans s710;have so10:=so7.same s710;have so10':=so7'.same s710;clear s67 s79 s710 s8 s9 s10 so7 so7' g1 g2 r1 r2;walk_at "go";refine uc (Jk T).mono (ZW vw (.ref y) s bs rs _ rfl (hw5.same s610) so10.rep wf wok bo ro (λ v1 H11 s11 sn1=>?_));refine oE2 sn1 λ z nz z1_=>oA3 z1_ λ z2_ soz _=>?_;clear sn1;subst z2_;walk_at "go";refine uc (Jk T).mono (ZW vw (.ref y') s' bs rs _ rfl (hw5.same (s610.trans s11)) ((so10'.same s11).rep) wf' wok bo ro (λ v2 H12 s12 sn2=>?_));refine oE2 sn2 λ z' nz' z1_=>oA3 z1_ λ z2_ soz' _=>?_;clear sn2;subst z2_;have soz:=soz.same s12;have s1012:=s11.trans s12;have s612:=s610.trans s1012;have so12:=so10.same s1012;have so12':=so10'.same s1012;have wz:=WM wf wok bo ro;have wz':=WM wf' wok bo ro;clear s610 s11 s12 s1012 so10 so10';have tz:∀ s,(passF bs rs s).1.turn=s.turn + 1:=λ s=>by
    show (zx rs s rs.length).1.turn + 1=_
    rw [(Z0 rs s rs.length).1]
   walk_at "go";refine ra soz.hy T.C_State T.N_State_turn rfl (ra so12.hy T.C_State T.N_State_turn rfl ?_);walk_at "go";refine zI (λ h=>absurd (tz s) h) λ _=>(ra soz'.hy T.C_State T.N_State_turn rfl (ra so12'.hy T.C_State T.N_State_turn rfl ?_));walk_at "go";refine zI (λ h=>absurd (tz s') h) λ _=>(ra soz.hy T.C_State T.N_State_sides rfl (ra soz'.hy T.C_State T.N_State_sides rfl ?_));have hs':=soz'.hs;rw [psh.sd] at hs';refine ze7 (SqL.of soz.hs) (SqL.of hs') (Qq _) (QA (Qq _)) ?_;have lc:nz.acs.length=bs.length:=by rw [soz.hc.len,zC,ae,wz.co.1]
   have lc':nz'.acs.length=bs.length:=by rw [soz'.hc.len,zC,ae,wz'.co.1]
   walk_at "go";let M4_:St->Hp->Prop:=λ σ' H'=>∃ (v8 v9:Option V),σ'=[some (.ref l),some vw,some (.ref y),some (.ref y'),some (.ref S),some (.int (0 + i)),some (.ref z),some (.ref z'),v8,v9]/\Same H12 H';refine cut M4_ ?_ ?_
   ·walk_at "for";walk_at "go";refine ra soz.hy T.C_State T.N_State_cells rfl (ra soz'.hy T.C_State T.N_State_cells rfl (iE6 true true nz.lc nz'.lc _ _ (iA4 rfl (SqL.of soz.hc.out) (SqL.of soz'.hc.out) ?_)));let M5_:Nat->St->Hp->Prop:=λ j σ H'=>∃ (v8 v9:Option V),σ=[some (.ref l),some vw,some (.ref y),some (.ref y'),some (.ref S),some (.int (0 + i)),some (.ref z),some (.ref z'),v8,v9]/\Same H12 H';refine Vh (K:=K) (xs:=nz.acs.map V.ref) (ys:=nz'.acs.map V.ref) M5_ (iE2 _ _ ⟨rfl,Same.refl _⟩) (λ j σ H' _ h=>by obtain ⟨_,_,_,s⟩:=h;exact ⟨SqL.of (s _ _ soz.hc.out),SqL.of (s _ _ soz'.hc.out)⟩) ?_ ?_
    ·intro j x x' t σ H13 hj hj' ht zz_;refine oE2 zz_ λ v8 v9 z1_=>oA2 z1_ λ z2_ s13=>?_;clear zz_;subst z2_;rw [ak,aq] at hj hj';obtain ⟨b0,hb0,rfl⟩:=hj;obtain ⟨b1,hb1,rfl⟩:=hj';have hjl:j < bs.length:=by rw [<- lc];exact (aa.mp hb0).1
     have eb:=ad hjl;obtain ⟨c,ec⟩:∃ c,(passF bs rs s).1.cells[j]?=some c:=⟨_,ad (by rw [wz.co.1];exact hjl)⟩;have ec':(passF bs rs s').1.cells[j]?=some (c.map (sh ms)):=by rw [psh.ce,ak,ec];rfl
     obtain ⟨l6,wk⟩:=wz.co.2 j _ c eb ec;have bk:=(bo _ (ah eb)).2.1;obtain ⟨us,hus,rus⟩:=soz.hc.g j b0 _ hb0 (show (zC (passF bs rs s).1.cells)[j]?=some (c.map zQ) by rw [zC,ak,ec];rfl);obtain ⟨us',hus',rus'⟩:=soz'.hc.g j b1 _ hb1 (show (zC (passF bs rs s').1.cells)[j]?=some ((c.map (sh ms)).map zQ) by rw [zC,ak,ec'];rfl);have lu:us.length=c.length:=by rw [rus.len,ae]
     have lu':us'.length=c.length:=by rw [rus'.len,ae,ae]
     have s14:=s13.trans (ze (o:=.tup [.ref b0,.ref b1]) ht);refine un2 upd_same ?_;generalize upd H13 t (.tup [.ref b0,.ref b1])=H14 at s14 ⊢;have hu14:=s14 _ _ hus;walk_at "go";walk_at "lc";walk_at "go";refine ⟨b0,rfl,.inl ⟨⟨_,SqL.of hu14⟩,λ _ _ _ _ Z hZ=>?_⟩⟩;refine qG (K:=K) (a:=b0) (xs:=us) (λ q σ H'=>∃ (v0:Option V) (ws:List V),σ=[v0,some (.ref S)]/\Same H14 H'/\H' Z=some (.lst ws)/\Reps H' (zR H') ws (((c.take q).map (sh ms)).map zQ)) (iE2 _ ([]) (iA4 rfl (ze hZ) upd_same (.nil))) (λ q σ H' _ h=>by obtain ⟨_,_,_,s,_⟩:=h;exact SqL.of (s _ _ hu14)) ?_ ?_
     ·intro q v σ H15 hq zz_;refine oE2 zz_ λ v0 ws z1_=>oA4 z1_ λ z2_ s15 hZ15 rw15=>?_;clear zz_;subst z2_;obtain ⟨d,hd,rv⟩:=rus.at hq;rw [ak,aq] at hd;obtain ⟨wr,hwr,rfl⟩:=hd;have hql:=(aa.mp hwr).1;walk_at "go";refine uc (zdG T).mono (zfE v S ms rs wr _ rfl ((s612.trans (s14.trans s15)) _ _ hS5) lm (qM rv (s14.trans s15)) (wk _ (ah hwr)) (λ v' H16 s16 rv'=>?_));have hZ16:=s16 _ _ hZ15;have nz:∀ b xs,H16 b=some (.tup xs)->b≠Z:=λ b xs h z=>by rw [z,hZ16] at h;cases h
      refine ⟨_,iA3 hZ16 (zh (by rw [rw15.len,ae,ae,aI];omega)) (iE2 _ (ws ++ [v']) (iA4 rfl (λ b o hb=>by rw [upd_ne (ne_of_none hb hZ)];exact s16 _ _ (s15 _ _ hb)) upd_same ?_))⟩;rw [aF,hwr,aV,aV];have kp:∀ b o,zR H16 b->H16 b=some o->zR (upd H16 Z (.lst (ws ++ [v']))) b/\upd H16 Z (.lst (ws ++ [v'])) b=some o:=λ b o hb ho=>by
       obtain ⟨xs,hx⟩:=hb;rw [upd_ne (nz b xs hx)];exact ⟨⟨xs,by rw [upd_ne (nz b xs hx)];exact hx⟩,ho⟩
      exact (rw15.keep λ b o hb ho=>kp b o (hb.elim λ xs hx=>⟨xs,s16 _ _ hx⟩) (s16 _ _ ho)).append (.one (rv'.keep kp))
     ·intro σ H15 zz_;refine oE2 zz_ λ v0 ws z1_=>oA4 z1_ λ z2_ s15 hZ15 rw15=>?_;clear zz_;subst z2_;rw [lu,aK] at rw15;have s1415:=s14.trans s15;exact zcP (n:=1) (by decide) (SqL.of hZ15) (SqL.of (s1415 _ _ hus')) (by rw [rw15.len,ae,ae,lu']) (zdA rw15 (rus'.keep (q:=λ _=>True) λ b o _ ho=>⟨trivial,s1415 _ _ ho⟩)) (iE2 _ _ ⟨rfl,s1415⟩)
    ·rintro σ H13 h;exact h
   intro σ' H13 zz_;refine oE2 zz_ λ v8 v9 z1_=>oA2 z1_ λ z2_ s13=>?_;clear zz_;subst z2_;walk_at "go";refine uc (Xe T).mono (Jb y z n nz s _ rfl (so12.same s13) (soz.same s13) (by rw [wf.go.1,wz.go.1]) (by rw [wf.go.1];exact r24) (Ve ro wf wz) (λ gl as H14 s14 nl1 _=>(uc (Xe T).mono (Jb y' z' n' nz' s' _ rfl (so12'.same (s13.trans s14)) (soz'.same (s13.trans s14)) (by rw [wf'.go.1,wz'.go.1]) (by rw [wf'.go.1];exact r24) (Ve ro wf' wz') (λ gl' as' H15 s15 nl2 _=>?_)))));rw [psh.gn,shf.gn,zeq (by rw [wf.go.1,lm]) (by rw [wz.go.1,lm])] at nl2;have l1:as.length=as'.length:=by rw [nl1.len,nl2.len]
   refine zcP (n:=1) (by decide) (SqL.of (s15 _ _ nl1.out)) (SqL.of nl2.out) (by rw [ae,ae,l1]) (λ j x x' hx hx'=>?_) ?_
   ·rw [ak,aq] at hx hx';obtain ⟨b,hb,rfl⟩:=hx;obtain ⟨b',hb',rfl⟩:=hx';obtain ⟨g,eg⟩:∃ g,(xp s.gone (passF bs rs s).1.gone)[j]?=some g:=⟨_,ad (by have:=(aa.mp hb).1;rw [nl1.len,z7,ae] at this;exact this)⟩;obtain ⟨c,q1,h1⟩:=wL nl1 eg;obtain ⟨c',q2,h2⟩:=wL nl2 eg;rw [hb] at q1;cases q1;rw [hb'] at q2;cases q2;by_cases e:b=b'
    ·rw [e];exact .same
    ·exact zev e (SqL.of (s15 _ _ h1)) (SqL.of h2)
   walk_at "go";have sA:=s13.trans (s14.trans s15);exact iE8 _ _ _ _ _ z z' nz (iE3 nz' _ _ (iA7 rfl (s612.trans sA) (soz.same sA) (soz'.same sA) wz wz' psh))
  ·rintro σ H6 h;exact h
 intro σ' H6 zz_;refine oE8 zz_ λ v5 v6 v7 v8 v9 y y' n z1_=>oE3 z1_ λ n' s s' z2_=>oA7 z2_ λ z3_ s6 so6 so6' wf wf' shf=>?_;clear zz_;subst z3_;walk_at "go";refine uc (zbc T).mono (J6 vw y y' n n' bs rs s s' _ rfl (hw5.same s6) so6 so6' wf wf' b24 r24 bo ro (λ H7 s7=>(iE2 _ _ (iA3 rfl rfl ?_))));rw [bO (Wt shf wf bo ro)];exact k H7
theorem top_ok (T:Txt K mg a) (F:Fun K "law" "law" vP f fd):FnOk P w K mg base (CXr P w) 8 f fd ["_law_script"] (Wk K):=zfi T F
end
theorem zb7 {α:Type} {n:Nat} {P:List α->Prop} (us:List α) (hl:us.length=n + 1) (h:∀ a vs,vs.length=n->P (a :: vs)):P us:=by
 cases us with
 | nil=>cases hl
 | cons a vs=>exact h a vs (Nat.succ.inj hl)
theorem ey0 {α:Type} {P:List α->Prop} (us:List α) (hl:us.length=0) (h:P []):P us:=by
 cases us with
 | nil=>exact h
 | cons=>cases hl
theorem ey1 {α:Type} {P:List α->Prop} (us:List α) (hl:us.length=1) (h:∀ a0,P [a0]):P us:=zb7 us hl λ a0 _ l=>ey0 (P:=λ z=>P (a0 :: z)) _ l (h a0)
theorem ex1 {fn:FuncData} {ps:List Str} (us:List Value) (hl:us.length=1) (h:∀ a0,bindArgs fn ⟨[a0],[]⟩=pure (ps.zip [a0])):bindArgs fn ⟨us,[]⟩=pure (ps.zip us):=ey1 (P:=λ z=>bindArgs fn ⟨z,[]⟩=pure (ps.zip z)) us hl h
theorem ey2 {α:Type} {P:List α->Prop} (us:List α) (hl:us.length=2) (h:∀ a0 a1,P [a0,a1]):P us:=zb7 us hl λ a0 _ l=>ey1 (P:=λ z=>P (a0 :: z)) _ l λ a1=>h a0 a1
theorem ex2 {fn:FuncData} {ps:List Str} (us:List Value) (hl:us.length=2) (h:∀ a0 a1,bindArgs fn ⟨[a0,a1],[]⟩=pure (ps.zip [a0,a1])):bindArgs fn ⟨us,[]⟩=pure (ps.zip us):=ey2 (P:=λ z=>bindArgs fn ⟨z,[]⟩=pure (ps.zip z)) us hl h
theorem ey3 {α:Type} {P:List α->Prop} (us:List α) (hl:us.length=3) (h:∀ a0 a1 a2,P [a0,a1,a2]):P us:=zb7 us hl λ a0 _ l=>ey2 (P:=λ z=>P (a0 :: z)) _ l λ a1 a2=>h a0 a1 a2
theorem ex3 {fn:FuncData} {ps:List Str} (us:List Value) (hl:us.length=3) (h:∀ a0 a1 a2,bindArgs fn ⟨[a0,a1,a2],[]⟩=pure (ps.zip [a0,a1,a2])):bindArgs fn ⟨us,[]⟩=pure (ps.zip us):=ey3 (P:=λ z=>bindArgs fn ⟨z,[]⟩=pure (ps.zip z)) us hl h
theorem ey4 {α:Type} {P:List α->Prop} (us:List α) (hl:us.length=4) (h:∀ a0 a1 a2 a3,P [a0,a1,a2,a3]):P us:=zb7 us hl λ a0 _ l=>ey3 (P:=λ z=>P (a0 :: z)) _ l λ a1 a2 a3=>h a0 a1 a2 a3
theorem ex4 {fn:FuncData} {ps:List Str} (us:List Value) (hl:us.length=4) (h:∀ a0 a1 a2 a3,bindArgs fn ⟨[a0,a1,a2,a3],[]⟩=pure (ps.zip [a0,a1,a2,a3])):bindArgs fn ⟨us,[]⟩=pure (ps.zip us):=ey4 (P:=λ z=>bindArgs fn ⟨z,[]⟩=pure (ps.zip z)) us hl h
theorem ey5 {α:Type} {P:List α->Prop} (us:List α) (hl:us.length=5) (h:∀ a0 a1 a2 a3 a4,P [a0,a1,a2,a3,a4]):P us:=zb7 us hl λ a0 _ l=>ey4 (P:=λ z=>P (a0 :: z)) _ l λ a1 a2 a3 a4=>h a0 a1 a2 a3 a4
theorem ex5 {fn:FuncData} {ps:List Str} (us:List Value) (hl:us.length=5) (h:∀ a0 a1 a2 a3 a4,bindArgs fn ⟨[a0,a1,a2,a3,a4],[]⟩=pure (ps.zip [a0,a1,a2,a3,a4])):bindArgs fn ⟨us,[]⟩=pure (ps.zip us):=ey5 (P:=λ z=>bindArgs fn ⟨z,[]⟩=pure (ps.zip z)) us hl h
theorem ey6 {α:Type} {P:List α->Prop} (us:List α) (hl:us.length=6) (h:∀ a0 a1 a2 a3 a4 a5,P [a0,a1,a2,a3,a4,a5]):P us:=zb7 us hl λ a0 _ l=>ey5 (P:=λ z=>P (a0 :: z)) _ l λ a1 a2 a3 a4 a5=>h a0 a1 a2 a3 a4 a5
theorem ex6 {fn:FuncData} {ps:List Str} (us:List Value) (hl:us.length=6) (h:∀ a0 a1 a2 a3 a4 a5,bindArgs fn ⟨[a0,a1,a2,a3,a4,a5],[]⟩=pure (ps.zip [a0,a1,a2,a3,a4,a5])):bindArgs fn ⟨us,[]⟩=pure (ps.zip us):=ey6 (P:=λ z=>bindArgs fn ⟨z,[]⟩=pure (ps.zip z)) us hl h
abbrev FHy (K:PySem.W.Frag) (x:Str) (st:Stmt):Prop:=∃ (f:Addr) (oc:Value) (od an:Option Addr) (osl:Array (Option Value)) (kV doc pm cdv ct:Value),PySem.W.nsIn K mainGlobals x=some (some (.ref f))/\K.lookup f=some ⟨oc,od,.func (PySem.W.fnOf x x (qd st) (zZ st) (zd st) .none kV doc pm an cdv ct),osl⟩/\PySem.W.codeIn K cdv x=true/\PySem.W.keepIn K (.ref f)=true
theorem fhy {K:PySem.W.Frag} {x:Str} {st:Stmt} {f:Addr} {oc:Value} {od an:Option Addr} {osl:Array (Option Value)} {kV doc pm cdv ct:Value} (a:PySem.W.nsIn K mainGlobals x=some (some (.ref f))) (l:K.lookup f=some ⟨oc,od,.func (PySem.W.fnOf x x (qd st) (zZ st) (zd st) .none kV doc pm an cdv ct),osl⟩) (c:PySem.W.codeIn K cdv x=true) (k:PySem.W.keepIn K (.ref f)=true):FHy K x st:=⟨_,_,_,_,_,_,_,_,_,_,a,l,c,k⟩
theorem qA {K:PySem.W.Frag} {mg:Str->Option Value} {h:Heap} {x:Str} {st:Stmt} {ps:List Str} (X:K.In h) (G:h.Ns mainGlobals mg) (y:FHy K x st) (hb:∀ (kV doc pm:Value) (an:Option Addr) (cdv ct:Value) (us:List Value),us.length=ps.length->bindArgs (PySem.W.fnOf x x (qd st) (zZ st) (zd st) .none kV doc pm an cdv ct) ⟨us,[]⟩=pure (ps.zip us)):FA K mg x st ps:=by
 obtain ⟨_,_,_,_,_,_,_,_,_,_,a,l,c,k⟩:=y;exact zgi X G a l c k hb
abbrev CHy (K:PySem.W.Frag) (C:Addr):Prop:=PySem.W.plainGet K C Str.empty=true/\PySem.W.hasDictIn K C=true/\plainOver K C=true/\PySem.W.findIn K (.ref C) "__setattr__"=some (some (.builtin "object.__setattr__"))/\PySem.W.makesIn K C=true/\PySem.W.keepIn K (.ref C)=true/\PySem.W.findIn K (.ref C) "__class__"=some (some (.builtin "object.__class__"))/\mroIn K C (.type "object")=some true
theorem CHy.c {K:PySem.W.Frag} {C:Addr} (h:CHy K C):Cls K C:=⟨h.1,h.2.1,h.2.2.1,h.2.2.2.1⟩
theorem CHy.w {K:PySem.W.Frag} {C:Addr} (h:CHy K C) (g:PySem.W.specialIn K (.builtin "object.__class__") "__get__"=some (some (.builtin "getset_descriptor.__get__"))) (t:PySem.W.takesIn K (.builtin "object.__class__")=some true):WI K C:=⟨h.2.2.2.2.2.2.1,h.2.2.2.2.2.2.2,g,t⟩
abbrev MHy (K:PySem.W.Frag) (C:Addr) (m q:Str) (st:Stmt):Prop:=∃ (f:Addr) (oc:Value) (od an:Option Addr) (osl:Array (Option Value)) (kV doc pm cdv ct:Value),PySem.W.findIn K (.ref C) m=some (some (.ref f))/\PySem.W.isFn K (.ref f)=true/\K.lookup f=some ⟨oc,od,.func (PySem.W.fnOf m q (qd st) (zZ st) (zd st) .none kV doc pm an cdv ct),osl⟩/\PySem.W.codeIn K cdv q=true/\PySem.W.keepIn K (.ref f)=true
theorem mhy {K:PySem.W.Frag} {C:Addr} {m q:Str} {st:Stmt} {f:Addr} {oc:Value} {od an:Option Addr} {osl:Array (Option Value)} {kV doc pm cdv ct:Value} (a:PySem.W.findIn K (.ref C) m=some (some (.ref f))) (i:PySem.W.isFn K (.ref f)=true) (l:K.lookup f=some ⟨oc,od,.func (PySem.W.fnOf m q (qd st) (zZ st) (zd st) .none kV doc pm an cdv ct),osl⟩) (c:PySem.W.codeIn K cdv q=true) (k:PySem.W.keepIn K (.ref f)=true):MHy K C m q st:=⟨_,_,_,_,_,_,_,_,_,_,a,i,l,c,k⟩
theorem wZ {K:PySem.W.Frag} {C:Addr} {m q:Str} {st:Stmt} {ps:List Str} (y:MHy K C m q st) (hb:∀ (kV doc pm:Value) (an:Option Addr) (cdv ct:Value) (us:List Value),us.length=ps.length->bindArgs (PySem.W.fnOf m q (qd st) (zZ st) (zd st) .none kV doc pm an cdv ct) ⟨us,[]⟩=pure (ps.zip us)):FM K C m q st ps:=by
 obtain ⟨_,_,_,_,_,_,_,_,_,_,a,i,l,c,k⟩:=y;exact zge a i l c k hb
theorem X1 {K:PySem.W.Frag} {C:Addr} {q:Str} {st:Stmt} {ps:List Str} (z:CHy K C) (y:MHy K C "__init__" q st) (hb:∀ (kV doc pm:Value) (an:Option Addr) (cdv ct:Value) (us:List Value),us.length=ps.length->bindArgs (PySem.W.fnOf "__init__" q (qd st) (zZ st) (zd st) .none kV doc pm an cdv ct) ⟨us,[]⟩=pure (ps.zip us)):FK K C q st ps:=by
 obtain ⟨_,_,_,_,_,_,_,_,_,_,a,i,l,c,k⟩:=y;exact zgf z.2.2.2.2.1 z.2.2.2.2.2.1 a i l c k hb
theorem all_mk {l:PySem.W.OpenLaw} {w:World} {K:PySem.W.Frag} {h:Heap} {mg:Str->Option Value} {fa fL ya yb yc yd ye yf yg yh yi yj yk ym yn yo yp:Addr} (X:K.In h) (G:h.Ns mainGlobals mg) (hfa:mg "law"=some (.ref fa))
  {odL anL yq yr:Option Addr} {slL yt:Array (Option Value)} {ocL kVL dcL pmL cdL ctL yu yv yx yy yz yA:Value}
  {yB yC yD yE yF yG yH:Tok}
  (h1:FHy K "kind_of" Zw)
  (h2:FHy K "copied_state" j8)
  (h3:FHy K "kinds_in" xT)
  (h4:FHy K "kind_place" xU)
  (h5:FHy K "shape_of" j6)
  (h6:FHy K "alike" XA)
  (h7:FHy K "check_pace" xX)
  (h8:FHy K "check_kind" xY)
  (h9:FHy K "check_ways" xV)
  (h10:FHy K "first_place" xv)
  (h11:FHy K "place_for_ware" jw)
  (h12:FHy K "common" vQ)
  (h13:FHy K "lasting" Zv)
  (h14:FHy K "check_size" xW)
  (h15:FHy K "check_each_once" jn)
  (h16:FHy K "heads_of" j7)
  (h17:FHy K "taken_ware" xS)
  (h18:FHy K "belt_at" Zx)
  (h19:FHy K "counted_place" jJ)
  (h20:FHy K "act" WD)
  (h21:FHy K "act_all" Zy)
  (h22:FHy K "move_belt" wB)
  (h23:FHy K "pass_turn" xk)
  (h24:FHy K "one_turn" vv)
  (h25:FHy K "moves_of" vx)
  (h26:FHy K "_law_at" VX)
  (h27:FHy K "_law_spread" vy)
  (h28:FHy K "_law_belt" QL)
  (h29:FHy K "_law_source" xZ)
  (h30:FHy K "_law_drain" ZA)
  (h31:FHy K "_law_kind" QI)
  (h32:FHy K "_law_joined" vA)
  (h33:FHy K "_law_parted" vz)
  (h34:FHy K "_law_grow" vR)
  (h35:FHy K "_law_close" ZB)
  (h36:FHy K "_law_work" QH)
  (h37:FHy K "_law_beat" wC)
  (h38:FHy K "_law_draw" QK)
  (h39:FHy K "_law_fold" QJ)
  (h40:FHy K "_law_cells" xD)
  (h41:FHy K "_law_made" xC)
  (h42:FHy K "_law_shifted" ji)
  (h43:FHy K "_law_on" VW)
  (h44:FHy K "_law_moves" Zz)
  (h45:FHy K "_law_grown" wS)
  (aL:PySem.W.nsIn K mainGlobals "law"=some (some (.ref fL))) (lL:K.lookup fL=some ⟨ocL,odL,.func (PySem.W.fnOf "law" "law" (qd vP) (zZ vP) (zd vP) .none kVL dcL pmL anL cdL ctL),slL⟩) (cL:PySem.W.codeIn K cdL "law"=true) (kL:PySem.W.keepIn K (.ref fL)=true)
  (yI:PySem.W.nsIn K mainGlobals "list"=some none)
  (yJ:PySem.W.nsIn K mainGlobals "len"=some none)
  (yK:PySem.W.nsIn K mainGlobals "tuple"=some none)
  (yL:PySem.W.nsIn K mainGlobals "range"=some none)
  (yM:PySem.W.nsIn K mainGlobals "sorted"=some none)
  (yN:PySem.W.nsIn K mainGlobals "enumerate"=some none)
  (yO:PySem.W.nsIn K mainGlobals "isinstance"=some none)
  (yP:PySem.W.nsIn K mainGlobals "reversed"=some none)
  (yQ:PySem.W.nsIn K mainGlobals "all"=some none)
  (yR:PySem.W.nsIn K mainGlobals "max"=some none)
  (yS:PySem.W.nsIn K mainGlobals "zip"=some none)
  (yT:PySem.W.nsIn K mainGlobals "State"=some (some (.ref ya)))
  (yU:PySem.W.nsIn K mainGlobals "WorkError"=some (some (.ref yb)))
  (yV:PySem.W.nsIn K mainGlobals "BadBelt"=some (some (.ref yc)))
  (yW:PySem.W.nsIn K mainGlobals "BadKnot"=some (some (.ref yd)))
  (yX:PySem.W.nsIn K mainGlobals "BadWork"=some (some (.ref ye)))
  (yY:PySem.W.nsIn K mainGlobals "Belt"=some (some (.ref yf)))
  (yZ:PySem.W.nsIn K mainGlobals "Knot"=some (some (.ref yg)))
  (y8:PySem.W.nsIn K mainGlobals "Source"=some (some (.ref yh)))
  (y9:PySem.W.nsIn K mainGlobals "Drain"=some (some (.ref yi)))
  (yaa:PySem.W.nsIn K mainGlobals "Parter"=some (some (.ref yj)))
  (yba:PySem.W.nsIn K mainGlobals "FirstParter"=some (some (.ref yk)))
  (yca:PySem.W.nsIn K mainGlobals "Sieve"=some (some (.ref ym)))
  (yda:PySem.W.nsIn K mainGlobals "Joiner"=some (some (.ref yn)))
  (yea:PySem.W.nsIn K mainGlobals "Work"=some (some (.ref yo)))
  (yfa:CHy K ya)
  (yga:NoAttr K ya "turn")
  (yha:NoAttr K ya "cells")
  (yia:NoAttr K ya "sides")
  (yja:NoAttr K ya "gone")
  (yka:MHy K ya "__init__" "State.__init__" qW)
  (yla:CHy K yf)
  (yma:NoAttr K yf "room")
  (yna:NoAttr K yf "pace")
  (yoa:MHy K yf "__init__" "Belt.__init__" xm)
  (ypa:PySem.W.findIn K (.ref yg) "__init__"=some (some (.ref yp))) (yqa:PySem.W.isFn K (.ref yp)=true) (yra:K.lookup yp=some ⟨yu,yq,.func (PySem.W.fnOf "__init__" "Knot.__init__" (qd qO) (zZ qO) (zd qO) .none yv yx yy yr yz yA),yt⟩) (ysa:PySem.W.codeIn K yz "Knot.__init__"=true) (yta:PySem.W.keepIn K (.ref yp)=true)
  (yua:PySem.W.specialIn K (.ref yg) "__getattribute__"=some (some (.builtin "type.__getattribute__")))
  (yva:readsIn K yg (.type "type")=true)
  (ywa:findCls K (.ref yg) (.type "type") "__init__"=some (.val (.ref yp)))
  (yxa:CHy K yh)
  (yya:NoAttr K yh "pace")
  (yza:NoAttr K yh "kinds")
  (yAa:NoAttr K yh "ins")
  (yBa:NoAttr K yh "outs")
  (yCa:MHy K yh "__init__" "Source.__init__" jB)
  (yDa:MHy K yh "choice" "Source.choice" jL)
  (yEa:MHy K yh "copied" "Source.copied" jK)
  (yFa:CHy K yi)
  (yGa:NoAttr K yi "pace")
  (yHa:NoAttr K yi "ins")
  (yIa:NoAttr K yi "outs")
  (yJa:MHy K yi "__init__" "Drain.__init__" jW)
  (yKa:MHy K yi "choice" "Drain.choice" xf)
  (yLa:MHy K yi "copied" "Drain.copied" xb)
  (yMa:CHy K yj)
  (yNa:NoAttr K yj "ins")
  (yOa:NoAttr K yj "outs")
  (yPa:MHy K yj "__init__" "Parter.__init__" jC)
  (yQa:MHy K yj "choice" "Parter.choice" jN)
  (yRa:MHy K yj "copied" "Parter.copied" jM)
  (ySa:CHy K yk)
  (yTa:NoAttr K yk "ins")
  (yUa:NoAttr K yk "outs")
  (yVa:MHy K yk "__init__" "FirstParter.__init__" qJ)
  (yWa:MHy K yk "choice" "FirstParter.choice" qQ)
  (yXa:MHy K yk "copied" "FirstParter.copied" qP)
  (yYa:CHy K ym)
  (yZa:NoAttr K ym "kind")
  (y0a:NoAttr K ym "ins")
  (y1a:NoAttr K ym "outs")
  (y2a:MHy K ym "__init__" "Sieve.__init__" jV)
  (y3a:MHy K ym "choice" "Sieve.choice" xa)
  (y4a:MHy K ym "place_for" "Sieve.place_for" jp)
  (y5a:MHy K ym "copied" "Sieve.copied" j9)
  (y6a:CHy K yn)
  (y7a:NoAttr K yn "ins")
  (y8a:NoAttr K yn "outs")
  (y9a:MHy K yn "__init__" "Joiner.__init__" jD)
  (yab:MHy K yn "choice" "Joiner.choice" jc)
  (ybb:MHy K yn "copied" "Joiner.copied" jO)
  (ycb:CHy K yo)
  (ydb:NoAttr K yo "belts")
  (yeb:NoAttr K yo "knots")
  (yfb:MHy K yo "__init__" "Work.__init__" jh)
  (ygb:MHy K yo "drains" "Work.drains" jA)
  (yhb:MHy K yo "sources" "Work.sources" jo)
  (yib:MHy K yo "beat" "Work.beat" xl)
  (wgn:PySem.W.specialIn K (.builtin "object.__class__") "__get__"=some (some (.builtin "getset_descriptor.__get__"))) (wtk:PySem.W.takesIn K (.builtin "object.__class__")=some true)
  (yjb:PySem.W.nsIn K mainGlobals "MOST_ROOM"=some (some (.int 6 yB)))
  (ykb:PySem.W.nsIn K mainGlobals "MOST_PACE"=some (some (.int 4 yC)))
  (ylb:PySem.W.nsIn K mainGlobals "MOST_KINDS"=some (some (.int 6 yD)))
  (ymb:PySem.W.nsIn K mainGlobals "FEWEST_WAYS"=some (some (.int 2 yE)))
  (ynb:PySem.W.nsIn K mainGlobals "MOST_WAYS"=some (some (.int 4 yF)))
  (yob:PySem.W.nsIn K mainGlobals "MOST_BELTS"=some (some (.int 24 yG)))
  (ypb:PySem.W.nsIn K mainGlobals "MOST_KNOTS"=some (some (.int 24 yH)))
  (yqb:excIn K yc bmV "ValueError.__new__"=true)
  (yrb:excIn K yd bmV "ValueError.__new__"=true)
  (ysb:excIn K ye bmV "ValueError.__new__"=true)
  (ytb:PySem.W.kitOne K (.ref yh) (.ref yi)=some false)
  (yub:PySem.W.kitOne K (.ref yi) (.ref yi)=some true)
  (yvb:PySem.W.kitOne K (.ref yj) (.ref yi)=some false)
  (ywb:PySem.W.kitOne K (.ref yk) (.ref yi)=some false)
  (yxb:PySem.W.kitOne K (.ref ym) (.ref yi)=some false)
  (yyb:PySem.W.kitOne K (.ref yn) (.ref yi)=some false)
  (yzb:PySem.W.kitOne K (.ref yh) (.ref yh)=some true)
  (yAb:PySem.W.kitOne K (.ref yi) (.ref yh)=some false)
  (yBb:PySem.W.kitOne K (.ref yj) (.ref yh)=some false)
  (yCb:PySem.W.kitOne K (.ref yk) (.ref yh)=some false)
  (yDb:PySem.W.kitOne K (.ref ym) (.ref yh)=some false)
  (yEb:PySem.W.kitOne K (.ref yn) (.ref yh)=some false)
  (yFb:PySem.W.kitOne K (.ref yh) (.ref yn)=some false)
  (yGb:PySem.W.kitOne K (.ref yi) (.ref yn)=some false)
  (yHb:PySem.W.kitOne K (.ref yj) (.ref yn)=some false)
  (yIb:PySem.W.kitOne K (.ref yk) (.ref yn)=some false)
  (yJb:PySem.W.kitOne K (.ref ym) (.ref yn)=some false)
  (yKb:PySem.W.kitOne K (.ref yn) (.ref yn)=some true)
  (yLb:PySem.W.kitOne K (.ref yh) (.ref yj)=some false)
  (yMb:PySem.W.kitOne K (.ref yi) (.ref yj)=some false)
  (yNb:PySem.W.kitOne K (.ref yj) (.ref yj)=some true)
  (yOb:PySem.W.kitOne K (.ref yk) (.ref yj)=some false)
  (yPb:PySem.W.kitOne K (.ref ym) (.ref yj)=some false)
  (yQb:PySem.W.kitOne K (.ref yn) (.ref yj)=some false)
  : ∃ fd:FuncData,(∀ (s:Shared) (v:Value),BindsTo s fd ⟨[v],[]⟩ [("_law_script",v)])/\∀ base:Heap,K.In base->base.Ns mainGlobals mg->FnOk l.prog w K mg base (CXr l.prog w) 8 fa fd ["_law_script"] (Wk K):=by
 have e:=hfa.symm.trans (cA X G aL);cases e;have T:Txt K mg ⟨ya,yb,yc,yd,ye,yf,yg,yh,yi,yj,yk,ym,yn,yo⟩:={
  h_kind_of:=qA X G h1 λ _ _ _ _ _ _ us hl=>ex2 us hl λ _ _=>rfl
  h_copied_state:=qA X G h2 λ _ _ _ _ _ _ us hl=>ex1 us hl λ _=>rfl
  h_kinds_in:=qA X G h3 λ _ _ _ _ _ _ us hl=>ex2 us hl λ _ _=>rfl
  h_kind_place:=qA X G h4 λ _ _ _ _ _ _ us hl=>ex3 us hl λ _ _ _=>rfl
  h_shape_of:=qA X G h5 λ _ _ _ _ _ _ us hl=>ex2 us hl λ _ _=>rfl
  h_alike:=qA X G h6 λ _ _ _ _ _ _ us hl=>ex3 us hl λ _ _ _=>rfl
  h_check_pace:=qA X G h7 λ _ _ _ _ _ _ us hl=>ex2 us hl λ _ _=>rfl
  h_check_kind:=qA X G h8 λ _ _ _ _ _ _ us hl=>ex1 us hl λ _=>rfl
  h_check_ways:=qA X G h9 λ _ _ _ _ _ _ us hl=>ex1 us hl λ _=>rfl
  h_first_place:=qA X G h10 λ _ _ _ _ _ _ us hl=>ex2 us hl λ _ _=>rfl
  h_place_for_ware:=qA X G h11 λ _ _ _ _ _ _ us hl=>ex3 us hl λ _ _ _=>rfl
  h_common:=qA X G h12 λ _ _ _ _ _ _ us hl=>ex2 us hl λ _ _=>rfl
  h_lasting:=qA X G h13 λ _ _ _ _ _ _ us hl=>ex1 us hl λ _=>rfl
  h_check_size:=qA X G h14 λ _ _ _ _ _ _ us hl=>ex2 us hl λ _ _=>rfl
  h_check_each_once:=qA X G h15 λ _ _ _ _ _ _ us hl=>ex2 us hl λ _ _=>rfl
  h_heads_of:=qA X G h16 λ _ _ _ _ _ _ us hl=>ex3 us hl λ _ _ _=>rfl
  h_taken_ware:=qA X G h17 λ _ _ _ _ _ _ us hl=>ex3 us hl λ _ _ _=>rfl
  h_belt_at:=qA X G h18 λ _ _ _ _ _ _ us hl=>ex2 us hl λ _ _=>rfl
  h_counted_place:=qA X G h19 λ _ _ _ _ _ _ us hl=>ex2 us hl λ _ _=>rfl
  h_act:=qA X G h20 λ _ _ _ _ _ _ us hl=>ex3 us hl λ _ _ _=>rfl
  h_act_all:=qA X G h21 λ _ _ _ _ _ _ us hl=>ex2 us hl λ _ _=>rfl
  h_move_belt:=qA X G h22 λ _ _ _ _ _ _ us hl=>ex1 us hl λ _=>rfl
  h_pass_turn:=qA X G h23 λ _ _ _ _ _ _ us hl=>ex2 us hl λ _ _=>rfl
  h_one_turn:=qA X G h24 λ _ _ _ _ _ _ us hl=>ex2 us hl λ _ _=>rfl
  h_moves_of:=qA X G h25 λ _ _ _ _ _ _ us hl=>ex2 us hl λ _ _=>rfl
  h_L_at:=qA X G h26 λ _ _ _ _ _ _ us hl=>ex2 us hl λ _ _=>rfl
  h_L_spread:=qA X G h27 λ _ _ _ _ _ _ us hl=>ex2 us hl λ _ _=>rfl
  h_L_belt:=qA X G h28 λ _ _ _ _ _ _ us hl=>ex3 us hl λ _ _ _=>rfl
  h_L_source:=qA X G h29 λ _ _ _ _ _ _ us hl=>ex4 us hl λ _ _ _ _=>rfl
  h_L_drain:=qA X G h30 λ _ _ _ _ _ _ us hl=>ex3 us hl λ _ _ _=>rfl
  h_L_kind:=qA X G h31 λ _ _ _ _ _ _ us hl=>ex3 us hl λ _ _ _=>rfl
  h_L_joined:=qA X G h32 λ _ _ _ _ _ _ us hl=>ex6 us hl λ _ _ _ _ _ _=>rfl
  h_L_parted:=qA X G h33 λ _ _ _ _ _ _ us hl=>ex4 us hl λ _ _ _ _=>rfl
  h_L_grow:=qA X G h34 λ _ _ _ _ _ _ us hl=>ex6 us hl λ _ _ _ _ _ _=>rfl
  h_L_close:=qA X G h35 λ _ _ _ _ _ _ us hl=>ex6 us hl λ _ _ _ _ _ _=>rfl
  h_L_work:=qA X G h36 λ _ _ _ _ _ _ us hl=>ex1 us hl λ _=>rfl
  h_L_beat:=qA X G h37 λ _ _ _ _ _ _ us hl=>ex1 us hl λ _=>rfl
  h_L_draw:=qA X G h38 λ _ _ _ _ _ _ us hl=>ex2 us hl λ _ _=>rfl
  h_L_fold:=qA X G h39 λ _ _ _ _ _ _ us hl=>ex2 us hl λ _ _=>rfl
  h_L_cells:=qA X G h40 λ _ _ _ _ _ _ us hl=>ex3 us hl λ _ _ _=>rfl
  h_L_made:=qA X G h41 λ _ _ _ _ _ _ us hl=>ex2 us hl λ _ _=>rfl
  h_L_shifted:=qA X G h42 λ _ _ _ _ _ _ us hl=>ex4 us hl λ _ _ _ _=>rfl
  h_L_on:=qA X G h43 λ _ _ _ _ _ _ us hl=>ex2 us hl λ _ _=>rfl
  h_L_moves:=qA X G h44 λ _ _ _ _ _ _ us hl=>ex3 us hl λ _ _ _=>rfl
  h_L_grown:=qA X G h45 λ _ _ _ _ _ _ us hl=>ex2 us hl λ _ _=>rfl
  m_list:=bW X G yI
  m_len:=bW X G yJ
  m_tuple:=bW X G yK
  m_range:=bW X G yL
  m_sorted:=bW X G yM
  m_enumerate:=bW X G yN
  m_isinstance:=bW X G yO
  m_reversed:=bW X G yP
  m_all:=bW X G yQ
  m_max:=bW X G yR
  m_zip:=bW X G yS
  g_State:=cA X G yT
  g_BadBelt:=cA X G yV
  g_BadKnot:=cA X G yW
  g_BadWork:=cA X G yX
  g_Belt:=cA X G yY
  g_Source:=cA X G y8
  g_Drain:=cA X G y9
  g_Parter:=cA X G yaa
  g_FirstParter:=cA X G yba
  g_Sieve:=cA X G yca
  g_Joiner:=cA X G yda
  g_Work:=cA X G yea
  C_State:=yfa.c
  N_State_turn:=yga
  N_State_cells:=yha
  N_State_sides:=yia
  N_State_gone:=yja
  h_State_init:=X1 yfa yka λ _ _ _ _ _ _ us hl=>ex5 us hl λ _ _ _ _ _=>rfl
  C_Belt:=yla.c
  N_Belt_room:=yma
  N_Belt_pace:=yna
  h_Belt_init:=X1 yla yoa λ _ _ _ _ _ _ us hl=>ex3 us hl λ _ _ _=>rfl
  b_Knot_init:=zgg (st:=qO) (ps:=["self","ins","outs"]) (cA X G yZ) yua yva ywa yra ysa yta λ _ _ _ _ _ _ us hl=>ex3 us hl λ _ _ _=>rfl
  C_Source:=yxa.c
  N_Source_pace:=yya
  N_Source_kinds:=yza
  N_Source_ins:=yAa
  N_Source_outs:=yBa
  W_Source:=yxa.w wgn wtk
  h_Source_init:=X1 yxa yCa λ _ _ _ _ _ _ us hl=>ex4 us hl λ _ _ _ _=>rfl
  h_Source_choice:=wZ yDa λ _ _ _ _ _ _ us hl=>ex5 us hl λ _ _ _ _ _=>rfl
  h_Source_copied:=wZ yEa λ _ _ _ _ _ _ us hl=>ex1 us hl λ _=>rfl
  C_Drain:=yFa.c
  N_Drain_pace:=yGa
  N_Drain_ins:=yHa
  N_Drain_outs:=yIa
  W_Drain:=yFa.w wgn wtk
  h_Drain_init:=X1 yFa yJa λ _ _ _ _ _ _ us hl=>ex3 us hl λ _ _ _=>rfl
  h_Drain_choice:=wZ yKa λ _ _ _ _ _ _ us hl=>ex5 us hl λ _ _ _ _ _=>rfl
  h_Drain_copied:=wZ yLa λ _ _ _ _ _ _ us hl=>ex1 us hl λ _=>rfl
  C_Parter:=yMa.c
  N_Parter_ins:=yNa
  N_Parter_outs:=yOa
  W_Parter:=yMa.w wgn wtk
  h_Parter_init:=X1 yMa yPa λ _ _ _ _ _ _ us hl=>ex3 us hl λ _ _ _=>rfl
  h_Parter_choice:=wZ yQa λ _ _ _ _ _ _ us hl=>ex5 us hl λ _ _ _ _ _=>rfl
  h_Parter_copied:=wZ yRa λ _ _ _ _ _ _ us hl=>ex1 us hl λ _=>rfl
  C_FirstParter:=ySa.c
  N_FirstParter_ins:=yTa
  N_FirstParter_outs:=yUa
  W_FirstParter:=ySa.w wgn wtk
  h_FirstParter_init:=X1 ySa yVa λ _ _ _ _ _ _ us hl=>ex3 us hl λ _ _ _=>rfl
  h_FirstParter_choice:=wZ yWa λ _ _ _ _ _ _ us hl=>ex5 us hl λ _ _ _ _ _=>rfl
  h_FirstParter_copied:=wZ yXa λ _ _ _ _ _ _ us hl=>ex1 us hl λ _=>rfl
  C_Sieve:=yYa.c
  N_Sieve_kind:=yZa
  N_Sieve_ins:=y0a
  N_Sieve_outs:=y1a
  W_Sieve:=yYa.w wgn wtk
  h_Sieve_init:=X1 yYa y2a λ _ _ _ _ _ _ us hl=>ex4 us hl λ _ _ _ _=>rfl
  h_Sieve_choice:=wZ y3a λ _ _ _ _ _ _ us hl=>ex5 us hl λ _ _ _ _ _=>rfl
  h_Sieve_place_for:=wZ y4a λ _ _ _ _ _ _ us hl=>ex2 us hl λ _ _=>rfl
  h_Sieve_copied:=wZ y5a λ _ _ _ _ _ _ us hl=>ex1 us hl λ _=>rfl
  C_Joiner:=y6a.c
  N_Joiner_ins:=y7a
  N_Joiner_outs:=y8a
  W_Joiner:=y6a.w wgn wtk
  h_Joiner_init:=X1 y6a y9a λ _ _ _ _ _ _ us hl=>ex3 us hl λ _ _ _=>rfl
  h_Joiner_choice:=wZ yab λ _ _ _ _ _ _ us hl=>ex5 us hl λ _ _ _ _ _=>rfl
  h_Joiner_copied:=wZ ybb λ _ _ _ _ _ _ us hl=>ex1 us hl λ _=>rfl
  C_Work:=ycb.c
  N_Work_belts:=ydb
  N_Work_knots:=yeb
  h_Work_init:=X1 ycb yfb λ _ _ _ _ _ _ us hl=>ex3 us hl λ _ _ _=>rfl
  h_Work_drains:=wZ ygb λ _ _ _ _ _ _ us hl=>ex1 us hl λ _=>rfl
  h_Work_sources:=wZ yhb λ _ _ _ _ _ _ us hl=>ex1 us hl λ _=>rfl
  h_Work_beat:=wZ yib λ _ _ _ _ _ _ us hl=>ex1 us hl λ _=>rfl
  g_MOST_ROOM:=⟨_,cA X G yjb⟩
  g_MOST_PACE:=⟨_,cA X G ykb⟩
  g_MOST_KINDS:=⟨_,cA X G ylb⟩
  g_FEWEST_WAYS:=⟨_,cA X G ymb⟩
  g_MOST_WAYS:=⟨_,cA X G ynb⟩
  g_MOST_BELTS:=⟨_,cA X G yob⟩
  g_MOST_KNOTS:=⟨_,cA X G ypb⟩
  X_BadBelt:=⟨yqb⟩
  X_BadKnot:=⟨yrb⟩
  X_BadWork:=⟨ysb⟩
  k1_Source_Drain:=ytb
  k1_Drain_Drain:=yub
  k1_Parter_Drain:=yvb
  k1_FirstParter_Drain:=ywb
  k1_Sieve_Drain:=yxb
  k1_Joiner_Drain:=yyb
  k1_Source_Source:=yzb
  k1_Drain_Source:=yAb
  k1_Parter_Source:=yBb
  k1_FirstParter_Source:=yCb
  k1_Sieve_Source:=yDb
  k1_Joiner_Source:=yEb
  k1_Source_Joiner:=yFb
  k1_Drain_Joiner:=yGb
  k1_Parter_Joiner:=yHb
  k1_FirstParter_Joiner:=yIb
  k1_Sieve_Joiner:=yJb
  k1_Joiner_Joiner:=yKb
  k1_Source_Parter:=yLb
  k1_Drain_Parter:=yMb
  k1_Parter_Parter:=yNb
  k1_FirstParter_Parter:=yOb
  k1_Sieve_Parter:=yPb
  k1_Joiner_Parter:=yQb
 }
 exact ⟨_,λ s v=>.of_eq rfl,λ base _ _=>top_ok T (we (st:=vP) lL cL kL)⟩
theorem walk {l:PySem.W.OpenLaw} {q:Program} {loose:List Str} {XP:(Str->Option Value)->Heap->Prop} {YP:World->Heap->Prop} {d:DefRec} {K:Params->PySem.W.Frag} (hn:l.most=some 63) (hdf:d.params.defaults=[])
  (hY:∀ (w:World) (h:Heap),YP w h->(K w.params).In h)
  (F:∀ (w:World) (mg:Str->Option Value) (fa:Addr) (h:Heap),(K w.params).In h->h.Ns mainGlobals mg->mg d.name=some (.ref fa) ->
   ∃ fd:FuncData,(∀ (s:Shared) (u:Value),BindsTo s fd ⟨[u],[]⟩ [("_law_script",u)])/\∀ base:Heap,(K w.params).In base->base.Ns mainGlobals mg->FnOk l.prog w (K w.params) mg base (CXr l.prog w) 8 fa fd ["_law_script"] (Wk (K w.params))) :
  PySem.W.WalkO q loose XP YP l.row.toRowW d [] (λ f vs=>PySem.call f vs) :=
 L2.walk_of (n:=63) (k:=8) (x:="_law_script") (CX:=λ w=>CXr l.prog w) (sp:=λ w=>Wk (K w.params)) hn (by decide) hdf ⟨rfl,by decide,by decide⟩ hY F (λ _ _ a ns hl _ hS=>⟨a,ns,rfl,hS,hl,λ _=>rfl⟩) λ _ _ _ _ _ z=>zb8 z
end K26
set_option Elab.async false
namespace PySem.W.Fast
def tw2865399903224190535:=()
def tw8594902684979138978:=()
def tw5822944429512804317:=()
def tw9005199210127865302:=()
def tw11265264147894191394:=()
def tw5816304639991704530:=()
def tw13629860936670950892:=()
def tw9674905246159458062:=()
def tw10736811888502068473:=()
def tw10638171398109601403:=()
def tw4223111311670226236:=()
def tw17216550157756043933:=()
def tw12672591910568039575:=()
def tw17168753213426289266:=()
def tw2198129253486103722:=()
def tw11682686358849040837:=()
def tw5448120330601289658:=()
def tw3164483955812016343:=()
def tw308364560505681121:=()
def tw14841308716047586345:=()
def tw4259829619501353892:=()
def tw6812801166345007240:=()
def tw18297542620533669980:=()
def tw3636378933675373614:=()
def tw10734484516937523733:=()
def tw12177369656129787150:=()
def tw16715053102064548621:=()
def tw7717373103632824555:=()
def tw16803554414899464946:=()
def tw17418984467192788168:=()
def tw2386474710917109109:=()
def tw2586622407380189819:=()
def tw8705472416555328193:=()
def tw15907258568879252808:=()
def tw15858920053728449953:=()
def tw1376192499425975478:=()
def tw8684044658912917940:=()
def tw11160248069624536059:=()
def tw1461706127167113892:=()
def tw6228002608888239219:=()
def tw5706844074287241456:=()
def tw5802239972141572631:=()
def tw12830064562873510004:=()
def tw6068496031522891580:=()
def tw9797146203607692638:=()
def tw11840656293833954158:=()
def tw1267319963123614953:=()
def tw9801006830748288187:=()
def tw5810770914264468073:=()
def tw9103488425627194475:=()
def tw18157029015426271279:=()
def tw1795615439638373881:=()
def tw7585072681289532514:=()
def tw8289543120478007157:=()
def tw4488030420182763223:=()
def tw6011384084640238506:=()
def tw3291483917008162234:=()
def tw6217465161774674237:=()
def tw3063405273551505745:=()
def tw9863874145111373374:=()
def tw11877790129424600856:=()
def tw10723250190147817443:=()
def tw9273739237799317844:=()
def tw15275866518949237821:=()
def tw705455892696953161:=()
def tw10436428311657461528:=()
def tw1444222896901780961:=()
def tw3525369914318167675:=()
def tw13566692812906587754:=()
def tw16440921797115577349:=()
def tw3944057835919266318:=()
def tw9815857982034632579:=()
def tw18373652198707441916:=()
def tw13831502966153243397:=()
def tw3073951882596194457:=()
def tw2829950218217901589:=()
def tw16668113734024858098:=()
def tw739339994844380006:=()
def tw17922922041132808517:=()
def tw12296028421646344355:=()
def tw11050580225922086021:=()
def tw12372407994024613615:=()
def tw6212997949171872011:=()
def tw18151806935217098250:=()
def tw14985671336103126439:=()
def tw17075619902292349335:=()
def tw5091497449368724444:=()
def tw16678113712765547841:=()
def tw16049689120632806557:=()
def tw5640622657749835748:=()
def tw10444898298659398176:=()
def tw17589642020911315445:=()
def tw14464423425638228390:=()
def tw10846998994633110050:=()
def tw6846682774417550849:=()
def tw4896744151000225949:=()
def tw2557525850040822865:=()
def tw10779989319732891365:=()
def tw9869957878144525659:=()
def tw11538937122925697622:=()
def tw1278259854780456704:=()
def tw6991546933871844079:=()
def tw12485032411816474022:=()
def tw15437018134421896298:=()
def tw2315980169021488306:=()
def tw6817284569138201184:=()
def tw7892442069594906382:=()
def tw18252342348538553409:=()
def tw8342720450133425836:=()
def tw18170277176137824525:=()
def tw13172431661125961100:=()
def tw2187500824745198602:=()
def tw17378135730614062138:=()
def tw2058275574692209494:=()
def tw17327496495042735674:=()
def tw10655738392697568115:=()
def tw17848491812099633095:=()
def tw17748565123919521378:=()
def tw13215597586849012207:=()
def tw1488062334373493448:=()
def tw10239263200659319008:=()
def tw8677746478483222926:=()
def tw6027543821077829175:=()
def tw11267055949636699578:=()
def tw9249657340704062650:=()
def tw10410782375289404419:=()
def tw14642181033810159058:=()
def tw12252483775228035618:=()
def tw14309359444337834380:=()
def tw6992397069900488276:=()
def tw1052816438983758263:=()
def tw7114426012968569979:=()
def tw8407484072882652651:=()
def tw13877322645399407010:=()
def tw8882433771547009242:=()
def tw17740136577008472318:=()
def tw9402408144071286067:=()
def tw2248571778691600220:=()
def tw7317966263219508392:=()
def tw18037961925420379426:=()
def tw13929859222349429947:=()
def tw1753504089257421149:=()
def tw2691549931448656596:=()
def tw13824197975245944218:=()
def tw17296269794182311514:=()
def tw4326957753031538795:=()
def tw17664129437545271208:=()
def tw18395768154974220363:=()
def tw10463943739753260658:=()
def tw12783199268212162836:=()
def tw9694245852224563196:=()
def tw16105868816330087778:=()
def tw3726274482983910502:=()
def tw1953706505926766828:=()
def tw18265736957644251684:=()
def tw1193063019396039156:=()
def tw5839995067424824952:=()
def tw4379117471678228909:=()
def tw8595437424802275418:=()
def tw10314199779099416473:=()
def tw10833447516936505643:=()
def tw4618026035115872006:=()
def tw9942621867201650527:=()
def tw3670757549792681267:=()
def tw14492355969809252244:=()
def tw5799509038313704783:=()
def tw8756619212501838700:=()
def tw11033277839831955177:=()
def tw8655381755926752479:=()
def tw4828475475517231768:=()
def tw2474504934971602635:=()
def tw17181413264132397288:=()
def tw16725406628978184097:=()
def tw7560318117947883783:=()
def tw245127485689422893:=()
def tw3596217194262275504:=()
def tw8663023935135320254:=()
def tw12180183059314579834:=()
def tw15844208962212601657:=()
def tw11348798704242718380:=()
def tw13446716120103997290:=()
def tw16354026513232043191:=()
def tw11574790990420481587:=()
def tw9016593691707843280:=()
def tw5537260121076207955:=()
def tw5576013468008618955:=()
def tw14961792799409740316:=()
def tw11108215440412873559:=()
def tw2462903397117485440:=()
def tw3923371966271213970:=()
def tw9136088193551066567:=()
def tw9520293967123840839:=()
def tw1802933271665281830:=()
def tw3933070169135188936:=()
def tw11899508723312298817:=()
def tw4374985700474958104:=()
def tw12721622588590453426:=()
def tw15603144647887091077:=()
def tw1129114408465706556:=()
def tw11655774934225927479:=()
def tw12633897620386941926:=()
def tw2085544836119031509:=()
def tw13457239868376754264:=()
def tw5693521646743877719:=()
def tw15051389209139314037:=()
def tw14887595170320616286:=()
def tw1371855906172774074:=()
def tw16857859771216960110:=()
def tw4614576246349050033:=()
def tw15704307120323533942:=()
def tw17278369773536338938:=()
def tw15378213293291362268:=()
def tw5035897960769690264:=()
def tw1550551586565025645:=()
def tw15040088096733858368:=()
def tw3326235928482947179:=()
def tw10385857317418235798:=()
def tw7318648956169478402:=()
def tw17530710956899879901:=()
def tw2870863755579932470:=()
def tw2850016822243236749:=()
def tw695876852526957109:=()
def tw18224187030934021603:=()
def tw11760036226246955910:=()
def tw9024461988694863245:=()
def tw4141536500920795962:=()
def tw3443725182531968887:=()
def tw13076886034029279408:=()
def tw4747286873370438573:=()
def tw11299625172963251613:=()
def tw1398727683783679606:=()
def tw6937245377652910623:=()
def tw3478687446620644786:=()
def tw704362868456216617:=()
def tw3203355196512139631:=()
def tw1723359445528487982:=()
def tw7256150678778160316:=()
def tw276431015128084662:=()
def tw15804390342251730813:=()
def tw3050468352105683947:=()
def tw10099884656838174654:=()
def tw10526100330389605771:=()
def tw11087823631849292228:=()
def tw8915516633785424199:=()
def tw7724012178100334310:=()
def tw9450911213143607958:=()
def tw12957643256890419491:=()
def tw7568547949380172101:=()
def tw15543948516887338920:=()
def tw9280271575863917617:=()
def tw7142698609180056663:=()
def tw15918043269409991870:=()
def tw9597594795669556061:=()
def tw16673805223196213793:=()
def tw4103447281943497817:=()
def tw15190736656881096493:=()
def tw1327471406454900301:=()
def tw10864689532970988534:=()
def tw13616028712400711533:=()
def tw13979030166419440470:=()
def tw11455593410402998774:=()
def tw9739531835094824602:=()
def tw8130621891765325523:=()
def tw2632796799006322161:=()
def tw12446523376155697977:=()
def tw6780796927289374903:=()
def tw1717566630544019048:=()
def tw6195480608821760106:=()
def tw16876440770852058998:=()
def tw11071968868920636359:=()
def tw4337594358375451889:=()
def tw46176814272156700:=()
def tw10577995118418309058:=()
def tw6893680691768038410:=()
def tw11314697179641037914:=()
def tw8505945211297859517:=()
def tw1237829359567025980:=()
def tw16578931887870440407:=()
def tw13082136334458634675:=()
def tw12638853855776959836:=()
def tw957407392644348414:=()
def tw3685459240366022057:=()
def tw16464994639863304237:=()
def tw14853951917175173897:=()
def tw11068572976953599936:=()
def tw13982125251100280320:=()
def tw10958960775769499806:=()
def tw6550387486340275013:=()
def tw10972547072265196428:=()
def tw18066620155021960565:=()
def tw8724725883502161939:=()
def tw8345547507617357971:=()
def tw14459500058577956051:=()
def tw14325051915595475068:=()
def tw272014693903891714:=()
def tw8724887614582520143:=()
def tw10963250805040687621:=()
def tw189996142199068502:=()
def tw11622728907577009624:=()
def tw5634746877283419640:=()
def tw13110054921960738762:=()
def tw13777173165222459576:=()
def tw15450935504825480539:=()
def tw2241111732387680852:=()
def tw1527210581196362318:=()
def tw18235960333260116110:=()
def tw6455960344838695499:=()
def tw16869597190893910375:=()
def tw474391626118917821:=()
def tw9784380489221329897:=()
def tw13238119749410561788:=()
def tw15929937041569202962:=()
def tw9730542954781082048:=()
def tw5620929260878397411:=()
def tw15944474012182899917:=()
def tw13924316580509582286:=()
def tw5926289968403067492:=()
def tw6436952944621002282:=()
def tw11634956522864701982:=()
def tw4198642914304641328:=()
def tw15360487197226120555:=()
def tw17851518749331855575:=()
end PySem.W.Fast
open PySem PySem.W PyProof.Rows
set_option maxRecDepth 100000 in
set_option maxHeartbeats 0 in
theorem PySem.Challenge.cw_beltshares_k26_alike_goes_on_holds : PySem.Challenge.rw_beltshares_k26_alike_goes_on.Holds := by
 w_on;o_law;k_head;(case hw=>w_witness2)
 k_fill
 refine K26.walk (l:=PySem.Challenge.rw_beltshares_k26_alike_goes_on) rfl rfl (λ w h Y=>PySem.W.kIn_of Y) ?F
 case F =>
  intro w mg fa h KX G hmg;refine' K26.all_mk KX G hmg ?h1 ?h2 ?h3 ?h4 ?h5 ?h6 ?h7 ?h8 ?h9 ?h10 ?h11 ?h12 ?h13 ?h14 ?h15 ?h16 ?h17 ?h18 ?h19 ?h20 ?h21 ?h22 ?h23 ?h24 ?h25 ?h26 ?h27 ?h28 ?h29 ?h30 ?h31 ?h32 ?h33 ?h34 ?h35 ?h36 ?h37 ?h38 ?h39 ?h40 ?h41 ?h42 ?h43 ?h44 ?h45 ?aL ?lL ?cL ?kL ?yI ?yJ ?yK ?yL ?yM ?yN ?yO ?yP ?yQ ?yR ?yS ?yT ?yU ?yV ?yW ?yX ?yY ?yZ ?y8 ?y9 ?yaa ?yba ?yca ?yda ?yea ?yfa ?yga ?yha ?yia ?yja ?yka ?yla ?yma ?yna ?yoa ?ypa ?yqa ?yra ?ysa ?yta ?yua ?yva ?ywa ?yxa ?yya ?yza ?yAa ?yBa ?yCa ?yDa ?yEa ?yFa ?yGa ?yHa ?yIa ?yJa ?yKa ?yLa ?yMa ?yNa ?yOa ?yPa ?yQa ?yRa ?ySa ?yTa ?yUa ?yVa ?yWa ?yXa ?yYa ?yZa ?y0a ?y1a ?y2a ?y3a ?y4a ?y5a ?y6a ?y7a ?y8a ?y9a ?yab ?ybb ?ycb ?ydb ?yeb ?yfb ?ygb ?yhb ?yib ?wgn ?wtk ?yjb ?ykb ?ylb ?ymb ?ynb ?yob ?ypb ?yqb ?yrb ?ysb ?ytb ?yub ?yvb ?ywb ?yxb ?yyb ?yzb ?yAb ?yBb ?yCb ?yDb ?yEb ?yFb ?yGb ?yHb ?yIb ?yJb ?yKb ?yLb ?yMb ?yNb ?yOb ?yPb ?yQb
  (case h1|h2|h3|h4|h5|h6|h7|h8|h9|h10|h11|h12|h13|h14|h15|h16|h17|h18|h19|h20|h21|h22|h23|h24|h25|h26|h27|h28|h29|h30|h31|h32|h33|h34|h35|h36|h37|h38|h39|h40|h41|h42|h43|h44|h45=>(refine' K26.fhy ?a ?l ?c ?k;(case a=>k_is);(case l=>k_is);(case c=>k_is);(case k=>k_is)))
  (case aL|lL|cL|kL|yI|yJ|yK|yL|yM|yN|yO|yP|yQ|yR|yS|yT|yU|yV|yW|yX|yY|yZ|y8|y9|yaa|yba|yca|yda|yea=>k_is)
  (case yfa=>(refine ⟨?_,?_,?_,?_,?_,?_,?_,?_⟩ <;> k_is))
  (case yga|yha|yia|yja=>(show PySem.W.findIn _ _ _=_;k_is))
  (case yka=>(refine' K26.mhy ?a ?i ?l ?c ?k;(case a=>k_is);(case i=>k_is);(case l=>k_is);(case c=>k_is);(case k=>k_is)))
  (case yla=>(refine ⟨?_,?_,?_,?_,?_,?_,?_,?_⟩ <;> k_is))
  (case yma|yna=>(show PySem.W.findIn _ _ _=_;k_is))
  (case yoa=>(refine' K26.mhy ?a ?i ?l ?c ?k;(case a=>k_is);(case i=>k_is);(case l=>k_is);(case c=>k_is);(case k=>k_is)))
  (case ypa|yqa|yra|ysa|yta|yua|yva|ywa=>k_is)
  (case yxa=>(refine ⟨?_,?_,?_,?_,?_,?_,?_,?_⟩ <;> k_is))
  (case yya|yza|yAa|yBa=>(show PySem.W.findIn _ _ _=_;k_is))
  (case yCa|yDa|yEa=>(refine' K26.mhy ?a ?i ?l ?c ?k;(case a=>k_is);(case i=>k_is);(case l=>k_is);(case c=>k_is);(case k=>k_is)))
  (case yFa=>(refine ⟨?_,?_,?_,?_,?_,?_,?_,?_⟩ <;> k_is))
  (case yGa|yHa|yIa=>(show PySem.W.findIn _ _ _=_;k_is))
  (case yJa|yKa|yLa=>(refine' K26.mhy ?a ?i ?l ?c ?k;(case a=>k_is);(case i=>k_is);(case l=>k_is);(case c=>k_is);(case k=>k_is)))
  (case yMa=>(refine ⟨?_,?_,?_,?_,?_,?_,?_,?_⟩ <;> k_is))
  (case yNa|yOa=>(show PySem.W.findIn _ _ _=_;k_is))
  (case yPa|yQa|yRa=>(refine' K26.mhy ?a ?i ?l ?c ?k;(case a=>k_is);(case i=>k_is);(case l=>k_is);(case c=>k_is);(case k=>k_is)))
  (case ySa=>(refine ⟨?_,?_,?_,?_,?_,?_,?_,?_⟩ <;> k_is))
  (case yTa|yUa=>(show PySem.W.findIn _ _ _=_;k_is))
  (case yVa|yWa|yXa=>(refine' K26.mhy ?a ?i ?l ?c ?k;(case a=>k_is);(case i=>k_is);(case l=>k_is);(case c=>k_is);(case k=>k_is)))
  (case yYa=>(refine ⟨?_,?_,?_,?_,?_,?_,?_,?_⟩ <;> k_is))
  (case yZa|y0a|y1a=>(show PySem.W.findIn _ _ _=_;k_is))
  (case y2a|y3a|y4a|y5a=>(refine' K26.mhy ?a ?i ?l ?c ?k;(case a=>k_is);(case i=>k_is);(case l=>k_is);(case c=>k_is);(case k=>k_is)))
  (case y6a=>(refine ⟨?_,?_,?_,?_,?_,?_,?_,?_⟩ <;> k_is))
  (case y7a|y8a=>(show PySem.W.findIn _ _ _=_;k_is))
  (case y9a|yab|ybb=>(refine' K26.mhy ?a ?i ?l ?c ?k;(case a=>k_is);(case i=>k_is);(case l=>k_is);(case c=>k_is);(case k=>k_is)))
  (case ycb=>(refine ⟨?_,?_,?_,?_,?_,?_,?_,?_⟩ <;> k_is))
  (case ydb|yeb=>(show PySem.W.findIn _ _ _=_;k_is))
  (case yfb|ygb|yhb|yib=>(refine' K26.mhy ?a ?i ?l ?c ?k;(case a=>k_is);(case i=>k_is);(case l=>k_is);(case c=>k_is);(case k=>k_is)))
  (case wgn|wtk|yjb|ykb|ylb|ymb|ynb|yob|ypb=>k_is)
  (case yqb|yrb|ysb=>k_exc)
  (case ytb|yub|yvb|ywb|yxb|yyb|yzb|yAb|yBb|yCb|yDb|yEb|yFb|yGb|yHb|yIb|yJb|yKb|yLb|yMb|yNb|yOb|yPb|yQb=>kit_is)
