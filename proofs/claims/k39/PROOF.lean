import PyProof.Rows.All
import Wide.All
import OpenK.AllK
import Wide.FinOn
import Lean
import PyProof.EqAt
import PyProof.EqKinds
import PyProof.TupleCall
import PyProof.NeKinds
import PyProof.SumWalkG
import PyProof.Rows.CallKwBuiltin
import PyProof.Rows.FStr
import PyProof.ListRange
import PyProof.ZipIter
import PyProof.CompFree
import KE.KIntText
import PyProof.StrWalks
import PyProof.Rows.StrMul
import PyProof.ConsumeWalk
import Wide.Txt
import PySem.Challenge.RW_beltshares_k39_whole_even_or_a_fault
open PySem.W (instObj methodObj lookIn plainGet hasDictIn findIn handedIn plainGet_of isFn takerIn any_some makesIn emptyDict looks_findIn keepIn specialIn takesIn mroIn fnOf codeIn callWith_K methodCall_KW kitOne kitCls subIn nsIn mg_of kitAny readsIn findCls)
set_option Elab.async false
set_option linter.all false
set_option maxRecDepth 100000
set_option compiler.extract_closed false
set_option bootstrap.genMatcherCode false
set_option hygiene false
local macro_rules | `(tactic| walk_at "p")=>`(tactic| first|exact Or.inl rfl|exact Or.inr rfl|assumption)
local macro_rules | `(tactic| walk_at "q")=>`(tactic| first|exact L2.nobehind _ (by decide) (by decide)|rfl)
set_option hygiene true
open List (nodup_append length_range foldl_append nil_append length_zip all_cons map_drop)
def aa:=@List.getElem?_eq_some_iff
def ac:=@PySem.wpAny_bind
def ae:=@List.length_map
def af:=@List.getElem?_eq_getElem
def ah:=@List.mem_of_getElem?
def ai:=@List.getElem?_map
def aj:=@PySem.Heap.get?_push_of_some
def ak:=@List.mem_singleton
def am:=@Option.map_eq_some_iff
def ao:=@if_neg
def ap:=@PySem.F.plainAttrs_list
def aq:=@if_pos
def ar:=@Nat.le_refl
def au:=@List.size_toArray
def av:=@List.length_append
def aw:=@PySem.wpAny_pure
def ax:=@List.mem_append
def ay:=@List.getD_eq_getElem?_getD
def az:=@PySem.F.type_list_append
def aA:=@PySem.F.slot_list_append
def aB:=@PySem.Heap.lt_size
def aC:=@List.mem_cons
def aD:=@Bool.false_ne_true
def aE:=@List.length_take
def aF:=@List.mem_cons_of_mem
def aG:=@List.take_length
def aH:=@Nat.lt_of_lt_of_le
def aI:=@PySem.Heap.get?_push_size
def aJ:=@List.not_mem_nil
def aK:=@Int.toNat_natCast
def aM:=@List.getElem?_append_right
def aN:=@List.getElem?_set_self
def aO:=@List.take_add_one
def aP:=@Int.emod_lt_of_pos
def aQ:=@Nat.ne_of_lt
def aR:=@Nat.le_trans
def aS:=@List.getElem?_append_left
def aT:=@Option.some.inj
def aU:=@Int.emod_nonneg
def aV:=@PySem.wpAny_mono
def aW:=@List.getElem?_set_ne
def aX:=@List.mem_append_right
def aY:=@or_false
def aZ:=@List.map_append
def a7:=@List.length_set
def a8:=@decide_eq_false
def a9:=@List.append_assoc
def ba:=@Ne.symm
def bb:=@List.mem_map
def bc:=@List.Perm.append_right
def bd:=@Int.natCast_nonneg
def be:=@PySem.wpAny_field
def bh:=@decide_eq_true
def bj:=@beq_eq_false_iff_ne
def bn:=@Int.natAbs_natCast
def bp:=@List.mem_or_eq_of_mem_set
def br:=@List.length_cons
def bt:=@List.mem_cons_self
def bu:=@of_decide_eq_true
def bw:=@List.length_singleton
def bx:=@List.length_replicate
def bz:=@PySem.Heap.get?_update_other
def bA:=@PyProof.Rows.callWith_type1
def bB:=@PySem.Obj.data_mapFields
def bD:=@List.Perm.refl
def bE:=@congrArg
def bF:=@List.getElem?_of_mem
def bH:=@Option.getD_some
def bI:=@List.all_eq_true
def bJ:=@List.map_cons
def bK:=@PySem.wpAny_Call_Name_kw
def bL:=@beq_iff_eq
def bM:=@PySem.mem_of_lookup
def bN:=@List.length_eq_one_iff
def bO:=@PySem.wpAny_newObj_type
def bP:=@List.mem_append_left
def bQ:=@Bool.and_eq_true
def bR:=@Array.getElem?_eq_some_iff
def bS:=@List.Perm.append_left
def bT:=@List.take_zero
def bU:=@PySem.wpAny_seqItems
def bV:=@Nat.le_of_lt
def bW:=@Int.zero_add
def bX:=@Int.le_refl
def bY:=@PySem.Heap.get?_update_self
def bZ:=@PySem.F.type_list_extend
def b5:=@PySem.F.slot_list_extend
def b6:=@List.length_drop
def b7:=@List.getLastD_eq_getLast?
def b8:=@PySem.wpAny_truthy_bool
def b9:=@List.length_eq_zero_iff
def cc:=@List.append_nil
def cf:=@PySem.wpAny_callSpecial?_slot
def cg:=@PySem.Heap.size_push
def ci:=@PySem.wpAny_setField_rec
def cj:=@PySem.wpAny_passesOwn
def ck:=@Nat.zero_le
def cm:=@Int.fdiv_eq_ediv_of_nonneg
def cn:=@PySem.Obj.isFreed_of_fields
def cq:=@Array.length_toList
def cr:=@List.getElem_mem
def cu:=@List.drop_eq_getElem_cons
def cv:=@PySem.F.slot_tuple_iterator_next
def cw:=@List.mem_filter
def cx:=@List.mem_replicate
def cy:=@List.set_eq_of_length_le
def cz:=@Option.bind_eq_some_iff
def cD:=@Bool.and_false
def cE:=@PySem.wpAny_execs_nil
def cF:=@List.lookup_cons
def cG:=@PySem.SeqAt.EqAt.of_refs
def cH:=@PyProof.Rows.slot_tuple_getitem
def cI:=@PySem.F.type_list_pop
def cJ:=@PySem.F.slot_list_pop
def cK:=@List.mem_iff_getElem?
def cM:=@Int.natAbs_dvd_natAbs
def cN:=@Array.getElem?_toList
def cO:=@List.replicate_succ
def cP:=@List.length_reverse
def cQ:=@Nat.lt_irrefl
def cR:=@PySem.SeqAt.RcAt.tuples
def cS:=@Nat.le_succ
def cT:=@List.nodup_cons
def cU:=@List.foldl_cons
def cV:=@List.find?_cons
def cW:=@Int.toNat_of_nonneg
def cX:=@PySem.wpAny_call_entry
def cY:=@Int.le_of_lt
def cZ:=@PySem.Paired.length
def c7:=@Nat.lt_of_le_of_lt
def c8:=@List.pairwise_cons
def c9:=@Bool.false_eq_true
def da:=@List.pairwise_iff_getElem
def db:=@List.getElem?_eq_none_iff
def de:=@List.map_set
def dg:=@decide_eq_true_eq
def dh:=@PySem.codeAny_mono
def di:=@PySem.wpAny_setField
def dk:=@PySem.call_meets
def dm:=@Nat.le_add_right
def dn:=@List.mem_flatMap
def dq:=@Int.natCast_emod
def dC:=@if_true
def dD:=@List.drop_length
def dE:=@Nat.ne_of_gt
def dF:=@Nat.min_eq_left
def dG:=@Bool.eq_iff_iff
def dH:=@PySem.wpAny_holding
def dI:=@PySem.SeqAt.RcAt.lists_lengths
def dJ:=@if_false
def dL:=@List.mem_range
def dM:=@PySem.Around.in1_units
def dN:=@List.length_nil
def dO:=@List.flatten_cons
def dP:=@List.length_pos_iff
def dQ:=@Int.natCast_eq_zero
def dR:=@List.exists_cons_of_ne_nil
def dS:=@PySem.SeqAt.EqAt.same
def dU:=@Nat.add_assoc
def dW:=@PySem.F.slot_zip_next
def dX:=@PySem.W.callWith_K
def dY:=@Int.mul_nonpos_of_nonneg_of_nonpos
def dZ:=@List.any_cons
def d0:=@PySem.wpAny_updateSeq_pair
def d5:=@List.map_nil
def d6:=@List.map_map
def d7:=@Option.some.injEq
def d8:=@Option.isSome_map
def d9:=@Nat.succ_mul
def ee:=@Nat.lt_trichotomy
def eB:=@Nat.lt_trans
def eC:=@Int.gcd_dvd_right
def eD:=@Function.comp_def
def eE:=@List.eraseIdxIfInBounds_toArray
def eF:=@Option.getD_none
def eG:=@Nat.lt_succ_self
def eH:=@PySem.wpAny_onRaise
def eI:=@List.range_succ
def eJ:=@List.take_of_length_le
def eK:=@PySem.W.methodCall_KW
def eM:=@List.ext_getElem?
def eO:=@Option.map_map
def eP:=@Nat.mod_lt
def eQ:=@List.nodup_iff_pairwise_ne
def eR:=@List.take_append_drop
def eT:=@List.perm_append_comm
def eU:=@List.getElem?_zipWith
def eW:=@List.getElem?_eq_none
def eX:=@PySem.F.type_list_reverse
def eY:=@PySem.F.slot_list_reverse
def eZ:=@Nat.eq_of_mul_eq_mul_left
def e6:=@Array.getElem?_eq_getElem
def fe:=@PySem.wpAny_execs_cons
def ff:=@List.flatMap_def
def fh:=@PySem.SeqAt.RcAt.lists
def fi:=@Int.ofNat.inj
def fj:=@Bool.not_true
def fk:=@Bool.and_true
def fm:=@PySem.sizeLine_eq
def fq:=@PySem.seqIndex_of
def fu:=@List.mem_of_mem_take
def fv:=@Nat.le_mul_of_pos_right
def fz:=@List.getElem?_replicate
def fA:=@List.eraseIdx_cons_succ
def fB:=@PySem.W.cellsFrom_some
def fC:=@PyProof.noPylong_small
def fD:=@Nat.min_self
def fE:=@Nat.add_comm
def fF:=@List.drop_eq_nil_of_le
def fG:=@PySem.F.args_tuple_iterator_next_1
def fH:=@List.of_mem_zip
def fK:=@List.map_take
def fM:=@List.length_zipWith
def fN:=@List.forIn_cons
def fO:=@List.flatMap_append
def fP:=@List.filterMap_cons
def fQ:=@List.getElem?_reverse
def fR:=@PySem.F.entry_tuple_iterator_next
def fS:=@PySem.wpAny_call
def fT:=@Nat.pow_lt_pow_right
def fU:=@Nat.mul_le_mul_right
def fV:=@List.mem_of_mem_drop
def fW:=@Int.one_dvd
def fX:=@Decidable.of_not_not
def fY:=@PySem.Calls.Name_function_global
def fZ:=@List.getElem?_drop
def f9:=@PySem.intBits_le_64
def gc:=@PySem.W.pyHash_slot
def gd:=@PySem.W.looks_subIn
def gf:=@PySem.W.callWith_K0
def gg:=@List.toList_toArray
def gi:=@List.getD_cons_zero
def gj:=@List.getD_cons_succ
def gk:=@PySem.wpAny_standAt
def gu:=@PySem.wpAny_comprehension_free
def gv:=@PySem.wpAny_attempt
def gw:=@List.take_succ
def gx:=@List.nodup_nil
def gy:=@PySem.W.any_some
def gz:=@Nat.eq_zero_or_pos
def gA:=@List.set_cons_zero
def gC:=@List.set_cons_succ
def gE:=@List.mem_filterMap
def gF:=@List.getElem?_take
def gG:=@Array.forIn_toList
def gH:=@Array.append_assoc
abbrev A0:=PySem.W.Frag
abbrev A1:=List (Int × Int)
abbrev A3:=List (PySem.Addr × PySem.Obj)
abbrev A4:=PySem.Value->PySem.Shared->Prop
abbrev A5:=PySem.Str->Option PySem.Value
abbrev A6:=PySem.Addr->Prop
abbrev A7:=List Int
abbrev A8:=List PySem.Value
abbrev A9:=List PySem.Str
abbrev Aa:=Option Int
abbrev Ab:=Option PySem.Addr
abbrev Ac:=List PySem.Addr
abbrev Ae:=Array PySem.Value
abbrev Af:=Array (Option PySem.Value)
abbrev Ag:=PySem.Program
abbrev Ah:=Unit->PySem.Shared->Prop
abbrev Ai:=List Bool
abbrev Aj:=List Nat
abbrev Ak:=Option Nat × Option Nat × Nat
abbrev Al:=PySem.Value->PySem.Value->PySem.Sem PySem.Value
abbrev Am:=PySem.Value
abbrev An:=PySem.Shared
abbrev Ao:=PySem.Around
def rcp:Nat->Lean.TSyntax `term->Lean.MacroM (Lean.TSyntax `rcasesPat)
 |0,_=>Lean.Macro.throwUnsupported
 |n+1,t=>match t with
  |`(_)=>`(rcasesPat| _)
  |`($x:ident)=>`(rcasesPat| $x:ident)
  |`(⟨$s,*⟩)=>do let p<-s.getElems.mapM (rcp n);`(rcasesPat| ⟨$[$p],*⟩)
  |_=>Lean.Macro.throwUnsupported
local macro_rules(kind:=Lean.Parser.Tactic.tacticLet__)|x=>do
 let d:=x[2][0]
 if d.getKind !=``Lean.Parser.Term.letPatDecl then Lean.Macro.throwUnsupported
 let p<-rcp 9 ⟨d[0]⟩
 let e:Lean.TSyntax `term:=⟨d[4]⟩
 if d[2].getNumArgs==0 then `(tactic| obtain $p:rcasesPat := $e) else
  let t:Lean.TSyntax `term:=⟨d[2][0][1]⟩
  `(tactic| obtain $p:rcasesPat : $t := $e)
namespace L2
open PySem PySem.Spec PyProof.Rows
variable{A:Ao}{s:An}{K:A0}{p6:A3}{w:World}{P:Ag}{x:Str}{E Q:A4}{u:Am}{us:A8}{k t' i:Nat}{b C:Addr}{M:Model}{mg:A5}{base:Heap}{pos:Pos}{op:CmpOp}{f:Al}{tg:Expr}{fd:FuncData}
abbrev Key:=Sum Int Str
noncomputable def zh1:Key->Value->Bool
 | .inl k,v=>Value.isInt k v
 | .inr x,v=>Value.isStrOf x v
noncomputable def zjV(w:World):Key->Int
 | .inl k=>hashInt k
 | .inr x=>hashStr w x
theorem qI:∀{k:Key}{v:Am},zh1 k v=true->(∃i t,k=Sum.inl i/\v=Value.int i t)\/(∃x t,k=Sum.inr x/\v=Value.str x t)
 | .inl i,v,h=>by
  let⟨t,e⟩:=Value.isInt_shape (k:=i) (v:=v) h;exact .inl ⟨i,t,rfl,e⟩
 | .inr x,v,h=>by
  let⟨t,e⟩:=Value.isStrOf_shape (x:=x) (v:=v) h;exact .inr ⟨x,t,rfl,e⟩
def ziP(a b:Int):decide ((Sum.inl a:Key)=Sum.inl b)=(a == b):=by
 by_cases e:a=b
 .subst e;simp
 .have h:¬(Sum.inl a:Key)=Sum.inl b:=λq=>e (Sum.inl.inj q);rw[a8 h];exact(bj.mpr e).symm
def ziM(a b:Str):decide ((Sum.inr a:Key)=Sum.inr b)=decide (a=b):=by
 by_cases e:a=b
 .subst e;simp
 .have h:¬(Sum.inr a:Key)=Sum.inr b:=λq=>e (Sum.inr.inj q);rw[a8 h,a8 e]
def ziO(a:Int)(b:Str):decide ((Sum.inl a:Key)=Sum.inr b)=false:=a8 (λq=>nomatch q)
def ziN(a:Str)(b:Int):decide ((Sum.inr a:Key)=Sum.inl b)=false:=a8 (λq=>nomatch q)
noncomputable def zar(prog:Ag)(w:World):PySem.KeyKind prog w Key where
 is:=zh1
 hash:=zjV w
 inj:=λv a b ha hb=>by
  rcases qI ha with⟨i,t,rfl,rfl⟩|⟨x,t,rfl,rfl⟩
  .rcases qI hb with⟨j,u,rfl,e⟩|⟨y,u,rfl,e⟩
   .injection e with e1 _;rw[e1]
   .exact nomatch e
  .rcases qI hb with⟨j,u,rfl,e⟩|⟨y,u,rfl,e⟩
   .exact nomatch e
   .injection e with e1 _;rw[e1]
 byValue:=λk v h=>by
  rcases qI h with⟨i,t,rfl,rfl⟩|⟨x,t,rfl,rfl⟩<;>rfl
 pyHash:=λhv h=>by
  rcases qI hv with⟨i,t,rfl,rfl⟩|⟨x,t,rfl,rfl⟩
  .exact wpAny_pyHash_int h
  .exact wpAny_pyHash_str h
 eqBool:=λhu hv h=>by
  rcases qI hu with⟨i,t,rfl,rfl⟩|⟨x,t,rfl,rfl⟩
  .rcases qI hv with⟨j,u,rfl,rfl⟩|⟨y,u,rfl,rfl⟩
   .rw[ziP]at h;exact wpAny_eqBool_int h
   .rw[ziO]at h;exact SeqAt.EqAt.int_str i t y u _ _ _ _ h
  .rcases qI hv with⟨j,u,rfl,rfl⟩|⟨y,u,rfl,rfl⟩
   .rw[ziN]at h;exact SeqAt.EqAt.str_int x t j u _ _ _ _ h
   .rw[ziM]at h;exact wpAny_eqBool_str h
 «strs»:=λk x t v h=>by
  rcases qI h with⟨i,u,rfl,e⟩|⟨y,u,rfl,e⟩
  .exact nomatch e
  .injection e with e1 _
   subst e1;cases v<;>rfl
inductive V where
 |non|bl (b:Bool)|int (i:Int)|str (x:Str)|byt (b:Array UInt8)|flt (b:UInt64)|ref (a:Addr)|ty (n:String)
 deriving DecidableEq
abbrev As:=List (List Key×V)
abbrev Ar:=List (Str×V)
abbrev Aq:=Option V
abbrev Ap:=List V
def RelV:V->Value->Prop
 | .non,u=>u=Value.none
 | .bl b,u=>u=Value.bool b
 | .int i,u=>∃t,u=Value.int i t
 | .str x,u=>∃t,u=Value.str x t
 | .byt b,u=>∃t,u=Value.bytes b t
 | .flt b,u=>∃t,u=Value.float b t
 | .ref a,u=>u=Value.ref a
 | .ty n,u=>u=Value.type n
abbrev Vals:List V->List Value->Prop:=Paired RelV
def Vals.length{xs:Ap}(r:Vals xs us):xs.length=us.length:=cZ r
theorem Vals.get:∀{xs:Ap}{us:A8}{i:Nat}{x:V},Vals xs us->xs[i]?=some x->∃u,us[i]?=some u/\RelV x u
 |_,_,_,_,.nil,e=>by simp at e
 |_,_,0,_,.cons r _,e=>by simp at e;subst e;exact⟨_,rfl,r⟩
 |_,_,i+1,x,.cons _ t,e=>by
  let⟨u,h1,h2⟩:=Vals.get (i:=i) (x:=x) t (by simpa using e);exact⟨u,by simpa using h1,h2⟩
theorem Vals.set{x:V}{u:Am}(r:RelV x u):∀{xs:Ap}{us:A8}(i:Nat),Vals xs us->Vals (xs.set i x) (us.set i u)
 |_,_,_,.nil=>.nil
 |_,_,0,.cons _ t=>.cons r t
 |_,_,i+1,.cons q t=>.cons q (Vals.set r i t)
theorem Vals.append:∀{xs ys:Ap}{us ws:A8},Vals xs us->Vals ys ws->Vals (xs++ys) (us++ws)
 |_,_,_,_,.nil,s=>s
 |_,_,_,_,.cons r t,s=>.cons r (Vals.append t s)
theorem Vals.take:∀{xs:Ap}{us:A8}(n:Nat),Vals xs us->Vals (xs.take n) (us.take n)
 |_,_,0,_=>.nil
 |_,_,_+1,.nil=>.nil
 |_,_,n+1,.cons r t=>.cons r (Vals.take n t)
theorem Vals.drop:∀{xs:Ap}{us:A8}(n:Nat),Vals xs us->Vals (xs.drop n) (us.drop n)
 |_,_,0,r=>r
 |_,_,_+1,.nil=>.nil
 |_,_,n+1,.cons _ t=>Vals.drop n t
def Vals.none_of:∀{xs:Ap}{us:A8}{i:Nat},Vals xs us->xs[i]?=none->us[i]?=none:=λ{xs us i} r e=>by
 have h1:=r.length;have h2:xs.length<=i:=db.mp e;exact db.mpr (by lia)
def RelO:Option V->Option Value->Prop
 |some v,some u=>RelV v u
 |none,none=>True
 |_,_=>False
def KV{κ:Type}:List (κ×V)->List (κ×Value)->Prop:=Paired λ(p:κ×V)(q:κ×Value)=>p.1=q.1/\RelV p.2 q.2
noncomputable def kV:Key->V
 | .inl i=>.int i
 | .inr x=>.str x
inductive HO where
 |lst (xs:Ap)
 |tup (xs:Ap)
 |dK (pi:List (Key×V))|dT (pi:As)
 |set (S:Int->Bool) (n:Nat)
 |ins (C dx:Addr) (fs:Ar)
 |own (x:Addr)
 |xd (fs:Ar)
 |met (f x:Addr)
 |rng (lo hi:Int)
 |frz (o:Obj) (u:HO)
 |tbl (ps:Ae)
 |ext (φ:Heap->Prop)
variable{o:HO}
abbrev Hp:=Addr->Option HO
variable{H:Hp}
noncomputable def upd(H:Hp)(a:Addr)(o:HO):Hp:=λb=>if b=a then some o else H b
def upd_same{a:Addr}:upd H a o a=some o:=by unfold upd;rw[aq rfl]
def pE:=@upd_same
def upd_ne{a b:Addr}(h:b≠a):upd H a o b=H b:=by unfold upd;rw[ao h]
def pF:=@upd_ne
def ZH{a:Addr}{o u:HO}:upd (upd H a o) a u=upd H a u:=by
 funext b;unfold upd;split<;>rfl
def Je{a b:Addr}{o u:HO}(h:H a=some o)(h':H b=some u)(d:o≠u):a≠b:=by
 intro e;subst e;rw[h]at h';exact d (aT h')
def ne_of_none{a b:Addr}(h:H a=some o)(h':H b=none):a≠b:=by
 intro e;subst e;rw[h]at h';cases h'
def pG:=@ne_of_none
section
variable(P:Ag)(w:World)
def ObjOk(H:Hp)(h:Heap)(a:Addr):HO->Prop
 | .lst xs=>xs.length<=sizeLine/\∃(pf:A8)(n:Nat),Vals xs pf/\h.get? a=some {cls:=.type "list",data:=.seq pf.toArray n}
 | .tup xs=>xs.length<=sizeLine/\∃pf:List Value,Vals xs pf/\IsTup h a pf.toArray
 | .dK pi=>pi.length<=sizeLine/\(a == sysModules)=false/\∃vs,KV pi vs/\h.DictOf (zar P w) a vs
 | .dT pi=>pi.length<=sizeLine/\(a == sysModules)=false/\∃xs:List (List Key×Addr×Value),
   Paired (λ(p:List Key×V)(q:List Key×Addr×Value)=>p.1=q.1/\H q.2.1=some (.tup (p.1.map kV))/\RelV p.2 q.2.2) pi xs /\
   ∃o es ep,h.get? a=some o/\o.ExactDict/\o.data=.dict es ep/\es.toList=xs.map (entryOfKey (tupleKind (zar P w)))/\(xs.map (·.1)).Nodup
 | .set S n=>h.SetOf (intKind P w) a S n
 | .ins C dx fs=>H dx=some (.own a)/\fs.length<=1000/\dx≠a/\h.get? a=some (instObj C dx) /\
   ∃mA,h.Ns1 dx mA/\(∀f,RelO (fs.lookup f) (mA f))/\PySem.Within mA (fs.map (·.1))
 | .own _=>∃o,h.get? a=some o
 | .xd fs=>∃mA,h.Ns1 a mA/\∀f,RelO (fs.lookup f) (mA f)
 | .rng lo hi=>∃t u v,h.get? a=some {cls:=.type "range",data:=.fields #[.int lo t,.int hi u,.int 1 v]}
 | .frz o u=>h.get? a=some o/\ObjOk H h a u
 | .tbl ps=>h.get? a=some {cls:=.none,data:=.fields ps}
 | .met f x=>h.get? a=some (methodObj (.ref f) (.ref x))
 | .ext φ=>φ h/\(∃o,h.get? a=some o)/\∀h1 h2:Heap,φ h1->(∀o,h1.get? a=some o->h2.get? a=some o)->φ h2
def HOk(H:Hp)(h:Heap):Prop:=∀a o,H a=some o->ObjOk P w H h a o
end
section
variable{P:Ag}{w:World}{H H':Hp}{h h':Heap}{a:Addr}{o:HO}
def ObjOk.lt(x:ObjOk P w H h a o):a<h.objs.size:=by
 cases o with
 |lst xs=>let⟨_,_,_,_,e⟩:=x;exact aB e
 |tup xs=>let⟨_,_,_,p⟩:=x;exact p.lt
 |dK pi=>let⟨_,_,_,_,o,_,_,e,_⟩:=x;exact aB e
 |dT pi=>let⟨_,_,_,_,o,_,_,e,_⟩:=x;exact aB e
 |set S n=>let⟨o,_,_,_,e,_⟩:=x;exact aB e
 |ins C dx fs=>let⟨_,_,_,e,_⟩:=x;exact aB e
 |own y=>let⟨_,e⟩:=x;exact aB e
 |xd fs=>let⟨_,⟨_,_,_,e,_⟩,_⟩:=x;exact aB e
 |rng lo hi=>let⟨_,_,_,e⟩:=x;exact aB e
 |frz ob u=>let⟨e,_⟩:=x;exact aB e
 |tbl ps=>exact aB (show h.get? a=some _ from x)
 |met f y=>exact aB (show h.get? a=some _ from x)
 |ext φ=>let⟨_,⟨_,e⟩,_⟩:=x;exact aB e
theorem Paired.mapP{α β:Type}{F G:α->β->Prop}:∀{l₁:List α}{l₂:List β},Paired F l₁ l₂->(∀a b,F a b->G a b)->Paired G l₁ l₂
 |_,_,.nil,_=>.nil
 |_,_,.cons r t,f=>.cons (f _ _ r) (Paired.mapP t f)
theorem ObjOk.stay(x:ObjOk P w H h a o)(k:∀b u,(b=a\/H b=some (.own a))->h.get? b=some u->h'.get? b=some u)(ho:∀b,H b=some (.own a)->H' b=some (.own a))(ht:∀b xs,H b=some (.tup xs)->H' b=some (.tup xs)):ObjOk P w H' h' a o:=by
 induction o with
 |lst xs=>let⟨z,pf,n,r,e⟩:=x;exact⟨z,pf,n,r,k _ _ (.inl rfl) e⟩
 |tup xs=>let⟨z,pf,r,ob,e,c⟩:=x;exact⟨z,pf,r,ob,k _ _ (.inl rfl) e,c⟩
 |dK pi=>let⟨z,y,vs,r,ob,es,ep,e,c⟩:=x;exact⟨z,y,vs,r,ob,es,ep,k _ _ (.inl rfl) e,c⟩
 |dT pi =>
  let⟨z,y,xs,r,ob,es,ep,e,c⟩:=x;exact⟨z,y,xs,Paired.mapP r λp q z=>⟨z.1,ht _ _ z.2.1,z.2.2⟩,ob,es,ep,k _ _ (.inl rfl) e,c⟩
 |set S n=>let⟨ob,es,ep,t,e,c⟩:=x;exact⟨ob,es,ep,t,k _ _ (.inl rfl) e,c⟩
 |ins C dx fs =>
  let⟨d,z,ne,e,mA,⟨od,es,ep,e2,c⟩,r⟩:=x;exact⟨ho _ d,z,ne,k _ _ (.inl rfl) e,mA,⟨od,es,ep,k _ _ (.inr d) e2,c⟩,r⟩
 |own y=>let⟨ob,e⟩:=x;exact⟨ob,k _ _ (.inl rfl) e⟩
 |xd fs=>let⟨mA,⟨od,es,ep,e,c⟩,r⟩:=x;exact⟨mA,⟨od,es,ep,k _ _ (.inl rfl) e,c⟩,r⟩
 |rng lo hi=>let⟨t,u,v,e⟩:=x;exact⟨t,u,v,k _ _ (.inl rfl) e⟩
 |frz ob u ih=>let⟨e,q⟩:=x;exact⟨k _ _ (.inl rfl) e,ih q⟩
 |tbl ps =>
  have e:h.get? a=some {cls:=.none,data:=.fields ps}:=x;show h'.get? a=some {cls:=.none,data:=.fields ps}
  exact k a _ (.inl rfl) e
 |met f y =>
  have e:h.get? a=some (methodObj (.ref f) (.ref y)):=x;show h'.get? a=some (methodObj (.ref f) (.ref y))
  exact k a _ (.inl rfl) e
 |ext φ=>let⟨p,⟨o,e⟩,st⟩:=x;exact⟨st _ _ p λo q=>k _ _ (.inl rfl) q,⟨o,k _ _ (.inl rfl) e⟩,st⟩
def HOk.lt(x:HOk P w H h)(e:H a=some o):a<h.objs.size:=(x a o e).lt
def HOk.fresh(x:HOk P w H h)(e:h.objs.size<=a):H a=none:=by
 cases q:H a with
 |none=>rfl
 |some u=>exact absurd (aH (x.lt q) e) (cQ _)
def HOk.kept(x:HOk P w H h)(k:∀b u,h.get? b=some u->h'.get? b=some u):HOk P w H h':=λa o e =>
 (x a o e).stay (λb u _ q=>k b u q) (λ_ q=>q) λ_ _ q=>q
def HOk.laid(x:HOk P w H h)(k:∀b u,h.get? b=some u->h'.get? b=some u)(hp:h.objs.size<=a)(new:ObjOk P w (upd H a o) h' a o):HOk P w (upd H a o) h':=λb u e=>by
 have hn:=x.fresh hp;by_cases hb:b=a
 .subst hb;rw[pE]at e;cases e;exact new
 .rw[pF hb]at e;exact(x b u e).stay (λc v _ q=>k c v q) (λc q=>by rw[pF (pG q hn)];exact q) λc xs q=>by rw[pF (pG q hn)];exact q
end
def Rd(H:Hp)(a:Addr)(u:HO):Prop:=H a=some u\/∃o,H a=some (.frz o u)
def Rd.of{a:Addr}{u:HO}(h:H a=some u):Rd H a u:=.inl h
def Rd.ok{h:Heap}{a:Addr}{u:HO}(r:Rd H a u)(x:HOk P w H h):ObjOk P w H h a u:=by
 rcases r with r|⟨o,r⟩
 .exact x a u r
 .obtain⟨_,q⟩:=x a _ r;exact q
def Mut:Option HO->Prop
 |some (.lst _)=>True
 |some (.dK _)=>True
 |some (.dT _)=>True
 |some (.set _ _)=>True
 |some (.ins _ _ _)=>True
 |some (.ext _)=>True
 |_=>False
section
variable{P:Ag}{w:World}{H:Hp}{h h':Heap}{x e:Addr}{o':HO}
def HOk.write(ok:HOk P w H h)(mu:Mut (H x))(he:e=x\/H e=some (.own x))(k:∀b u,b≠e->h.get? b=some u->h'.get? b=some u)(heo:∃u,h'.get? e=some u)(new:ObjOk P w (upd H x o') h' x o'):HOk P w (upd H x o') h':=λb u q=>by
 have nown:∀c y,H c=some (.own y)->c≠x:=λc y r z=>by subst z;rw[r]at mu;exact mu
 have ntup:∀c xs,H c=some (.tup xs)->c≠x:=λc xs r z=>by subst z;rw[r]at mu;exact mu
 by_cases hb:b=x
 .subst hb;rw[pE]at q;cases q;exact new
 .rw[pF hb]at q;by_cases hbe:b=e
  .have q':H b=some (.own x):=by
    rcases he with z|z
    .exact absurd (hbe.trans z) hb
    .rw[hbe];exact z
   rw[q]at q';cases q';let⟨v,hv⟩:=heo;exact⟨v,by rw[hbe];exact hv⟩
  .refine(ok b u q).stay (λc v hc r=>k c v ?_ r) (λc r=>by rw[pF (nown c b r)];exact r) λc xs r=>by rw[pF (ntup c xs r)];exact r
   rcases hc with rfl|hc
   .exact hbe
   .rintro rfl;rcases he with z|z
    .exact nown c b hc z
    .rw[hc]at z;cases z;exact hb rfl
end
structure Un(fs ex:Ac)(H H':Hp)(h h':Heap):Prop where
 keep:∀b o,h.get? b=some o->H b=none->b∉fs->b∉ex->h'.get? b=some o
 slot:∀b o,h.get? b=some o->H b=none->b∈fs->b∉ex->∃sl,h'.get? b=some {o with slots:=sl}
 free:∀b o,h.get? b=some o->H b=none->b∉ex->H' b=none
 there:∀b o,h.get? b=some o->b∉ex->∃o',h'.get? b=some o'
 tups:∀b xs,H b=some (.tup xs)->H' b=some (.tup xs)
 frzs:∀b o u,H b=some (.frz o u)->H' b=some (.frz o u)
 tbls:∀b ps,H b=some (.tbl ps)->∃more,H' b=some (.tbl (ps++more))
section
variable{fs fs' ex ex':Ac}{H H1 H2:Hp}{h h1 h2 h':Heap}{a x e:Addr}{o:HO}
def Un.any(u:Un fs ex H H1 h h1){ob:Obj}(q:h.get? b=some ob)(n:H b=none)(hx:b∉ex):∃sl,h1.get? b=some {ob with slots:=sl}:=by
 by_cases hb:b∈fs
 .exact u.slot b ob q n hb hx
 .exact⟨ob.slots,u.keep b ob q n hb hx⟩
def Un.trans(a:Un fs ex H H1 h h1)(b:Un fs ex H1 H2 h1 h2):Un fs ex H H2 h h2 where
 keep:=λc ob q n hc hx=>b.keep c ob (a.keep c ob q n hc hx) (a.free c ob q n hx) hc hx
 slot:=λc ob q n hc hx=>by
  let⟨sl,e1⟩:=a.slot c ob q n hc hx;let⟨sl',e2⟩:=b.slot c _ e1 (a.free c ob q n hx) hc hx;exact⟨sl',e2⟩
 free:=λc ob q n hx=>by
  let⟨o',e1⟩:=a.there c ob q hx;exact b.free c o' e1 (a.free c ob q n hx) hx
 there:=λc ob q hx=>by
  let⟨o',e1⟩:=a.there c ob q hx;exact b.there c o' e1 hx
 tups:=λc xs q=>b.tups c xs (a.tups c xs q)
 frzs:=λc ob xs q=>b.frzs c ob xs (a.frzs c ob xs q)
 tbls:=λc ps q=>by
  let⟨m1,e1⟩:=a.tbls c ps q;let⟨m2,e2⟩:=b.tbls c _ e1;exact⟨m1++m2,by rw[e2,gH]⟩
def Un.kept(k:∀b u,h.get? b=some u->h'.get? b=some u):Un fs ex H H h h' :=
 ⟨λb ob q _ _ _=>k b ob q,λb ob q _ _ _=>⟨ob.slots,k b ob q⟩,λ_ _ _ n _=>n,λb ob q _=>⟨ob,k b ob q⟩,λ_ _ q=>q,λ_ _ _ q=>q,λ_ ps q=>⟨#[],by rw[q];simp⟩⟩
def Un.refl:Un fs ex H H h h:=Un.kept λ_ _ q=>q
def Un.laid(k:∀b u,h.get? b=some u->h'.get? b=some u)(hp:h.objs.size<=a)(hn:H a=none):Un fs ex H (upd H a o) h h' where
 keep:=λb u q _ _ _=>k b u q
 slot:=λb u q _ _ _=>⟨u.slots,k b u q⟩
 free:=λb u q n _=>by rw[pF (aQ (aH (aB q) hp))];exact n
 there:=λb u q _=>⟨u,k b u q⟩
 tups:=λb xs q=>by rw[pF (pG q hn)];exact q
 frzs:=λb u xs q=>by rw[pF (pG q hn)];exact q
 tbls:=λb ps q=>⟨#[],by rw[pF (pG q hn),q];simp⟩
def Un.write(mu:Mut (H x))(he:e=x\/H e=some (.own x))(k:∀b u,b≠e->h.get? b=some u->h'.get? b=some u)(heo:∃u,h'.get? e=some u):Un fs ex H (upd H x o) h h':=by
 have hx:∀b,H b=none->b≠x:=λb n z=>by subst z;rw[n]at mu;exact mu
 have hb:∀b,H b=none->b≠e:=λb n z=>by
  subst z;rcases he with r|r
  .exact hx b n r
  .rw[n]at r;cases r
 have hm:∀b u,H b=some u->¬Mut (some u)->b≠x:=λb u q nm z=>by subst z;rw[q]at mu;exact nm mu
 refine⟨λb u q n _ _=>k b u (hb b n) q,λb u q n _ _=>⟨u.slots,k b u (hb b n) q⟩,λb u q n _=>by rw[pF (hx b n)];exact n,λb u q _=>?_,
  λb xs q=>by rw[pF (hm b _ q λz=>z)];exact q,λb u xs q=>by rw[pF (hm b _ q λz=>z)];exact q,λb ps q=>⟨#[],by rw[pF (hm b _ q λz=>z),q];simp⟩⟩
 by_cases hbe:b=e
 .subst hbe;exact heo
 .exact⟨u,k b u hbe q⟩
def Un.mono(u:Un fs ex H H1 h h1)(hs:∀b∈fs,b∈fs')(hx:∀b∈ex,b∈ex'):Un fs' ex' H H1 h h1 :=
 ⟨λb ob q n hb he=>u.keep b ob q n (λz=>hb (hs b z)) λz=>he (hx b z),λ_ _ q n _ he=>u.any q n λz=>he (hx _ z),λb ob q n he=>u.free b ob q n λz=>he (hx b z),λb ob q he=>u.there b ob q λz=>he (hx b z),u.tups,u.frzs,u.tbls⟩
end
noncomputable def trk(h:Heap)(H:Hp):List Addr:=(List.range h.objs.size).filter λa=>(H a).isSome
noncomputable def zaz(h:Heap)(H:Hp):Heap:=PySem.W.hideAll h (trk h H)
def zeF(h:Heap)(H:Hp):(zaz h H).objs.size=h.objs.size:=PySem.W.hideAll_size _ _
def zgh{h:Heap}{o:Obj}(e:h.get? b=some o)(n:H b=none):(zaz h H).get? b=some o :=
 PySem.W.hideAll_get _ e λhm=>by
  have q:(H b).isSome=true:=(cw.mp hm).2;rw[n]at q;simp at q
def zhf{h:Heap}{o:Obj}(e:(zaz h H).get? b=some o):h.get? b=some o/\H b=none:=by
 have e':h.get? b=some o:=PySem.W.of_hideAll (trk h H) e;refine⟨e',?_⟩;cases q:H b with
 |none=>rfl
 |some x =>
  have hm:b∈trk h H:=cw.mpr ⟨dL.mpr (aB e'),by simp[q]⟩;have z:(zaz h H).get? b=none:=PySem.W.hideAll_none (trk h H) hm;rw[z]at e;cases e
noncomputable def zhF(g h:Heap)(L:Addr):List (Addr×Obj):=(List.range h.objs.size).filterMap λa=>if a=L\/(g.get? a).isSome=true then none else(h.get? a).map λo=>(a,o)
noncomputable def rest(g h:Heap)(L d:Addr):List (Addr×Obj):=(zhF g h L).filter λp=>decide (p.1≠d)
structure Mod(K:A0)(mg:A5)(base:Heap):Prop where
 kin:K.In base
 glob:base.Ns mainGlobals mg
 blt:∃mb,base.Ns builtinsNs mb/\∀x:Str,x≠"__name__"->mb x=bootBuiltins x
 nolimit:base.NoLimit
structure Cx where
 prog:Program
 w:World
 K:PySem.W.Frag
 mg:Str->Option Value
 base:Heap
 A:Around
 N:List Str
 s₀:Shared
 H₀:Hp
 env:Env
 outer:List Env
 stack:List Env
 ex:List Addr
 fn:Str->Bool
 calm:Bool
 pn:List (Addr×Obj)
 xe:Value->Shared->Prop
variable{X:Cx}
noncomputable def frs(l:List Env):List Addr:=l.filterMap (·.frame)
noncomputable abbrev Cx.fs(X:Cx):List Addr:=frs X.outer
def Vis(sc:Scope)(x:Str):Prop:=sc.names.lookup x=some .local\/sc.names.lookup x=some .cell\/sc.names.lookup x=some .free
def Loc(sc:Scope)(x:Str):Prop:=sc.names.lookup x=some .local\/sc.names.lookup x=some .cell
def zjY(env:Env)(h:Heap)(m:A5)(x:Str)(u:Am):Prop :=
 (env.kindOf x=some .local/\m x=some u)\/((env.kindOf x=some .cell\/env.kindOf x=some .free)/\∃c,env.cells.lookup x=some c/\h.IsCell c (some u))
structure Cx.Ok(X:Cx):Prop where
 mod:Mod X.K X.mg X.base
 kind:X.env.scope.kind=.function
 glob:X.env.globals=mainGlobals
 blt:X.env.builtins=builtinsNs
 above:X.s₀.heap.objs.size<=X.env.locals
 inj:∀x y c,X.env.cells.lookup x=some c->X.env.cells.lookup y=some c->x=y
 has:∀x,(X.env.kindOf x=some .cell\/X.env.kindOf x=some .free)->∃c,X.env.cells.lookup x=some c
 cab:∀x c,X.fn x=true->X.env.cells.lookup x=some c->X.s₀.heap.objs.size<=c
 hd:X.calm=true->X.A.handled=none
 frames:X.A.frames=some X.stack
 stk:X.stack=X.outer\/(X.stack=X.env::X.outer/\X.env.frame=some X.env.locals)
 exf:∀b∈X.ex,b≠X.env.locals/\∀x c,X.env.cells.lookup x=some c->c≠b
 bs:∀b o,X.base.get? b=some o->X.s₀.heap.get? b=some o/\X.H₀ b=none
 bsz:X.base.objs.size<=X.s₀.heap.objs.size
 noex:∀b o,X.base.get? b=some o->b∉X.ex
 exfs:∀b∈X.ex,b∉X.fs
 funs:X.s₀.heap.FunFrames X.base X.outer
 frf:∀b∈X.fs,X.H₀ b=none
structure Inv(X:Cx)(p6:A3)(σ:List Aq)(H:Hp)(s:An):Prop where
 ok:X.Ok
 os:s.os=X.s₀.os
 bare:AllBare s.gens
 base:Un X.fs X.ex X.H₀ H X.s₀.heap s.heap
 loc:∃m,s.heap.Ns X.env.locals m/\∀(i:Nat)(x:Str)(v:V),X.N[i]?=some x->σ[i]?=some (some v)->Vis X.env.scope x->∃u,RelV v u/\zjY X.env s.heap m x u
 cell:∀x c,X.env.cells.lookup x=some c->∃v,s.heap.IsCell c v
 free:H X.env.locals=none
 freeC:∀x c,X.env.cells.lookup x=some c->H c=none
 pin:∀p∈X.pn++p6,s.heap.get? p.1=some p.2/\H p.1=none/\p.1≠X.env.locals/\p.1∉X.fs/\∀v,p.2.data≠.cell v
 hok:HOk X.prog X.w H s.heap
 len:σ.length=X.N.length
section
variable{X:Cx}{p6:A3}{σ:List Aq}{H H':Hp}{s:An}{h':Heap}
def Cx.Ok.nofr(ok:X.Ok){o:Obj}(e:X.base.get? b=some o):b∉X.fs:=λhb=>by
 have:=(ok.funs.mem hb).1;rw[e]at this;cases this
def Inv.bs(I:Inv X p6 σ H s):∀b o,X.base.get? b=some o->s.heap.get? b=some o/\H b=none:=λb o e =>
 ⟨I.base.keep b o (I.ok.bs b o e).1 (I.ok.bs b o e).2 (I.ok.nofr e) (I.ok.noex b o e),I.base.free b o (I.ok.bs b o e).1 (I.ok.bs b o e).2 (I.ok.noex b o e)⟩
def Inv.bk(I:Inv X p6 σ H s):∀b o,X.base.get? b=some o->s.heap.get? b=some o:=λb o e=>(I.bs b o e).1
def Inv.mod(I:Inv X p6 σ H s):Mod X.K X.mg X.base:=I.ok.mod
def Inv.kIn(I:Inv X p6 σ H s):X.K.In s.heap:=I.ok.mod.kin.keeps I.bk
def Inv.nolimit(I:Inv X p6 σ H s):s.heap.NoLimit:=I.ok.mod.nolimit.keeps I.bk
def Inv.fr(I:Inv X p6 σ H s):∃m,Fr X.base X.env.locals s.heap m :=
 let⟨m,hn,_⟩:=I.loc
 ⟨m,hn,I.bk,aR I.ok.bsz I.ok.above⟩
def Inv.lt(I:Inv X p6 σ H s):X.env.locals<s.heap.objs.size:=by
 let⟨_,hn,_⟩:=I.loc;exact hn.lt
def Inv.sz(I:Inv X p6 σ H s):X.s₀.heap.objs.size<=s.heap.objs.size:=aR I.ok.above (bV I.lt)
def Inv.nofs(I:Inv X p6 σ H s){a:Addr}(h:s.heap.objs.size<=a):a∉X.fs:=λhb=>by
 let⟨_,o,ho,_⟩:=I.ok.funs.mem hb;exact absurd (aH (aB ho) (aR I.sz h)) (cQ _)
def Inv.cne(I:Inv X p6 σ H s):∀x c,X.env.cells.lookup x=some c->c≠X.env.locals:=λx c e z=>by
 let⟨v,o,ho,hd⟩:=I.cell x c e;let⟨m,⟨o',es,ep,ho',hd',_⟩,_⟩:=I.loc;rw[z,ho']at ho;cases ho;rw[hd']at hd;cases hd
def Inv.funs(I:Inv X p6 σ H s):s.heap.FunFrames X.base X.outer:=by
 have all:∀(l:List Env),(∀b∈frs l,b∈X.fs)->X.s₀.heap.FunFrames X.base l->s.heap.FunFrames X.base l:=by
  intro l
  induction l with
  |nil=>intro _ _;trivial
  |cons env r ih =>
   intro hs hl;let⟨hk,⟨L,o,hf,hn,ho,hd⟩,hr⟩:=hl;have hL:L∈X.fs:=hs L (by unfold frs;rw[fP,hf];exact bt);let⟨sl,e⟩:=I.base.slot L o ho (I.ok.frf L hL) hL λz=>I.ok.exfs L z hL;exact⟨hk,⟨L,_,hf,hn,e,hd⟩,ih (λb hb=>hs b (by unfold frs;rw[fP,hf];exact aF _ hb)) hr⟩
 exact all X.outer (λ_ hb=>hb) I.ok.funs
def Inv.stack(I:Inv X p6 σ H s):s.heap.FunFrames X.base X.stack:=by
 rcases I.ok.stk with e|⟨e,hf⟩
 .rw[e];exact I.funs
 .rw[e];let⟨m,hn,_⟩:=I.loc;refine .cons (by rw[I.ok.kind];decide) hf hn ?_ I.funs;exact Heap.get?_none_of_le (aR I.ok.bsz I.ok.above)
def Inv.stkSub(I:Inv X p6 σ H s):∀b∈frs X.stack,b∈X.env.locals::X.fs:=λb hb=>by
 rcases I.ok.stk with e|⟨e,hf⟩
 .rw[e]at hb;exact aF _ hb
 .rw[e]at hb;unfold frs at hb;rw[fP,hf]at hb;exact hb
def Inv.stkFree(I:Inv X p6 σ H s):∀b∈frs X.stack,H b=none:=λb hb=>by
 rcases aC.mp (I.stkSub b hb)with e|hb
 .rw[e];exact I.free
 .obtain⟨_,o,ho,_⟩:=I.ok.funs.mem hb;exact I.base.free b o ho (I.ok.frf b hb) λz=>I.ok.exfs b z hb
def Inv.step{g':Array GenState}{d':Drawn}{ch:Ac}(I:Inv X p6 σ H s)(hch:∀b∈ch,(b∈X.ex\/X.s₀.heap.objs.size<=b)/\b≠X.env.locals/\(∀x c,X.env.cells.lookup x=some c->c≠b)/\∀p∈X.pn++p6,p.1≠b)(keep:∀b o,b≠X.env.locals->b∉X.fs->b∉ch->s.heap.get? b=some o->H b=none->h'.get? b=some o)(slot:∀b o,b≠X.env.locals->b∈X.fs->b∉ch->s.heap.get? b=some o->H b=none->∃sl,h'.get? b=some {o with slots:=sl})(free:∀b o,b∉ch->s.heap.get? b=some o->H b=none->H' b=none)(there:∀b o,b∉ch->s.heap.get? b=some o->∃o',h'.get? b=some o')(tups:∀b xs,H b=some (.tup xs)->H' b=some (.tup xs))(frzs:∀b o u,H b=some (.frz o u)->H' b=some (.frz o u))(tbls:∀b ps,H b=some (.tbl ps)->∃more,H' b=some (.tbl (ps++more)))(ns:∀m,s.heap.Ns X.env.locals m->h'.Ns X.env.locals m)(hok:HOk X.prog X.w H' h')(hg:AllBare g') :
  Inv X p6 σ H' {s with heap:=h',gens:=g',drawn:=d',toks:=t'}:=by
 have neL:∀b o,X.s₀.heap.get? b=some o->b≠X.env.locals:=λb o e=>aQ (aH (aB e) I.ok.above);have neC:∀b o,X.s₀.heap.get? b=some o->b∉X.ex->b∉ch:=λb o e hx hb=>by
  rcases(hch b hb).1 with z|z
  .exact hx z
  .exact absurd (aH (aB e) z) (cQ _)
 have cellK:∀x c,X.env.cells.lookup x=some c->∀v,s.heap.IsCell c v->h'.IsCell c v:=λx c e v ⟨o,ho,hd⟩=>by
  have nch:c∉ch:=λz=>(hch c z).2.2.1 x c e rfl;by_cases hc:c∈X.fs
  .obtain⟨sl,q⟩:=slot c o (I.cne x c e) hc nch ho (I.freeC x c e);exact⟨_,q,hd⟩
  .exact⟨o,keep c o (I.cne x c e) hc nch ho (I.freeC x c e),hd⟩
 refine⟨I.ok,I.os,hg,⟨λb o e n hb hx=>?_,λb o e n hb hx=>?_,λb o e n hx=>?_,λb o e hx=>?_,λb xs e=>tups b xs (I.base.tups b xs e),λb o xs e=>frzs b o xs (I.base.frzs b o xs e),λb ps e=>?_⟩,?_,λx c e=>?_,?_,λx c e=>?_,λp hp=>?_,hok,I.len⟩
 .exact keep b o (neL b o e) hb (neC b o e hx) (I.base.keep b o e n hb hx) (I.base.free b o e n hx)
 .obtain⟨sl,e1⟩:=I.base.slot b o e n hb hx;let⟨sl',e2⟩:=slot b _ (neL b o e) hb (neC b o e hx) e1 (I.base.free b o e n hx);exact⟨sl',e2⟩
 .obtain⟨o',e1⟩:=I.base.there b o e hx;exact free b o' (neC b o e hx) e1 (I.base.free b o e n hx)
 .obtain⟨o',e1⟩:=I.base.there b o e hx;exact there b o' (neC b o e hx) e1
 .obtain⟨m1,e1⟩:=I.base.tbls b ps e;let⟨m2,e2⟩:=tbls b _ e1;exact⟨m1++m2,by rw[e2,gH]⟩
 .obtain⟨m,hn,hl⟩:=I.loc;refine⟨m,ns m hn,λi x v e1 e2 e3=>?_⟩;let⟨u,r,l⟩:=hl i x v e1 e2 e3;refine⟨u,r,?_⟩;rcases l with l|⟨k,c,e,z⟩
  .exact .inl l
  .exact .inr ⟨k,c,e,cellK x c e _ z⟩
 .obtain⟨v,z⟩:=I.cell x c e;exact⟨v,cellK x c e v z⟩
 .obtain⟨m,⟨o,_,_,ho,_⟩,_⟩:=I.loc;exact free _ o (λz=>(hch _ z).2.1 rfl) ho I.free
 .obtain⟨v,o,ho,hd⟩:=I.cell x c e;exact free c o (λz=>(hch c z).2.2.1 x c e rfl) ho (I.freeC x c e)
 .obtain⟨e,n,ne,nf,d⟩:=I.pin p hp;have nch:p.1∉ch:=λz=>(hch p.1 z).2.2.2 p hp rfl;exact⟨keep p.1 p.2 ne nf nch e n,free p.1 p.2 nch e n,ne,nf,d⟩
def Inv.un(I:Inv X p6 σ H s)(u:Un X.fs [] H H' s.heap h')(hok:HOk X.prog X.w H' h'):Inv X p6 σ H' {s with heap:=h',toks:=t'}:=by
 let⟨m,⟨o,es,ep,ho,r⟩,_⟩:=id I.loc;let⟨sl,hL⟩:=u.any ho I.free (by simp);exact I.step (g':=s.gens) (d':=s.drawn) (ch:=[]) (λ_ z=>nomatch z) (λb o _ hb _ e n=>u.keep b o e n hb (by simp)) (λb o _ hb _ e n=>u.slot b o e n hb (by simp)) (λb o _ e n=>u.free b o e n (by simp)) (λb o _ e=>u.there b o e (by simp)) u.tups u.frzs u.tbls (λm' hm=>by
  let⟨o',es',ep',ho',r'⟩:=hm;rw[ho]at ho';cases ho';exact⟨_,es',ep',hL,r'⟩) hok I.bare
def Inv.call{g':Array GenState}{d':Drawn}{ch:Ac}(I:Inv X p6 σ H s)(u:Un (frs X.stack) ch H H' s.heap h')(hok:HOk X.prog X.w H' h')(hg:AllBare g')(hch:∀b∈ch,(b∈X.ex\/X.s₀.heap.objs.size<=b)/\b≠X.env.locals/\(∀x c,X.env.cells.lookup x=some c->c≠b)/\∀p∈X.pn++p6,p.1≠b) :
  Inv X p6 σ H' {s with heap:=h',gens:=g',drawn:=d',toks:=t'}:=by
 let⟨m,⟨o,es,ep,ho,r⟩,_⟩:=id I.loc;let⟨sl,hL⟩:=u.any ho I.free λz=>(hch _ z).2.1 rfl;exact I.step (ch:=ch) hch (λb o hL hb hc e n=>u.keep b o e n (λz=>(aC.mp (I.stkSub b z)).elim hL hb) hc) (λb o _ _ hc e n=>u.any e n hc) (λb o hc e n=>u.free b o e n hc) (λb o hc e=>u.there b o e hc) u.tups u.frzs u.tbls (λm' hm=>by
  let⟨o',es',ep',ho',r'⟩:=hm;rw[ho]at ho';cases ho';exact⟨_,es',ep',hL,r'⟩) hok hg
def Inv.turned{it:Addr}(I:Inv X p6 σ H s)(k:∀b o,b≠it->s.heap.get? b=some o->h'.get? b=some o)(hn:H it=none)(hL:it≠X.env.locals)(h1:it∈X.ex\/X.s₀.heap.objs.size<=it)(h2:∀x c,X.env.cells.lookup x=some c->c≠it)(h3:∀p∈X.pn++p6,p.1≠it):Inv X p6 σ H {s with heap:=h',toks:=t'}:=by
 have nit:∀b u,H b=some u->b≠it:=λb u e z=>by rw[z,hn]at e;cases e
 refine I.step (g':=s.gens) (d':=s.drawn) (ch:=[it]) (λb hb=>?_) (λb o _ _ hc e _=>k b o (λz=>hc (by simp[z])) e) (λb o _ _ hc e _=>⟨o.slots,k b o (λz=>hc (by simp[z])) e⟩) (λ_ _ _ _ n=>n)
  (λb o hc e=>⟨o,k b o (λz=>hc (by simp[z])) e⟩) (λ_ _ e=>e) (λ_ _ _ e=>e) (λb ps e=>⟨#[],by rw[e];simp⟩) (λm hm=>?_) (λb u e=>?_) I.bare
 .have e:b=it:=by simpa using hb
  subst e;exact⟨h1,hL,h2,h3⟩
 .obtain⟨o,es,ep,ho,r⟩:=hm;exact⟨o,es,ep,k _ o (ba hL) ho,r⟩
 .refine(I.hok b u e).stay (λc v hc q=>k c v ?_ q) (λ_ q=>q) λ_ _ q=>q;rcases hc with z|z
  .rw[z];exact nit b u e
  .exact nit c _ z
def Inv.tok(I:Inv X p6 σ H s)(t:Nat):Inv X p6 σ H {s with toks:=t}:=I.un (h':=s.heap) (t':=t) Un.refl I.hok
def Inv.kept(I:Inv X p6 σ H s)(k:∀b u,s.heap.get? b=some u->h'.get? b=some u):Inv X p6 σ H {s with heap:=h',toks:=t'}:=I.un (Un.kept k) (I.hok.kept k)
def Inv.laid{a:Addr}(I:Inv X p6 σ H s)(k:∀b u,s.heap.get? b=some u->h'.get? b=some u)(hp:s.heap.objs.size<=a)(new:ObjOk X.prog X.w (upd H a o) h' a o) :
  Inv X p6 σ (upd H a o) {s with heap:=h',toks:=t'}:=I.un (Un.laid k hp (I.hok.fresh hp)) (I.hok.laid k hp new)
def Inv.write{x e:Addr}(I:Inv X p6 σ H s)(mu:Mut (H x))(he:e=x\/H e=some (.own x))(k:∀b u,b≠e->s.heap.get? b=some u->h'.get? b=some u)(heo:∃u,h'.get? e=some u)(new:ObjOk X.prog X.w (upd H x o) h' x o):Inv X p6 σ (upd H x o) {s with heap:=h',toks:=t'}:=I.un (Un.write mu he k heo) (I.hok.write mu he k heo new)
def Inv.pins_of{pins':A3}(I:Inv X p6 σ H s)(h:∀p∈pins',s.heap.get? p.1=some p.2/\H p.1=none/\p.1≠X.env.locals/\p.1∉X.fs/\∀v,p.2.data≠.cell v):Inv X pins' σ H s :=
 ⟨I.ok,I.os,I.bare,I.base,I.loc,I.cell,I.free,I.freeC,λp hp=>(ax.mp hp).elim (λz=>I.pin p (bP _ z)) (h p),I.hok,I.len⟩
def XM{N:A9}(hN:N.Nodup){i j:Nat}(a:N[i]?=some x)(b:N[j]?=some x):i=j:=by
 let⟨h1,e1⟩:=aa.mp a;let⟨h2,e2⟩:=aa.mp b;exact(List.getElem_inj hN).mp (e1.trans e2.symm)
def WR{v:V}{Q:Ah}(I:Inv X p6 σ H s)(hN:X.N.Nodup)(hi:X.N[i]?=some x)(hx:Loc X.env.scope x)(r:RelV v u)(h:∀s',Inv X p6 (σ.set i (some v)) H s'->(∃a,Heap.SameBut a s.heap s'.heap/\(a=X.env.locals\/X.env.cells.lookup x=some a))->Q () s')(hf:X.fn x=true\/X.env.scope.names.lookup x=some .local:=by walk_at"p"):wpAny M A (storeName X.env x u) Q E s:=by
 let⟨m,hn,hl⟩:=id I.loc;have hcls:(X.env.scope.kind == .class||(X.env.scope.kind == .module&&X.env.locals != X.env.globals))=false:=by rw[I.ok.kind];rfl
 have hiσ:i<σ.length:=by rw[I.len];exact(aa.mp hi).1
 have cne:=I.cne;have tracked:∀{a:Addr}{h':Heap},(∃o,s.heap.get? a=some o/\H a=none)->Heap.SameBut a s.heap h'->HOk X.prog X.w H h':=λ{a h'} ha hs b ob e=>by
  let⟨_,_,hfree⟩:=ha;refine(I.hok b ob e).stay (λc w' hc q=>(hs.2 c ?_).trans q) (λ_ q=>q) λ_ _ q=>q;rintro rfl;rcases hc with rfl|hc
  .rw[hfree]at e;cases e
  .rw[hfree]at hc;cases hc
 rcases hx with hk|hk
 .refine wpAny_storeName_local hk hn (λh' hn' hs=>?_) hcls;let⟨oL,_,_,hoL,_⟩:=id hn;refine h _ ⟨I.ok,I.os,I.bare,⟨λb o e n hb hx=>?_,λb o e n hb hx=>?_,I.base.free,λb o e hx=>?_,I.base.tups,I.base.frzs,I.base.tbls⟩,⟨_,hn',λj y v' e1 e2 e3=>?_⟩,λy c e=>?_,I.free,I.freeC,λp hp=>?_,tracked ⟨oL,hoL,I.free⟩ hs,by simpa using I.len⟩ ⟨_,hs,.inl rfl⟩
  .exact(hs.2 b (aQ (aH (aB e) I.ok.above))).trans (I.base.keep b o e n hb hx)
  .obtain⟨sl,e1⟩:=I.base.slot b o e n hb hx;exact⟨sl,(hs.2 b (aQ (aH (aB e) I.ok.above))).trans e1⟩
  .obtain⟨o',e1⟩:=I.base.there b o e hx;exact⟨o',(hs.2 b (aQ (aH (aB e) I.ok.above))).trans e1⟩
  .by_cases hj:j=i
   .subst hj;rw[hi]at e1;cases e1;rw[aN hiσ]at e2;cases e2;exact⟨u,r,.inl ⟨hk,by simp⟩⟩
   .rw[aW (ba hj)]at e2;let⟨u',r',q⟩:=hl j y v' e1 e2 e3;refine⟨u',r',?_⟩;rcases q with⟨k,e⟩|⟨k,c,e,z⟩
    .refine .inl ⟨k,?_⟩;have:y≠x:=λe=>hj (XM hN e1 (e ▸ hi));simp[this,e]
    .exact .inr ⟨k,c,e,z.sameBut hs (cne y c e)⟩
  .obtain⟨w',z⟩:=I.cell y c e;exact⟨w',z.sameBut hs (cne y c e)⟩
  .obtain⟨e,n,ne,nf,d⟩:=I.pin p hp;exact⟨(hs.2 p.1 ne).trans e,n,ne,nf,d⟩
 .have hfn:X.fn x=true:=by
   rcases hf with z|z
   .exact z
   .rw[z]at hk;cases hk
  let⟨c,hc⟩:=I.ok.has x (.inl hk);let⟨w',z⟩:=I.cell x c hc;refine wpAny_storeName_cell I.ok.kind hk hc z (λh' hc' hs=>?_);let⟨oc,hoc,hocd⟩:=id z;refine h {s with heap:=h'} ⟨I.ok,I.os,I.bare,⟨λb o e n hb hx=>?_,λb o e n hb hx=>?_,I.base.free,λb o e hx=>?_,I.base.tups,I.base.frzs,I.base.tbls⟩,⟨m,hn.sameBut hs (ba (cne x c hc)),λj y v' e1 e2 e3=>?_⟩,λy c' e=>?_,I.free,I.freeC,λp hp=>?_,tracked ⟨oc,hoc,I.freeC x c hc⟩ hs,by simpa using I.len⟩ ⟨c,hs,.inr hc⟩
  .exact(hs.2 b (aQ (aH (aB e) (I.ok.cab x c hfn hc)))).trans (I.base.keep b o e n hb hx)
  .obtain⟨sl,e1⟩:=I.base.slot b o e n hb hx;exact⟨sl,(hs.2 b (aQ (aH (aB e) (I.ok.cab x c hfn hc)))).trans e1⟩
  .obtain⟨o',e1⟩:=I.base.there b o e hx;exact⟨o',(hs.2 b (aQ (aH (aB e) (I.ok.cab x c hfn hc)))).trans e1⟩
  .by_cases hj:j=i
   .subst hj;rw[hi]at e1;cases e1;rw[aN hiσ]at e2;cases e2;exact⟨u,r,.inr ⟨.inl hk,c,hc,hc'⟩⟩
   .rw[aW (ba hj)]at e2;let⟨u',r',q⟩:=hl j y v' e1 e2 e3;refine⟨u',r',?_⟩;rcases q with q|⟨k,c',e,z'⟩
    .exact .inl q
    .refine .inr ⟨k,c',e,z'.sameBut hs ?_⟩;rintro rfl;exact hj (XM hN e1 (I.ok.inj _ _ _ e hc ▸ hi))
  .by_cases hcc:c'=c
   .subst hcc;exact⟨_,hc'⟩
   .obtain⟨w2,z2⟩:=I.cell y c' e;exact⟨w2,z2.sameBut hs hcc⟩
  .obtain⟨e,n,ne,nf,d⟩:=I.pin p hp;refine⟨(hs.2 p.1 ?_).trans e,n,ne,nf,d⟩;intro q;rw[q,hoc]at e;have q':oc=p.2:=aT e;exact d w' (by rw[<- q'];exact hocd)
def ZI{v:V}{Q:Ah}(I:Inv X p6 σ H s)(hN:X.N.Nodup)(hi:X.N[i]?=some x)(hx:Loc X.env.scope x)(r:RelV v u)(h:∀s',Inv X p6 (σ.set i (some v)) H s'->Q () s')(hf:X.fn x=true\/X.env.scope.names.lookup x=some .local:=by walk_at"p"):wpAny M A (storeName X.env x u) Q E s :=
 WR I hN hi hx r (λs' I' _=>h s' I') hf
def Inv.call'{s':An}{ch:Ac}(I:Inv X p6 σ H s)(ho:s'.os=s.os)(u:Un (frs X.stack) ch H H' s.heap s'.heap)(hok:HOk X.prog X.w H' s'.heap)(hg:AllBare s'.gens)(hch:∀b∈ch,(b∈X.ex\/X.s₀.heap.objs.size<=b)/\b≠X.env.locals/\(∀x c,X.env.cells.lookup x=some c->c≠b)/\∀p∈X.pn++p6,p.1≠b):Inv X p6 σ H' s':=by
 let⟨h',g',d',t',o'⟩:=s';have e:o'=s.os:=ho;subst e;exact I.call (g':=g') (t':=t') (d':=d') u hok hg hch
end
abbrev XK:=Value->Option Addr->Hp->Prop
abbrev St:=List Aq
variable{σ:St}
abbrev VK:=V->Hp->Prop
abbrev TE:=St->Hp->VK->Prop
abbrev TT:=St->Hp->(Bool->Hp->Prop)->Prop
abbrev TA:=St->Hp->(List V->Hp->Prop)->Prop
structure Ends where
 nx:St->Hp->Prop
 rt:VK
 bk:St->Hp->Prop:=λ_ _=>False
 ct:St->Hp->Prop:=λ_ _=>False
abbrev TS:=Ends->St->Hp->Prop
def EP(X:Cx)(p6:A3)(σ:St)(Q:VK)(u:Am)(s':An):Prop:=∃v H',Inv X p6 σ H' s'/\RelV v u/\Q v H'
def TP(X:Cx)(p6:A3)(σ:St)(Q:Bool->Hp->Prop)(b:Bool)(s':An):Prop:=∃H',Inv X p6 σ H' s'/\Q b H'
def AP(X:Cx)(p6:A3)(σ:St)(Q:List V->Hp->Prop)(us:A8)(s':An):Prop:=∃vs H',Inv X p6 σ H' s'/\Vals vs us/\Q vs H'
def SP(X:Cx)(p6:A3)(D:Ends)(f:Flow)(s':An):Prop :=
 match f with
 | .next=>∃σ' H',Inv X p6 σ' H' s'/\D.nx σ' H'
 | .brk=>∃σ' H',Inv X p6 σ' H' s'/\D.bk σ' H'
 | .cont=>∃σ' H',Inv X p6 σ' H' s'/\D.ct σ' H'
 | .ret u=>∃v σ' H',Inv X p6 σ' H' s'/\RelV v u/\D.rt v H'
def PE(X:Cx)(e:Expr)(t:TE):Prop :=
 ∀(p6:A3)(s:An)(σ:St)(H:Hp)(Q:VK),Inv X p6 σ H s->t σ H Q->wpAny (model X.prog X.w) X.A (eval e X.env) (EP X p6 σ Q) X.xe s
def PT(X:Cx)(e:Expr)(t:TT):Prop :=
 ∀(p6:A3)(s:An)(σ:St)(H:Hp)(Q:Bool->Hp->Prop),Inv X p6 σ H s->t σ H Q->wpAny (model X.prog X.w) X.A (isTrue e X.env (eval e X.env)) (TP X p6 σ Q) X.xe s
def PW(X:Cx)(e:Expr)(t:TT):Prop :=
 ∀(whole:Sem Value)(p6:A3)(s:An)(σ:St)(H:Hp)(Q:Bool->Hp->Prop),Inv X p6 σ H s->t σ H Q->wpAny (model X.prog X.w) X.A (isTrue e X.env whole) (TP X p6 σ Q) X.xe s
def PW.pt{e:Expr}{t:TT}(h:PW X e t):PT X e t:=h _
def PA(X:Cx)(es:List Expr)(t:TA):Prop :=
 ∀(pos:Pos)(p6:A3)(s:An)(σ:St)(H:Hp)(Q:List V->Hp->Prop),Inv X p6 σ H s->t σ H Q->wpAny (model X.prog X.w) X.A (spliced (backTo pos (starEach es X.env))) (AP X p6 σ Q) X.xe s
def PS(X:Cx)(st:Stmt)(t:TS):Prop :=
 ∀(p6:A3)(s:An)(σ:St)(H:Hp)(D:Ends),Inv X p6 σ H s->t D σ H->wpAny (model X.prog X.w) X.A (exec st X.env) (SP X p6 D) X.xe s
def PSs(X:Cx)(st:List Stmt)(t:TS):Prop :=
 ∀(p6:A3)(s:An)(σ:St)(H:Hp)(D:Ends),Inv X p6 σ H s->t D σ H->wpAny (model X.prog X.w) X.A (execs st X.env) (SP X p6 D) X.xe s
def thn{α:Type}{t:Sem α}{Q Q':α->Shared->Prop}(h:wpAny M A t Q E s)(hQ:∀a s,Q a s->Q' a s):wpAny M A t Q' E s:=aV h hQ λ_ _ x=>x
def qL{Q:VK}{t:Sem Value}{Q':A4}(h:wpAny M A t (EP X p6 σ Q) E s)(k:∀u s1 x H1,Inv X p6 σ H1 s1->RelV x u->Q x H1->Q' u s1):wpAny M A t Q' E s:=thn h λu s1 e=>by
 let⟨x,H1,I1,r,q⟩:=e;exact k u s1 x H1 I1 r q
def vZ{Q:List V->Hp->Prop}{t:Sem A8}{Q':List Value->Shared->Prop}(h:wpAny M A t (AP X p6 σ Q) E s)(k:∀us s1 vs H1,Inv X p6 σ H1 s1->Vals vs us->Q vs H1->Q' us s1):wpAny M A t Q' E s:=thn h λu s1 e=>by
 let⟨x,H1,I1,r,q⟩:=e;exact k u s1 x H1 I1 r q
section
variable{X:Cx}
def bq:V->(Bool->Prop)->Prop
 | .bl k,P=>P k
 |_,_=>False
def We{x:V}{P:Bool->Prop}(h:bq x P):∃k,x=.bl k/\P k:=by
 cases x<;>first|exact⟨_,rfl,h⟩|exact False.elim h
def iq:V->(Int->Prop)->Prop
 | .int i,P=>P i
 |_,_=>False
def Qg{x:V}{P:Int->Prop}(h:iq x P):∃i,x=.int i/\P i:=by
 cases x<;>first|exact⟨_,rfl,h⟩|exact False.elim h
def X3{x y:V}{P:Int->Int->Prop}(h:iq x λi=>iq y λj=>P i j):∃i j,x=.int i/\y=.int j/\P i j:=by
 let⟨i,e,h⟩:=Qg h;let⟨j,e2,h⟩:=Qg h;exact⟨i,j,e,e2,h⟩
def nq:V->Prop->Prop
 | .non,P=>P
 |_,_=>False
def zdz{x:V}{P:Prop}(h:nq x P):x=.non/\P:=by
 cases x<;>first|exact⟨rfl,h⟩|exact False.elim h
def lq:List V->(V->Prop)->Prop
 |[v],P=>P v
 |_,_=>False
theorem zfY:∀{xs:Ap}{P:V->Prop},lq xs P->∃v,xs=[v]/\P v
 |[_],_,h=>⟨_,rfl,h⟩
 |[],_,h=>h.elim
 |_::_::_,_,h=>h.elim
def vq:Option Aq->(V->Prop)->Prop
 |some (some v),P=>P v
 |_,_=>False
theorem zhL:∀{o:Option Aq}{P:V->Prop},vq o P->∃v,o=some (some v)/\P v
 |some (some v),_,h=>⟨v,rfl,h⟩
 |some none,_,h=>h.elim
 |none,_,h=>h.elim
def szl(xs:Ap)(P:Prop):Prop:=cond (Nat.ble xs.length 12) P False
def zcj{xs:Ap}{P:Prop}(h:szl xs P):xs.length<=sizeLine/\P:=by
 unfold szl at h;cases e:Nat.ble xs.length 12 with
 |true=>rw[e]at h;exact⟨aR (Nat.le_of_ble_eq_true e) (by decide),h⟩
 |false=>rw[e]at h;exact h.elim
def tVar(i:Nat):TE:=λσ H Q=>vq σ[i]? λv=>Q v H
def tC(v:V):TE:=λ_ H Q=>Q v H
def zfD(hN:X.N[i]?=some x)(hv:Vis X.env.scope x)(hd:(x == ("__debug__":Str))=false:=by decide)(hcd:(x == ("__classdict__":Str))=false:=by decide):PE X (.Name x pos) (tVar i):=by
 intro p6 s σ H Q I h;let⟨v,e,h⟩:=zhL h;let⟨m,hn,hl⟩:=I.loc;let⟨u,r,l⟩:=hl i x v hN e hv;have fin:EP X p6 σ Q u s:=⟨v,H,I,r,h⟩;rcases l with⟨hk,hm⟩|⟨hk,c,hc,hcell⟩
 .exact wpAny_Name (wpAny_loadName_local I.ok.kind hk hn hm fin) hd
 .rcases hk with hk|hk
  .exact wpAny_Name (wpAny_loadName_cell I.ok.kind hk hc hcell fin) hd
  .exact wpAny_Name (wpAny_loadName_free I.ok.kind hk hc hcell fin hcd) hd
def ze{i j pos}:PE X (.Constant (.int i) j pos) (tC (.int i)):=λ_ _ _ H _ I h=>wpAny_Constant_int ⟨.int i,H,I.tok _,⟨_,rfl⟩,h⟩
def qU{b j pos}:PE X (.Constant (.bool b) j pos) (tC (.bl b)):=λ_ _ _ H _ I h=>Constant_bool ⟨.bl b,H,I,rfl,h⟩
def zG{j pos}:PE X (.Constant .none j pos) (tC .non):=λ_ _ _ H _ I h=>Constant_none ⟨.non,H,I,rfl,h⟩
def z9{x j pos}:PE X (.Constant (.str x) j pos) (tC (.str x)):=λ_ _ _ H _ I h=>Calls.Constant_str ⟨.str x,H,I.tok _,⟨_,rfl⟩,h⟩
def Gl(X:Cx)(x:Str):Prop:=X.env.kindOf x=some .globalImplicit
def xh(I:Inv X p6 σ H s)(hg:Gl X x)(hm:X.mg x=some u)(h:Q u s)(hd:(x == ("__debug__":Str))=false:=by decide):wpAny (model X.prog X.w) X.A (eval (.Name x pos) X.env) Q E s :=
 fY I.ok.kind hg (Calls.loadGlobal_global (by rw[I.ok.glob];exact I.mod.glob.keeps I.bk) hm h) hd
def vI(I:Inv X p6 σ H s)(hg:Gl X x)(hm:X.mg x=none)(hv:bootBuiltins x=some u)(h:Q u s)(hn:x≠"__name__":=by decide)(hd:(x == ("__debug__":Str))=false:=by decide):wpAny (model X.prog X.w) X.A (eval (.Name x pos) X.env) Q E s:=by
 let⟨mb,h1,h2⟩:=I.mod.blt;exact fY I.ok.kind hg (Calls.loadGlobal_builtin (by rw[I.ok.glob];exact I.mod.glob.keeps I.bk) hm (by rw[I.ok.blt];exact h1.keeps I.bk) ((h2 x hn).trans hv) h) hd
variable{a b:Expr}{ta tb:TE}{pos:Pos}
def PC(X:Cx)(op:CmpOp)(a b:Expr)(t:TE):Prop :=
 ∀(p6:A3)(s:An)(σ:St)(H:Hp)(Q:VK),Inv X p6 σ H s->t σ H Q ->
  wpAny (model X.prog X.w) X.A (eval a X.env) (λv s₁=>wpAny (model X.prog X.w) X.A (eval b X.env) (λu s₂=>wpAny (model X.prog X.w) X.A (compareOp op v u) (EP X p6 σ Q) X.xe s₂) X.xe s₁) X.xe s
def nobehind(b:Expr)(h:op≠.In)(h2:op≠.NotIn):behindInMarks op b=false:=by
 have e1:(op == CmpOp.In)=false:=by cases op<;>first|rfl|exact absurd rfl h
 have e2:(op == CmpOp.NotIn)=false:=by cases op<;>first|rfl|exact absurd rfl h2
 cases b<;>simp[behindInMarks,e1,e2]
def tB(t:TE):TT:=λσ H Q=>t σ H λx H1=>bq x λc=>Q c H1
def ziu{t:TE}(h:PC X op a b t)(h1:behindInMarks op b=false:=by walk_at"q"):PT X (.Compare a [op] [b] pos) (tB t):=by
 intro p6 s σ H Q I hw;refine wpAny_isTrue_Compare1 (thn (h p6 s σ H _ I hw) λv s1 h1=>thn h1 λu s2 h2=>thn h2 λc s3 ⟨x,H1,I1,r1,q1⟩=>?_) h1;let⟨d,rfl,q⟩:=We q1;cases r1;exact b8 ⟨H1,I1,q⟩
variable{tA tB':TT}{rest:List Expr}
def tAnd(t u:TT):TT:=λσ H Q=>t σ H λc H1=>if c=true then u σ H1 Q else Q false H1
def tOr(t u:TT):TT:=λσ H Q=>t σ H λc H1=>if c=true then Q true H1 else u σ H1 Q
def tNot(t:TT):TT:=λσ H Q=>t σ H λc H1=>Q (!c) H1
def pw_and1(ha:PT X a tA):PW X (.BoolOp .And [a] pos) tA:=by
 intro wh p6 s σ H Q I h;refine isTrue_and (thn (ha p6 s σ H Q I h) λc s1 e=>?_);cases c with
 |true=>exact isTrue_and_nil e
 |false=>exact e
def pw_or1(ha:PT X a tA):PW X (.BoolOp .Or [a] pos) tA:=by
 intro wh p6 s σ H Q I h;refine isTrue_or (thn (ha p6 s σ H Q I h) λc s1 e=>?_);cases c with
 |false=>exact isTrue_or_nil e
 |true=>exact e
def pw_and(ha:PT X a tA)(hb:PW X (.BoolOp .And (b::rest) pos) tB'):PW X (.BoolOp .And (a::b::rest) pos) (tAnd tA tB'):=by
 intro wh p6 s σ H Q I h;refine isTrue_and (thn (ha p6 s σ H _ I h) λc s1 ⟨H1,I1,q1⟩=>?_);cases c with
 |true=>exact hb wh p6 s1 σ H1 Q I1 q1
 |false=>exact⟨H1,I1,q1⟩
def pw_or(ha:PT X a tA)(hb:PW X (.BoolOp .Or (b::rest) pos) tB'):PW X (.BoolOp .Or (a::b::rest) pos) (tOr tA tB'):=by
 intro wh p6 s σ H Q I h;refine isTrue_or (thn (ha p6 s σ H _ I h) λc s1 ⟨H1,I1,q1⟩=>?_);cases c with
 |true=>exact⟨H1,I1,q1⟩
 |false=>exact hb wh p6 s1 σ H1 Q I1 q1
def qw(ha:PT X a tA):PT X (.UnaryOp .Not a pos) (tNot tA):=by
 intro p6 s σ H Q I h;exact isTrue_not (ha p6 s σ H (λc H1=>Q (!c) H1) I h)
def tAndV(ta tb:TE):TE:=λσ H Q=>ta σ H λx H1=>bq x λc=>if c=true then tb σ H1 Q else Q (.bl false) H1
def tNotV(ta:TE):TE:=λσ H Q=>ta σ H λx H1=>bq x λc=>Q (.bl (!c)) H1
def zfE{op}{t:TE}(h:PE X a t):PE X (.BoolOp op [a] pos) t:=λp6 s σ H Q I hw=>BoolOp_one (h p6 s σ H Q I hw)
def zfJ(ha:PE X a ta)(hb:PE X (.BoolOp .And (b::rest) pos) tb):PE X (.BoolOp .And (a::b::rest) pos) (tAndV ta tb):=by
 intro p6 s σ H Q I h;refine BoolOp_and (qL (ha p6 s σ H _ I h) λv s1 x H1 I1 r1 q1=>?_);let⟨c,rfl,q1⟩:=We q1;cases r1;refine b8 ?_;cases c with
 |true=>exact hb p6 s1 σ H1 Q I1 q1
 |false=>exact⟨.bl false,H1,I1,rfl,q1⟩
def ziz(ha:PE X a ta):PE X (.UnaryOp .Not a pos) (tNotV ta):=by
 intro p6 s σ H Q I h;refine UnaryOp_ (qL (ha p6 s σ H _ I h) λv s1 x H1 I1 r1 q1=>?_);let⟨c,rfl,q1⟩:=We q1;cases r1;exact not_of (b8 ⟨.bl (!c),H1,I1,rfl,q1⟩)
def tIf(t:TT)(ta tb:TE):TE:=λσ H Q=>t σ H λc H1=>if c=true then ta σ H1 Q else tb σ H1 Q
def xu{c:Expr}(hc:PT X c tA)(ha:PE X a ta)(hb:PE X b tb):PE X (.IfExp c a b pos) (tIf tA ta tb):=by
 intro p6 s σ H Q I h;refine wpAny_IfExp (thn (hc p6 s σ H _ I h) λd s1 ⟨H1,I1,q1⟩=>?_);cases d with
 |true=>exact ha p6 s1 σ H1 Q I1 q1
 |false=>exact hb p6 s1 σ H1 Q I1 q1
end
def SqL(K:A0)(H:Hp)(a:Addr)(xs:Ap):Prop :=
 Rd H a (.lst xs) \/
  ∃(o:Obj)(pf:Ae)(n:Nat),K.lookup a=some o/\o.cls=.type "list"/\o.dict=none/\o.data=.seq pf n/\pf.size<=sizeLine/\Vals xs pf.toList
def SqT(K:A0)(H:Hp)(a:Addr)(xs:Ap):Prop :=
 Rd H a (.tup xs) \/
  ∃(o:Obj)(pf:Ae)(n:Nat),K.lookup a=some o/\o.cls=.type "tuple"/\o.data=.seq pf n/\pf.size<=sizeLine/\Vals xs pf.toList
noncomputable def zjW:Value->Option V
 | .none=>some .non
 | .bool b=>some (.bl b)
 | .int i _=>some (.int i)
 | .str x _=>some (.str x)
 | .bytes b _=>some (.byt b)
 | .float b _=>some (.flt b)
 | .ref a=>some (.ref a)
 | .type n=>some (.ty n)
 |_=>none
def RelV.abs{x:V}(r:RelV x u):zjW u=some x:=by
 cases x with
 |non=>cases r;rfl
 |bl _=>cases r;rfl
 |int _=>let⟨t,rfl⟩:=r;rfl
 |str _=>let⟨t,rfl⟩:=r;rfl
 |byt _=>let⟨t,rfl⟩:=r;rfl
 |flt _=>let⟨t,rfl⟩:=r;rfl
 |ref _=>cases r;rfl
 |ty _=>cases r;rfl
def RelV.inj{x y:V}(r:RelV x u)(q:RelV y u):x=y:=aT (r.abs.symm.trans q.abs)
theorem Vals.inj:∀{xs ys:Ap}{us:A8},Vals xs us->Vals ys us->xs=ys
 |_,_,_,.nil,.nil=>rfl
 |_,_,_,.cons r t,.cons r' t'=>by rw[r.inj r',Vals.inj t t']
section
variable{X:Cx}{p6:A3}{σ:St}{H:Hp}{s:An}{a:Addr}{xs ys:Ap}
def SqL.of(h:H a=some (.lst xs)):SqL K H a xs:=.inl (.inl h)
def SqT.of(h:H a=some (.tup xs)):SqT K H a xs:=.inl (.inl h)
def Inv.list(I:Inv X p6 σ H s)(h:SqL X.K H a xs):∃pf:List Value,Vals xs pf/\PlainL s.heap a pf.toArray/\xs.length<=sizeLine:=by
 rcases h with h|⟨o,pf,n,hk,hc,hd,hs,hz,r⟩
 .obtain⟨z,pf,n,r,e⟩:=h.ok I.hok;exact⟨pf,r,⟨_,n,e,rfl,rfl,rfl⟩,z⟩
 .refine⟨pf.toList,r,⟨o,n,I.kIn a o hk,hc,hd,by simpa using hs⟩,?_⟩;have e:=r.length;simp only[cq]at e
  lia
def Inv.tuple(I:Inv X p6 σ H s)(h:SqT X.K H a xs):∃pf:List Value,Vals xs pf/\IsTup s.heap a pf.toArray/\xs.length<=sizeLine:=by
 rcases h with h|⟨o,pf,n,hk,hc,hs,hz,r⟩
 .obtain⟨z,pf,r,p⟩:=h.ok I.hok;exact⟨pf,r,p,z⟩
 .refine⟨pf.toList,r,⟨o,I.kIn a o hk,hc,n,by simpa using hs⟩,?_⟩;have e:=r.length;simp only[cq]at e
  lia
def Inv.list_inj(I:Inv X p6 σ H s)(h:SqL X.K H a xs)(h':SqL X.K H a ys):xs=ys:=by
 let⟨pf,r,⟨o,n,e,_,_,d⟩,_⟩:=I.list h;let⟨its',r',⟨o',n',e',_,_,d'⟩,_⟩:=I.list h';rw[e]at e';cases e';rw[d]at d';injection d' with d1 _
 have:pf=its':=by simpa using bE Array.toList d1
 subst this;exact r.inj r'
def Inv.tuple_inj(I:Inv X p6 σ H s)(h:SqT X.K H a xs)(h':SqT X.K H a ys):xs=ys:=by
 let⟨pf,r,⟨o,e,_,n,d⟩,_⟩:=I.tuple h;let⟨its',r',⟨o',e',_,n',d'⟩,_⟩:=I.tuple h';rw[e]at e';cases e';rw[d]at d';injection d' with d1 _
 have:pf=its':=by simpa using bE Array.toList d1
 subst this;exact r.inj r'
end
noncomputable abbrev Cx.wish(X:Cx)(E:A4):Cx:={X with xe:=E}
noncomputable abbrev Cx.nox(X:Cx):Cx:=X.wish λ_ _=>False
def Cx.Ok.wish(ok:X.Ok)(E:A4):(X.wish E).Ok :=
 ⟨ok.mod,ok.kind,ok.glob,ok.blt,ok.above,ok.inj,ok.has,ok.cab,ok.hd,ok.frames,ok.stk,ok.exf,ok.bs,ok.bsz,ok.noex,ok.exfs,ok.funs,ok.frf⟩
def Cx.Ok.unwish(ok:(X.wish E).Ok):X.Ok :=
 ⟨ok.mod,ok.kind,ok.glob,ok.blt,ok.above,ok.inj,ok.has,ok.cab,ok.hd,ok.frames,ok.stk,ok.exf,ok.bs,ok.bsz,ok.noex,ok.exfs,ok.funs,ok.frf⟩
section
variable{X:Cx}{p6:A3}{σ:St}{H:Hp}{s:An}{E:A4}
def Inv.wish(I:Inv X p6 σ H s)(E:A4):Inv (X.wish E) p6 σ H s:=⟨I.ok.wish E,I.os,I.bare,I.base,I.loc,I.cell,I.free,I.freeC,I.pin,I.hok,I.len⟩
def Inv.unwish(I:Inv (X.wish E) p6 σ H s):Inv X p6 σ H s:=⟨I.ok.unwish,I.os,I.bare,I.base,I.loc,I.cell,I.free,I.freeC,I.pin,I.hok,I.len⟩
def SP.unwish{D:Ends}{f:Flow}{s':An}(h:SP (X.wish E) p6 D f s'):SP X p6 D f s':=by
 cases f with
 |next=>let⟨σ',H',I,q⟩:=h;exact⟨σ',H',I.unwish,q⟩
 |brk=>let⟨σ',H',I,q⟩:=h;exact⟨σ',H',I.unwish,q⟩
 |cont=>let⟨σ',H',I,q⟩:=h;exact⟨σ',H',I.unwish,q⟩
 |ret u=>let⟨v,σ',H',I,r,q⟩:=h;exact⟨v,σ',H',I.unwish,r,q⟩
def PE.nox{e:Expr}{t:TE}(h:PE X.nox e t):PE X e t:=λp6 s σ H Q I hw =>
 aV (h p6 s σ H Q (I.wish _) hw) (λ_ _ ⟨v,H',I',r,q⟩=>⟨v,H',I'.unwish,r,q⟩) λ_ _ z=>False.elim z
def PT.nox{e:Expr}{t:TT}(h:PT X.nox e t):PT X e t:=λp6 s σ H Q I hw =>
 aV (h p6 s σ H Q (I.wish _) hw) (λ_ _ ⟨H',I',q⟩=>⟨H',I'.unwish,q⟩) λ_ _ z=>False.elim z
def PSs.nox{st:List Stmt}{t:TS}(h:PSs X.nox st t):PSs X st t:=λp6 s σ H D I hw =>
 aV (h p6 s σ H D (I.wish _) hw) (λ_ _ q=>q.unwish) λ_ _ z=>False.elim z
end
section
variable{X:Cx}{st:Stmt}{rest:List Stmt}{t u:TS}{e:Expr}{te:TE}{pos:Pos}
def tNext:TS:=λD σ H=>D.nx σ H
def tSeq(t u:TS):TS:=λD σ H=>t {D with nx:=u D} σ H
def zl:PSs X [] tNext:=λ_ _ σ H _ I h=>cE ⟨σ,H,I,h⟩
def zg(h1:PS X st t)(h2:PSs X rest u):PSs X (st::rest) (tSeq t u):=by
 intro p6 s σ H D I h;refine fe (thn (h1 p6 s σ H {D with nx:=u D} I h) λf s1 q=>?_);cases f with
 |next =>
  let⟨σ',H',I',q⟩:=q;exact h2 p6 s1 σ' H' D I' q
 |ret v=>exact q
 |brk=>exact q
 |cont=>exact q
def zd(h1:PS X st t):PSs X [st] t:=by
 intro p6 s σ H D I h;refine fe (thn (h1 p6 s σ H D I h) λf s1 q=>?_);cases f with
 |next=>exact cE q
 |ret v=>exact q
 |brk=>exact q
 |cont=>exact q
def tCont:TS:=λD σ H=>D.ct σ H
def zbr:PS X (.Continue pos) tCont:=λ_ _ σ H _ I h=>wpAny_Continue ⟨σ,H,I,h⟩
def Inv.quiet(I:Inv X p6 σ H s):interactive X.env=false:=by simp[interactive,I.ok.kind]
def tDrop(te:TE):TS:=λD σ H=>te σ H λ_ H1=>D.nx σ H1
def zw(he:PE X e te)(hs:swapsWith e none pos.line X.env=pure false:=by rfl):PS X (.Expr e pos) (tDrop te):=by
 intro p6 s σ H D I h;exact wpAny_Expr_any (qL (he p6 s σ H _ I h) λv s1 x H1 I1 r1 q1=>⟨σ,H1,I1,q1⟩) I.quiet hs
def tRet(te:TE):TS:=λD σ H=>te σ H D.rt
def zj(he:PE X e te):PS X (.Return (some e) pos) (tRet te):=by
 intro p6 s σ H D I h;exact wpAny_Return_some (qL (he p6 s σ H _ I h) λv s1 x H1 I1 r1 q1=>⟨x,σ,H1,I1,r1,q1⟩)
def tIfS(c:TT)(t u:TS):TS:=λD σ H=>c σ H λb H1=>if b=true then t D σ H1 else u D σ H1
def zy{c:Expr}{a b:List Stmt}{tc:TT}(hc:PT X c tc)(ha:PSs X a t)(hb:PSs X b u):PS X (.If c a b pos) (tIfS tc t u):=by
 intro p6 s σ H D I h;refine wpAny_If (thn (hc p6 s σ H _ I h) λd s1 ⟨H1,I1,q1⟩=>?_);cases d with
 |true=>exact ha p6 s1 σ H1 D I1 q1
 |false=>exact hb p6 s1 σ H1 D I1 q1
end
abbrev TG:=V->St->Hp->(St->Hp->Prop)->Prop
abbrev TGs:=List V->St->Hp->(St->Hp->Prop)->Prop
def PG(X:Cx)(target:Expr)(t:TG):Prop :=
 ∀(p6:A3)(s:An)(σ:St)(H:Hp)(v:V)(u:Am)(Q:St->Hp->Prop),Inv X p6 σ H s->RelV v u->t v σ H Q ->
  wpAny (model X.prog X.w) X.A (assign target X.env u) (λ_ s'=>∃σ' H',Inv X p6 σ' H' s'/\Q σ' H') X.xe s
def PGs(X:Cx)(ts:List Expr)(t:TGs):Prop :=
 ∀(p6:A3)(s:An)(σ:St)(H:Hp)(vs:Ap)(us:A8)(Q:St->Hp->Prop),Inv X p6 σ H s->Vals vs us->t vs σ H Q ->
  wpAny (model X.prog X.w) X.A (assignInOrder ((assignEach ts X.env).map (·.2)) us) (λ_ s'=>∃σ' H',Inv X p6 σ' H' s'/\Q σ' H') X.xe s
abbrev zgG:=V->V->V->Hp->(Hp->Prop)->Prop
def zi7(X:Cx)(t:zgG):Prop :=
 ∀(p6:A3)(s:An)(σ:St)(H:Hp)(o i v:V)(ov iv u:Am)(Q:Hp->Prop),Inv X p6 σ H s->RelV o ov->RelV i iv->RelV v u->t o i v H Q ->
  wpAny (model X.prog X.w) X.A (setItem ov iv u) (λ_ s'=>∃H',Inv X p6 σ H' s'/\Q H') X.xe s
abbrev TIp:=V->V->Hp->VK->Prop
def PIp(X:Cx)(op:Operator)(t:TIp):Prop :=
 ∀(p6:A3)(s:An)(σ:St)(H:Hp)(x y:V)(v u:Am)(Q:VK),Inv X p6 σ H s->RelV x v->RelV y u->t x y H Q ->
  wpAny (model X.prog X.w) X.A (inplaceOp op v u) (EP X p6 σ Q) X.xe s
section
variable{X:Cx}{pos:Pos}
def gName(i:Nat):TG:=λv σ H Q=>Q (σ.set i (some v)) H
def Z8(hN:X.N.Nodup)(hi:X.N[i]?=some x)(hx:Loc X.env.scope x)(hf:X.fn x=true\/X.env.scope.names.lookup x=some .local:=by walk_at"p"):PG X (.Name x pos) (gName i):=by
 intro p6 s σ H v u Q I r h;exact wpAny_assign_Name (ZI I hN hi hx r (λs' I'=>⟨_,H,I',h⟩) hf)
def gNil:TGs:=λvs σ H Q=>vs=[]/\Q σ H
def gCons(t:TG)(u:TGs):TGs:=λvs σ H Q=>∃v r,vs=v::r/\t v σ H λσ' H'=>u r σ' H' Q
def jn:PGs X [] gNil:=by
 intro p6 s σ H vs us Q I r h;let⟨e,h⟩:=h;subst e;cases r;exact assignInOrder_nil ⟨σ,H,I,h⟩
theorem zR{e:Expr}{es:List Expr}{t:TG}{u:TGs}(h1:PG X e t)(h2:PGs X es u)(hs:(assignEach (e::es) X.env).map (·.2)=assign e X.env::(assignEach es X.env).map (·.2):=by rfl):PGs X (e::es) (gCons t u):=by
 intro p6 s σ H vs us Q I r h;let⟨v,vr,e1,h⟩:=h;subst e1;cases r with
 |cons r rr =>
  rw[hs];refine assignInOrder_cons (thn (h1 p6 s σ H _ _ _ I r h) λ_ s1 ⟨σ1,H1,I1,q1⟩=>?_);exact h2 p6 s1 σ1 H1 _ _ Q I1 rr q1
def gTup(K:A0)(n:Nat)(t:TGs):TG:=λv σ H Q=>∃a xs,v=.ref a/\SqT K H a xs/\xs.length=n/\t xs σ H Q
def j8{es:List Expr}{t:TGs}{n:Nat}(hc:X.calm=true)(h:PGs X es t)(hn:(assignEach es X.env).length=n:=by rfl)(hst:(assignEach es X.env).findIdx? (·.1)=none:=by rfl):PG X (.Tuple es k pos) (gTup X.K n t):=by
 intro p6 s σ H v u Q I r hw;let⟨a,xs,e1,hq,hl,hw⟩:=hw;subst e1;cases r;let⟨pf,rv,ht,hz⟩:=I.tuple hq;refine assign_Tuple_tuple (I.ok.hd hc) ht (by simp[hn,<- hl,rv.length]) hst λh' hx=>?_;have I1:Inv X p6 σ H {s with heap:=h'}:=I.kept (t':=s.toks) λb o e=>hx b o (aQ (aB e)) e;exact h p6 _ σ H xs _ Q I1 (by simpa using rv) hw
def gSub(to ti:TE)(t:zgG):TG:=λv σ H Q=>to σ H λo H1=>ti σ H1 λi H2=>t o i v H2 λH3=>Q σ H3
def xX{o i:Expr}{to ti:TE}{t:zgG}(ho:PE X o to)(hi:PE X i ti)(hs:zi7 X t)(ha:∀v,assign (.Subscript o i pos) X.env v=(do
   let ov <- holding [v] (eval o X.env)
   let iv <- holding [v,ov] (eval i X.env)
   standAt pos
   holding [v,ov,iv] (setItem ov iv v)
   release [v,ov,iv] []):=by intro _;rfl):PG X (.Subscript o i pos) (gSub to ti t):=by
 intro p6 s σ H v u Q I r h;rw[ha];refine ac (dH (qL (ho p6 s σ H _ I h) λov s1 x H1 I1 r1 q1=>?_));refine ac (dH (qL (hi p6 s1 σ H1 _ I1 q1) λiv s2 y H2 I2 r2 q2=>?_));refine ac (gk (ac (dH (thn (hs p6 s2 σ H2 x y v ov iv u _ I2 r1 r2 r q2) λ_ s3 ⟨H3,I3,q3⟩=>?_))));exact wpAny_release ⟨σ,H3,I3,q3⟩
def tAsg(te:TE)(g:TG):TS:=λD σ H=>te σ H λx H1=>g x σ H1 D.nx
def xr{tg e:Expr}{te:TE}{g:TG}(he:PE X e te)(hg:PG X tg g)(hs:swapsWithSole [tg] e pos.line X.env=pure false:=by rfl)(hw:swappedStores [tg] e X.env=pure none:=by rfl)(h1:(assignEach [tg] X.env).map (·.2)=[assign tg X.env]:=by rfl):PS X (.Assign [tg] e pos) (tAsg te g):=by
 intro p6 s σ H D I h;refine wpAny_Assign_stores (qL (he p6 s σ H _ I h) λv s1 x H1 I1 r1 q1=>?_) hs hw;rw[h1];exact thn (hg p6 s1 σ H1 x v _ I1 r1 q1) λ_ s2 q=>q
def QP{e:Expr}{te:TE}{pos':Pos}(hN:X.N.Nodup)(hi:X.N[i]?=some x)(hx:Loc X.env.scope x)(he:PE X e te)(hs:swapsWith e (some (.Name x pos')) pos.line X.env=pure false:=by rfl)(hf:X.fn x=true\/X.env.scope.names.lookup x=some .local:=by walk_at"p") :
  PS X (.Assign [.Name x pos'] e pos) (tAsg te (gName i)):=by
 intro p6 s σ H D I h;refine wpAny_Assign_Name (qL (he p6 s σ H _ I h) λv s1 y H1 I1 r1 q1=>?_) hs;exact ZI I1 hN hi hx r1 (λs2 I2=>⟨_,H1,I2,q1⟩) hf
def tAug(i:Nat)(te:TE)(ti:TIp):TS:=λD σ H=>vq σ[i]? λx=>te σ H λy H1=>ti x y H1 λz H2=>D.nx (σ.set i (some z)) H2
def ziw{e:Expr}{te:TE}{op:Operator}{ti:TIp}{pos':Pos}(hN:X.N.Nodup)(hi:X.N[i]?=some x)(hx:Loc X.env.scope x)(he:PE X e te)(ho:PIp X op ti)(hf:X.fn x=true\/X.env.scope.names.lookup x=some .local:=by walk_at"p") :
  PS X (.AugAssign (.Name x pos') op e pos) (tAug i te ti):=by
 intro p6 s σ H D I h;let⟨v,e1,h⟩:=zhL h;let⟨m,hn,hl⟩:=I.loc;have vis:Vis X.env.scope x:=by rcases hx with k|k;exact .inl k;exact .inr (.inl k)
 let⟨u,r,l⟩:=hl i x v hi e1 vis;refine wpAny_AugAssign_Name ?_;have go:wpAny (model X.prog X.w) X.A (eval e X.env) (λw s₂=>wpAny (model X.prog X.w) X.A (inplaceOp op u w) (λr s₃=>wpAny (model X.prog X.w) X.A (storeName X.env x r) (λ_=>SP X p6 D .next) X.xe s₃) X.xe s₂) X.xe s:=by
  refine qL (he p6 s σ H _ I h) λw s1 y H1 I1 r1 q1=>?_;refine qL (ho p6 s1 σ H1 v y u w _ I1 r r1 q1) λz s2 zv H2 I2 r2 q2=>?_;exact ZI I2 hN hi hx r2 (λs3 I3=>⟨_,H2,I3,q2⟩) hf
 rcases l with⟨hk,hm⟩|⟨hk,c,hc,hcell⟩
 .exact wpAny_loadName_local I.ok.kind hk hn hm go
 .rcases hk with hk|hk
  .exact wpAny_loadName_cell I.ok.kind hk hc hcell go
  .rcases hx with k|k
   .have:X.env.scope.names.lookup x=some .free:=hk;rw[k]at this;cases this
   .have:X.env.scope.names.lookup x=some .free:=hk;rw[k]at this;cases this
def zhQ(to ti te:TE)(tget:V->V->Hp->VK->Prop)(tip:TIp)(tset:zgG):TS:=λD σ H=>to σ H λo H1=>ti σ H1 λi H2=>tget o i H2 λx H3=>te σ H3 λy H4=>tip x y H4 λz H5=>tset o i z H5 λH6=>D.nx σ H6
def zjC(X:Cx)(t:V->V->Hp->VK->Prop):Prop :=
 ∀(p6:A3)(s:An)(σ:St)(H:Hp)(o i:V)(ov iv:Am)(Q:VK),Inv X p6 σ H s->RelV o ov->RelV i iv->t o i H Q ->
  wpAny (model X.prog X.w) X.A (getItem ov iv) (EP X p6 σ Q) X.xe s
def zg7{o i e:Expr}{to ti te:TE}{tget:V->V->Hp->VK->Prop}{tip:TIp}{tset:zgG}{op:Operator}{tpos:Pos}(ho:PE X o to)(hi:PE X i ti)(hg:zjC X tget)(he:PE X e te)(hp:PIp X op tip)(hs:zi7 X tset)(ha:∀ov iv new,augStore i ov iv new=(do holding [new,ov,iv] (setItem ov iv new);release [new,ov,iv] [];pure .next):=by intros;rfl):PS X (.AugAssign (.Subscript o i tpos) op e pos) (zhQ to ti te tget tip tset):=by
 intro p6 s σ H D I h;refine wpAny_AugAssign_SubscriptAny (qL (ho p6 s σ H _ I h) λov s1 x1 H1 I1 r1 q1=>?_) ha;refine qL (hi p6 s1 σ H1 _ I1 q1) λiv s2 x2 H2 I2 r2 q2=>?_;refine qL (hg p6 s2 σ H2 x1 x2 ov iv _ I2 r1 r2 q2) λold s3 x3 H3 I3 r3 q3=>?_;refine qL (he p6 s3 σ H3 _ I3 q3) λv s4 x4 H4 I4 r4 q4=>?_;refine qL (hp p6 s4 σ H4 x3 x4 old v _ I4 r3 r4 q4) λnew s5 x5 H5 I5 r5 q5=>?_;exact thn (hs p6 s5 σ H5 x1 x2 x5 ov iv new _ I5 r1 r2 r5 q5) λ_ s6 ⟨H6,I6,q6⟩=>⟨σ,H6,I6,q6⟩
def ipI(f:Int->Int->Int):TIp:=λx y H Q=>iq x λi=>iq y λj=>Q (.int (f i j)) H
def zge:PIp X .Add (ipI λi j=>i+j):=by
 intro p6 s σ H x y v u Q I r1 r2 h;let⟨i,j,e1,e2,q⟩:=X3 h;subst e1;subst e2;let⟨t,rfl⟩:=r1;let⟨t',rfl⟩:=r2;exact iadd_int ⟨.int _,H,I.tok _,⟨_,rfl⟩,q⟩
end
section
variable{X:Cx}{pos:Pos}
def zia(c:TT)(tb:TS):TS:=λD σ H=>∃W:Nat->St->Hp->Prop,(∃m,W m σ H)/\∀m σ H,W m σ H ->
 c σ H λb H1=>if b=true then ∃N:St->Hp->Prop,(∀σ' H',N σ' H'->∃m',m'<m/\W m' σ' H')/\tb {D with nx:=N,ct:=N,bk:=D.nx} σ H1 else D.nx σ H1
def zfB{c:Expr}{body:List Stmt}{tc:TT}{tb:TS}(hp:PassesOwn (model X.prog X.w) X.A X.env X.xe)(hc:PT X c tc)(hb:PSs X body tb):PS X (.While c body [] pos) (zia tc tb):=by
 intro p6 s σ H D I h;let⟨W,⟨m0,w0⟩,turn⟩:=h;refine wpAny_While (codeAny_whileLoop (λn s'=>∃σ' H',Inv X p6 σ' H' s'/\W n σ' H') ?_ m0 ⟨σ,H,I,w0⟩);rintro n s1 ⟨σ1,H1,I1,w1⟩;refine cj hp (thn (hc p6 s1 σ1 H1 _ I1 (turn n σ1 H1 w1)) λb s2 ⟨H2,I2,q2⟩=>?_);cases b with
 |true =>
  let⟨N,hN,q2⟩:=q2;rw[aq rfl];refine cj hp (thn (hb p6 s2 σ1 H2 _ I2 q2) λf s3 q3=>?_);cases f with
  |next =>
   let⟨σ3,H3,I3,n3⟩:=q3;let⟨m',hm,w3⟩:=hN σ3 H3 n3;exact⟨m',hm,σ3,H3,I3,w3⟩
  |cont =>
   let⟨σ3,H3,I3,n3⟩:=q3;let⟨m',hm,w3⟩:=hN σ3 H3 n3;exact⟨m',hm,σ3,H3,I3,w3⟩
  |brk=>exact q3
  |ret v=>exact q3
 |false =>
  rw[ao aD];exact cE ⟨σ1,H2,I2,q2⟩
end
structure It where
 go:Nat->Hp->Prop
 yld:Nat->Hp->V->Hp->Prop
 stop:Nat->Hp->Prop
def Q0(X:Cx)(p6:A3)(H:Hp)(b:Addr):Prop :=
 H b=none/\b≠X.env.locals/\b∉X.fs/\(b∈X.ex\/X.s₀.heap.objs.size<=b)/\(∀x c,X.env.cells.lookup x=some c->c≠b)/\∀p∈X.pn++p6,p.1≠b
def Inv.fpOk{H H':Hp}(I:Inv X p6 σ H s)(hb:s.heap.objs.size<=b)(hn:H' b=none):Q0 X p6 H' b:=by
 refine⟨hn,dE (aH I.lt hb),I.nofs hb,.inr (aR I.sz hb),λx c e z=>?_,λp hp z=>?_⟩
 .obtain⟨v,q⟩:=I.cell x c e;exact absurd (aH q.lt (by rw[z];exact hb)) (cQ _)
 .exact absurd (aH (aB (I.pin p hp).1) (by rw[z];exact hb)) (cQ _)
structure Turn(P:Ag)(w:World)(K:A0)(tg:Expr)(J:It)(fp:Ac)(it:Addr)(tn:Nat->Heap->Prop):Prop where
 mem:it∈fp
 obj:∀i h,tn i h->∀b∈fp,∃o,h.get? b=some o/\∀v,o.data≠.cell v
 keep:∀i h h',tn i h->(∀b∈fp,∀o,h.get? b=some o->h'.get? b=some o)->tn i h'
 item:∀(X:Cx),X.prog=P->X.w=w->X.K=K->X.calm=true->∀(i:Nat)(p6:A3)(s:An)(σ:St)(H:Hp)(E:A4),Inv X p6 σ H s->(∀b∈fp,Q0 X p6 H b)->tn i s.heap->J.go i H ->
  wpAny (model P w) X.A (pyNext (.ref it)) (λr s1=>∃u,r=some u /\
   wpAny (model P w) X.A (letOwnedTupleGo tg (.ref it) u) (λ_ s2=>∃x H',Inv X p6 σ H' s2/\RelV x u/\J.yld i H x H'/\tn (i+1) s2.heap/\∀b∈fp,H' b=none) E s1) E s
 done:∀(X:Cx),X.prog=P->X.w=w->X.K=K->X.calm=true->∀(i:Nat)(p6:A3)(s:An)(σ:St)(H:Hp)(E:A4),Inv X p6 σ H s->(∀b∈fp,Q0 X p6 H b)->tn i s.heap->J.stop i H ->
  wpAny (model P w) X.A (pyNext (.ref it)) (λr s1=>r=none/\Inv X p6 σ H s1) E s
 self:∀(A:Ao)(i:Nat)(s:An)(Q:A4)(E:A4),tn i s.heap->Q (.ref it) s->wpAny (model P w) A (pyIter (.ref it)) Q E s
abbrev TI:=St->Hp->(It->Hp->Prop)->Prop
def PIE(X:Cx)(p6:A3)(σ:St)(tg:Expr)(R:It->Hp->Prop)(itv:Am)(s2:An):Prop :=
 ∃(it:Addr)(fp:Ac)(tn:Nat->Heap->Prop)(J:It)(H':Hp),itv=.ref it/\Inv X p6 σ H' s2/\Turn X.prog X.w X.K tg J fp it tn/\tn 0 s2.heap/\(∀b∈fp,Q0 X p6 H' b)/\R J H'
def PI(X:Cx)(tg iter:Expr)(wi:TI):Prop :=
 ∀(p6:A3)(s:An)(σ:St)(H:Hp)(R:It->Hp->Prop),Inv X p6 σ H s->wi σ H R ->
  wpAny (model X.prog X.w) X.A (eval iter X.env) (λv s1=>wpAny (model X.prog X.w) X.A (pyIter v) (PIE X p6 σ tg R) X.xe s1) X.xe s
theorem zdH{it:Addr}{o:Obj}{n:String}{vs:Ae}{Q:Ah}(ho:s.heap.get? it=some o)(hc:o.cls=.type n)(hd:o.data=.fields vs)(hn:["enumerate","zip","dict_itemiterator","dict_reverseitemiterator","odict_iterator","itertools.zip_longest","itertools.pairwise"].contains n=false)(hQ:Q () s):wpAny M A (letOwnedTupleGo tg (.ref it) u) Q E s:=by
 unfold letOwnedTupleGo;cases tg<;>first
  |exact aw hQ
  | (cases u<;>first
    |exact aw hQ
    | (refine ac (wpAny_load ho ?_)
       rw[hc,hd];show wpAny M A (if (["enumerate","zip","dict_itemiterator","dict_reverseitemiterator","odict_iterator","itertools.zip_longest","itertools.pairwise"].contains n&&vs[0]? == some (rawInt _))=true then _ else _) Q E s
       rw[ao (by intro h;rw[hn,Bool.false_and]at h;cases h)];exact aw hQ))
noncomputable def Itl(K:A0)(a:Addr):It :=
 ⟨λi H=>∃xs x,SqL K H a xs/\xs[i]?=some x,λi H x H'=>H'=H/\∀xs,SqL K H a xs->xs[i]?=some x,λi H=>∃xs,SqL K H a xs/\xs.length<=i⟩
noncomputable def Itt(K:A0)(a:Addr):It :=
 ⟨λi H=>∃xs x,SqT K H a xs/\xs[i]?=some x,λi H x H'=>H'=H/\∀xs,SqT K H a xs->xs[i]?=some x,λi H=>∃xs,SqT K H a xs/\xs.length<=i⟩
noncomputable def Itr(lo:Int)(n:Nat):It:=⟨λi _=>i<n,λi H x H'=>H'=H/\x=.int (lo+i),λi _=>n<=i⟩
def zd6(a it:Addr):Turn P w K tg (Itl K a) [it] it (λi h=>h.IsListIter it a i) where
 mem:=by simp
 obj:=λi h st b hb=>by
  have e:b=it:=by simpa using hb
  subst e;let⟨o,e,c,d⟩:=st;exact⟨o,e,λv z=>by rw[d]at z;cases z⟩
 keep:=λi h h' st k=>st.at λo e=>k it (by simp) o e
 item:=by
  intro X hP hw hK hc i p6 s σ H E I hf st hg;subst hP hw hK;let⟨xs,x,hq,hx⟩:=hg;let⟨pf,rv,p,hz⟩:=I.list hq;let⟨u,hu,ru⟩:=rv.get hx;let⟨f0,f1,f2,f3,f4,f5⟩:=hf it (by simp);refine wpAny_pyNext_list_item st p.isList (x:=u) (by simpa using hu) λh' st' sb=>?_;have I1:Inv X p6 σ H {s with heap:=h'}:=I.turned (t':=s.toks) (λb o hb e=>(sb.2 b hb).trans e) f0 f1 f3 f4 f5;let⟨o,e,c,d⟩:=id st';exact⟨u,rfl,zdH (s:={s with heap:=h'}) e c d (by decide) ⟨x,H,I1,ru,⟨rfl,λys hy=>by rw[I.list_inj hy hq];exact hx⟩,st',λb hb=>(hf b hb).1⟩⟩
 done:=by
  intro X hP hw hK hc i p6 s σ H E I hf st hg;subst hP hw hK;let⟨xs,hq,hx⟩:=hg;let⟨pf,rv,p,hz⟩:=I.list hq;let⟨f0,f1,f2,f3,f4,f5⟩:=hf it (by simp);have hl:=rv.length;exact wpAny_pyNext_list_end (I.ok.hd hc) st p.isList (by simp;lia) λh' eb=>⟨rfl,I.turned (t':=s.toks) (λb o hb e=>eb b o hb e) f0 f1 f3 f4 f5⟩
 self:=λ_ _ _ _ _ st h=>wpAny_pyIter_listiter st h
def zcg(a it:Addr):Turn P w K tg (Itt K a) [it] it (λi h=>h.IsTupleIter it a i) where
 mem:=by simp
 obj:=λi h st b hb=>by
  have e:b=it:=by simpa using hb
  subst e;let⟨o,e,c,d⟩:=st;exact⟨o,e,λv z=>by rw[d]at z;cases z⟩
 keep:=λi h h' st k=>st.at λo e=>k it (by simp) o e
 item:=by
  intro X hP hw hK hc i p6 s σ H E I hf st hg;subst hP hw hK;let⟨xs,x,hq,hx⟩:=hg;let⟨pf,rv,p,hz⟩:=I.tuple hq;let⟨u,hu,ru⟩:=rv.get hx;let⟨f0,f1,f2,f3,f4,f5⟩:=hf it (by simp);refine wpAny_pyNext_tuple_item st (show s.heap.IsTuple a pf.toArray from p) (x:=u) (by simpa using hu) λh' st' sb=>?_;have I1:Inv X p6 σ H {s with heap:=h'}:=I.turned (t':=s.toks) (λb o hb e=>(sb.2 b hb).trans e) f0 f1 f3 f4 f5;let⟨o,e,c,d⟩:=id st';exact⟨u,rfl,zdH (s:={s with heap:=h'}) e c d (by decide) ⟨x,H,I1,ru,⟨rfl,λys hy=>by rw[I.tuple_inj hy hq];exact hx⟩,st',λb hb=>(hf b hb).1⟩⟩
 done:=by
  intro X hP hw hK hc i p6 s σ H E I hf st hg;subst hP hw hK;let⟨xs,hq,hx⟩:=hg;let⟨pf,rv,p,hz⟩:=I.tuple hq;let⟨f0,f1,f2,f3,f4,f5⟩:=hf it (by simp);have hl:=rv.length;exact wpAny_pyNext_tuple_end (I.ok.hd hc) st (show s.heap.IsTuple a pf.toArray from p) (by simp;lia) λh' eb=>⟨rfl,I.turned (t':=s.toks) (λb o hb e=>eb b o hb e) f0 f1 f3 f4 f5⟩
 self:=λ_ _ _ _ _ st h=>wpAny_pyIter_tupleiter st h
def zch(it:Addr)(lo:Int)(n:Nat):Turn P w K tg (Itr lo n) [it] it (λi h=>IsRangeIter h it (lo+(i:Nat)*1) ((n:Int)-(i:Nat)) 1) where
 mem:=by simp
 obj:=λi h st b hb=>by
  have e:b=it:=by simpa using hb
  subst e;exact⟨_,st,λv z=>by
   have z':Data.fields _=Data.cell v:=z;cases z'⟩
 keep:=λi h h' st k=>k it (by simp) _ st
 item:=by
  intro X hP hw hK hc i p6 s σ H E I hf st hg;subst hP hw hK;let⟨f0,f1,f2,f3,f4,f5⟩:=hf it (by simp);have W:=Walks.range (prog:=X.prog) (w:=X.w) (I.ok.hd hc) it lo 1 n;refine W.item i s _ _ hg st λv h' tk hv st' kk=>?_;let⟨t,rfl⟩:=hv;have I1:Inv X p6 σ H {s with heap:=h',toks:=tk}:=I.turned (λb o hb e=>kk b o (by simpa using hb) e) f0 f1 f3 f4 f5;refine⟨_,rfl,zdH (s:={s with heap:=h',toks:=tk}) (n:="range_iterator") st' rfl rfl (by decide) ⟨.int (lo+i),H,I1,⟨t,?_⟩,⟨rfl,rfl⟩,st',λb hb=>(hf b hb).1⟩⟩;rw[Int.mul_one]
 done:=by
  intro X hP hw hK hc i p6 s σ H E I hf st hg;subst hP hw hK;let⟨f0,f1,f2,f3,f4,f5⟩:=hf it (by simp);exact wpAny_pyNext_range_end (I.ok.hd hc) st (by have:n<=i:=hg;lia) λh' eb=>⟨rfl,I.turned (t':=s.toks) (λb o hb e=>eb b o hb e) f0 f1 f3 f4 f5⟩
 self:=λ_ _ _ _ _ st h=>wpAny_pyIter_rangeiter st h
section
variable{X:Cx}{tg:Expr}
def zfw{R:It->Hp->Prop}{lo hi:Int}{t u v:Tok}{tk:Nat}(I:Inv X p6 σ H s)(h1:-(2^62)<=lo)(h2:lo<2^62)(h3:-(2^62)<=hi)(h4:hi<2^62)(q:R (Itr lo (hi-lo).toNat) H):wpAny (model X.prog X.w) X.A (pyIter (.ref s.heap.objs.size)) (PIE X p6 σ tg R) E {s with heap:=s.heap.push {cls:=.type "range",data:=.fields #[.int lo t,.int hi u,.int 1 v]},toks:=tk}:=by
 refine wpAny_pyIter_range (IsRange.new ..) (small_one h1 h2 h3 h4) ?_;have I1:Inv X p6 σ H {s with heap:=s.heap.push {cls:=.type "range",data:=.fields #[.int lo t,.int hi u,.int 1 v]},toks:=tk}:=I.kept λb o e=>aj _ e;refine⟨(s.heap.push {cls:=.type "range",data:=.fields #[.int lo t,.int hi u,.int 1 v]}).objs.size,[(s.heap.push {cls:=.type "range",data:=.fields #[.int lo t,.int hi u,.int 1 v]}).objs.size],_,_,H,rfl,
  I1.kept (t':=tk) λb o e=>aj _ e,zch _ lo (hi-lo).toNat,?_,λb hb=>?_,q⟩
 .have e1:lo+((0:Nat):Int)*1=lo:=by simp
  have e2:(((hi-lo).toNat:Nat):Int)-((0:Nat):Int)=Builtin.Range.rangeSize lo hi 1:=by rw[rangeSize_one];split<;>lia
  show IsRangeIter _ _ (lo+((0:Nat):Int)*1) ((((hi-lo).toNat:Nat):Int)-((0:Nat):Int)) 1
  rw[e1,e2];exact aI _ rfl
 .have e:b=(s.heap.push {cls:=.type "range",data:=.fields #[.int lo t,.int hi u,.int 1 v]}).objs.size:=by simpa using hb
  subst e;exact I1.fpOk (ar _) (I1.hok.fresh (ar _))
def iRng1(ta:TA):TI:=λσ H R=>ta σ H λvs H1=>lq vs λv=>iq v λj=>-(2^62)<=j/\j<2^62/\R (Itr 0 j.toNat) H1
def zes{a:Expr}{ta:TA}{p pos:Pos}(hg:Gl X "range")(hm:X.mg "range"=none)(ha:PA X [a] ta)(hs:starEach [a] X.env=[(false,eval a X.env)]:=by rfl):PI X tg (.Call (.Name "range" p) [a] [] pos) (iRng1 ta):=by
 intro p6 s σ H R I h;refine Call_ (vI I hg hm boot_range (bA (vZ (ha pos p6 s σ H _ I h) λus s1 vs H1 I1 r1 q1=>?_) hs rfl));let⟨v,e,q0⟩:=zfY q1;clear q1;let⟨j,e2,q1,q2,q⟩:=Qg q0;subst e2;subst e;cases r1 with
 |cons r rr =>
  cases rr;let⟨t,rfl⟩:=r;exact call_range_1 (zfw I1 (by lia) (by lia) q1 q2 (by simpa using q))
def tFor(wi:TI)(g:TG)(tb:TS):TS:=λD σ H=>wi σ H λJ H1=>∃W:Nat->Nat->St->Hp->Prop,(∃m,W 0 m σ H1)/\∀i m σ H,W i m σ H ->
 (J.stop i H/\D.nx σ H)\/(J.go i H/\∃N:St->Hp->Prop,(∀σ' H',N σ' H'->∃m',m'<m/\W (i+1) m' σ' H')/\∀x H',J.yld i H x H'->g x σ H' λσ2 H2=>tb {D with nx:=N,ct:=N,bk:=D.nx} σ2 H2)
noncomputable def XA(fp:Ac)(h:Heap):List (Addr×Obj):=fp.filterMap λb=>(h.get? b).map λo=>(b,o)
def wH{fp:Ac}{h:Heap}{o:Obj}(hb:b∈fp)(e:h.get? b=some o):(b,o)∈XA fp h:=gE.mpr ⟨b,hb,by rw[e];rfl⟩
def zey{fp:Ac}{h:Heap}{p:Addr×Obj}(hp:p∈XA fp h):p.1∈fp/\h.get? p.1=some p.2:=by
 let⟨b,hb,e⟩:=gE.mp hp;cases q:h.get? b with
 |none=>rw[q]at e;cases e
 |some o =>
  rw[q]at e;have e':(b,o)=p:=aT e;subst e';exact⟨hb,q⟩
def Inv.pinned{fp:Ac}(I:Inv X p6 σ H s)(hf:∀b∈fp,Q0 X p6 H b)(ho:∀b∈fp,∃o,s.heap.get? b=some o/\∀v,o.data≠.cell v):Inv X (p6++XA fp s.heap) σ H s :=
 I.pins_of λp hp=>(ax.mp hp).elim (λz=>I.pin p (aX _ z)) λz=>by
  let⟨hb,e⟩:=zey z;let⟨f0,f1,f2,_⟩:=hf p.1 hb;let⟨o,e',d⟩:=ho p.1 hb;rw[e]at e';cases e';exact⟨e,f0,f1,f2,d⟩
def Inv.unpinned{p6 pl:A3}(I:Inv X (p6++pl) σ H s):Inv X p6 σ H s:=I.pins_of λp hp=>I.pin p (aX _ (bP _ hp))
theorem z6{iter:Expr}{body:List Stmt}{wi:TI}{g:TG}{tb:TS}(hp:PassesOwn (model X.prog X.w) X.A X.env X.xe)(hc:X.calm=true)(hi:PI X tg iter wi)(hg:PG X tg g)(hb:PSs X body tb)(hs:∀x,foldedSetIterable iter X.env x=pure x:=by intro _;rfl):PS X (.For tg iter body [] pos) (tFor wi g tb):=by
 intro p6 s σ H D I h;refine wpAny_For (thn (hi p6 s σ H _ I h) λv s1 h1=>thn h1 λitv s2 h2=>?_) hs;let⟨it,fp,tn,J,H2,e,I2,T,st2,f2,W,⟨m0,w0⟩,turn⟩:=h2;subst e;have stat:∀{H':Hp},(∀b∈fp,H' b=none)->∀b∈fp,Q0 X p6 H' b:=λhn b hb=>⟨hn b hb,(f2 b hb).2⟩;refine codeAny_forLoop_any (λn s'=>∃i σ' H',Inv X p6 σ' H' s'/\tn i s'.heap/\(∀b∈fp,H' b=none)/\W i n σ' H') ?_ m0 ⟨0,σ,H2,I2,st2,λb hb=>(f2 b hb).1,w0⟩;rintro n s3 ⟨i,σ3,H3,I3,st3,fr3,w3⟩;rcases turn i n σ3 H3 w3 with⟨stop,qn⟩|⟨go,N,hN,step⟩
 .refine cj hp (thn (T.done X rfl rfl rfl hc i p6 s3 σ3 H3 X.xe I3 (stat fr3) st3 stop) λr s4 ⟨hr,I4⟩=>?_);subst hr;exact cE ⟨σ3,H3,I4,qn⟩
 .refine cj hp (thn (T.item X rfl rfl rfl hc i p6 s3 σ3 H3 X.xe I3 (stat fr3) st3 go) λr s4 ⟨u,hr,h4⟩=>?_);subst hr;refine cj hp (thn h4 λ_ s5 ⟨x,H5,I5,r5,y5,st5,fr5⟩=>?_);have I5':=I5.pinned (stat fr5) (T.obj _ _ st5);refine cj hp (thn (hg _ s5 σ3 H5 x u _ I5' r5 (step x H5 y5)) λ_ s6 ⟨σ6,H6,I6,q6⟩=>?_);refine cj hp (thn (hb _ s6 σ6 H6 _ I6 q6) λf s7 q7=>?_);have again:∀{σ7:St}{H7:Hp},Inv X (p6++XA fp s5.heap) σ7 H7 s7->N σ7 H7->∃m,m<n/\∃i σ' H',Inv X p6 σ' H' s7/\tn i s7.heap/\(∀b∈fp,H' b=none)/\W i m σ' H':=λ{σ7 H7} I7 n7=>by
   let⟨m',hm,w7⟩:=hN σ7 H7 n7;refine⟨m',hm,i+1,σ7,H7,I7.unpinned,T.keep _ _ _ st5 λb hb o e=>(I7.pin (b,o) (aX _ (aX _ (wH hb e)))).1,λb hb=>?_,w7⟩;let⟨o,e,d⟩:=T.obj _ _ st5 b hb;exact(I7.pin (b,o) (aX _ (aX _ (wH hb e)))).2.1
  cases f with
  |next=>let⟨σ7,H7,I7,n7⟩:=q7;exact again I7 n7
  |cont=>let⟨σ7,H7,I7,n7⟩:=q7;exact again I7 n7
  |brk=>let⟨σ7,H7,I7,q7⟩:=q7;exact⟨σ7,H7,I7.unpinned,q7⟩
  |ret v=>let⟨x7,σ7,H7,I7,r7,q7⟩:=q7;exact⟨x7,σ7,H7,I7.unpinned,r7,q7⟩
end
abbrev R2:=V->V->Hp->VK->Prop
def OpR(X:Cx)(f:Al)(r:R2):Prop :=
 ∀(p6:A3)(s:An)(σ:St)(H:Hp)(x y:V)(v u:Am)(Q:VK),Inv X p6 σ H s->RelV x v->RelV y u->r x y H Q ->
  wpAny (model X.prog X.w) X.A (f v u) (EP X p6 σ Q) X.xe s
def UnR(X:Cx)(f:Value->Sem Value)(r:V->Hp->VK->Prop):Prop :=
 ∀(p6:A3)(s:An)(σ:St)(H:Hp)(x:V)(v:Am)(Q:VK),Inv X p6 σ H s->RelV x v->r x H Q ->
  wpAny (model X.prog X.w) X.A (f v) (EP X p6 σ Q) X.xe s
def CallR(X:Cx)(f:Am)(r:List V->Hp->VK->Prop):Prop :=
 ∀(p6:A3)(s:An)(σ:St)(H:Hp)(xs:Ap)(us:A8)(Q:VK),Inv X p6 σ H s->Vals xs us->r xs H Q ->
  wpAny (model X.prog X.w) X.A (call f us) (EP X p6 σ Q) X.xe s
def zjX(X:Cx)(r:V->Hp->(Bool->Hp->Prop)->Prop):Prop :=
 ∀(p6:A3)(s:An)(σ:St)(H:Hp)(x:V)(v:Am)(Q:Bool->Hp->Prop),Inv X p6 σ H s->RelV x v->r x H Q ->
  wpAny (model X.prog X.w) X.A (truthy v) (TP X p6 σ Q) X.xe s
def tOp(r:R2)(ta tb:TE):TE:=λσ H Q=>ta σ H λx H1=>tb σ H1 λy H2=>r x y H2 Q
def tUn(r:V->Hp->VK->Prop)(ta:TE):TE:=λσ H Q=>ta σ H λx H1=>r x H1 Q
def rI(C:Int->Int->Prop)(g:Int->Int->V):R2:=λx y H Q=>iq x λi=>iq y λj=>C i j/\Q (g i j) H
def rI0(g:Int->Int->V):R2:=λx y H Q=>iq x λi=>iq y λj=>Q (g i j) H
def rU(g:Int->V):V->Hp->VK->Prop:=λx H Q=>iq x λi=>Q (g i) H
section
variable{X:Cx}{a b c:Expr}{ta tb tc:TE}{pos:Pos}
def zi3(ha:PE X a ta)(hb:PE X b tb){R:V->V->Hp->Prop}(I:Inv X p6 σ H s)(h:ta σ H λx H1=>tb σ H1 λy H2=>R x y H2)(hf:∀v u s2 x y H2,Inv X p6 σ H2 s2->RelV x v->RelV y u->R x y H2->wpAny (model X.prog X.w) X.A (f v u) Q X.xe s2) :
  wpAny (model X.prog X.w) X.A (eval a X.env) (λv s₁=>wpAny (model X.prog X.w) X.A (eval b X.env) (λu s₂=>wpAny (model X.prog X.w) X.A (f v u) Q X.xe s₂) X.xe s₁) X.xe s:=by
 refine qL (ha p6 s σ H _ I h) λv s1 x H1 I1 r1 q1=>?_;refine qL (hb p6 s1 σ H1 _ I1 q1) λu s2 y H2 I2 r2 q2=>?_;exact hf v u s2 x y H2 I2 r1 r2 q2
def zo{op:Operator}{r:R2}(ho:OpR X (binaryOp op) r)(ha:PE X a ta)(hb:PE X b tb):PE X (.BinOp a op b pos) (tOp r ta tb):=by
 intro p6 s σ H Q I h;exact wpAny_BinOp (zi3 ha hb I h λv u s2 x y H2 I2 rx ry q=>ho p6 s2 σ H2 x y v u Q I2 rx ry q)
def Jd{op:UnaryOp}{r:V->Hp->VK->Prop}(ho:UnR X (unaryOp op) r)(ha:PE X a ta):PE X (.UnaryOp op a pos) (tUn r ta):=by
 intro p6 s σ H Q I h;exact UnaryOp_ (qL (ha p6 s σ H _ I h) λv s1 x H1 I1 r1 q1=>ho p6 s1 σ H1 x v Q I1 r1 q1)
def opI{C:Int->Int->Prop}{g:Int->Int->Int}(rule:∀(i j:Int)(t u:Tok)(s:An)(Q:A4)(E:A4),C i j->Q (.int (g i j) s.toks) {s with toks:=s.toks+1}->wpAny (model X.prog X.w) X.A (f (.int i t) (.int j u)) Q E s) :
  OpR X f (rI C λi j=>.int (g i j)):=by
 intro p6 s σ H x y v u Q I rx ry h;let⟨i,j,rfl,rfl,hc,q⟩:=X3 h;let⟨t,rfl⟩:=rx;let⟨t',rfl⟩:=ry;exact rule i j t t' s _ _ hc ⟨.int (g i j),H,I.tok _,⟨_,rfl⟩,q⟩
def zjq{g:Int->Int->Int}(rule:∀(i j:Int)(t u:Tok)(s:An)(Q:A4)(E:A4),Q (.int (g i j) s.toks) {s with toks:=s.toks+1}->wpAny (model X.prog X.w) X.A (f (.int i t) (.int j u)) Q E s) :
  OpR X f (rI0 λi j=>.int (g i j)):=by
 intro p6 s σ H x y v u Q I rx ry h;let⟨i,j,rfl,rfl,q⟩:=X3 h;let⟨t,rfl⟩:=rx;let⟨t',rfl⟩:=ry;exact rule i j t t' s _ _ ⟨.int (g i j),H,I.tok _,⟨_,rfl⟩,q⟩
def zhd{g:Int->Int->Bool}(rule:∀(i j:Int)(t u:Tok)(s:An)(Q:A4)(E:A4),Q (.bool (g i j)) s->wpAny (model X.prog X.w) X.A (f (.int i t) (.int j u)) Q E s) :
  OpR X f (rI0 λi j=>.bl (g i j)):=by
 intro p6 s σ H x y v u Q I rx ry h;let⟨i,j,rfl,rfl,q⟩:=X3 h;let⟨t,rfl⟩:=rx;let⟨t',rfl⟩:=ry;exact rule i j t t' s _ _ ⟨.bl (g i j),H,I,rfl,q⟩
def zjZ(i j:Int):Prop:=0<j/\j<1073741824
def zjF(i j:Int):Prop:=0<=j/\j<=1000000/\i.natAbs<2^64
def CMul(i j:Int):Prop:=(-(2^64)<i/\i<2^64)\/(-(2^64)<j/\j<2^64)
def CMul.ok{i j:Int}(h:CMul i j):IntMulOk i j:=by
 rcases h with⟨h1,h2⟩|⟨h1,h2⟩
 .exact .of_left (intBits_le_64 h1 h2)
 .exact .of_right (intBits_le_64 h1 h2)
def op_add:OpR X (binaryOp .Add) (rI0 λi j=>.int (i+j)):=zjq λ_ _ _ _ _ _ _ q=>add_int q
def j9:OpR X (binaryOp .Sub) (rI0 λi j=>.int (i-j)):=zjq λ_ _ _ _ _ _ _ q=>sub_int q
def zhb:OpR X (binaryOp .FloorDiv) (rI zjZ λi j=>.int (i/j)):=opI λi j _ _ _ _ _ hc q=>by
 have h1:(0:Int)<j:=hc.1;have h2:j<1073741824:=hc.2;exact floordiv_int (by lia) (by rw[cm i (by lia)];exact q) (.inl (fC (by lia)))
def qD:OpR X (binaryOp .Mod) (rI (λ_ j=>0<j) λi j=>.int (i%j)):=opI λi j _ _ _ _ _ hc q=>by
 have h1:(0:Int)<j:=hc;exact mod_int' (by lia) (by rw[Int.fmod_eq_emod_of_nonneg i (by lia)];exact q)
def ziC:OpR X (binaryOp .Pow) (rI zjF λi j=>.int (i^j.toNat)):=opI λ_ _ _ _ _ _ _ hc q=>pow_int_small hc.1 hc.2.1 hc.2.2 q
def unI{f:Value->Sem Value}{g:Int->Int}(rule:∀(i:Int)(t:Tok)(s:An)(Q:A4)(E:A4),Q (.int (g i) s.toks) {s with toks:=s.toks+1}->wpAny (model X.prog X.w) X.A (f (.int i t)) Q E s) :
  UnR X f (rU λi=>.int (g i)):=by
 intro p6 s σ H x v Q I rx h;let⟨i,rfl,q⟩:=Qg h;let⟨t,rfl⟩:=rx;exact rule i t s _ _ ⟨.int (g i),H,I.tok _,⟨_,rfl⟩,q⟩
def wZ:UnR X (unaryOp .USub) (rU λi=>.int (-i)):=unI λ_ _ _ _ _ q=>neg_int q
end
noncomputable def zjf:V->V->Bool
 | .non,.non=>true | .non,.int _=>true | .int _,.non=>true | .non,.bl _=>true | .bl _,.non=>true | .non,.str _=>true | .str _,.non=>true
 | .int _,.int _=>true | .bl _,.bl _=>true | .str _,.str _=>true | .byt _,.byt _=>true
 | .int _,.str _=>true | .str _,.int _=>true | .bl _,.str _=>true | .str _,.bl _=>true
 |_,_=>false
def rEq:R2:=λx y H Q=>zjf x y=true/\Q (.bl (decide (x=y))) H
def rNe:R2:=λx y H Q=>zjf x y=true/\Q (.bl (!decide (x=y))) H
def zdR{i j:Int}:decide (V.int i=V.int j)=(i == j):=by
 rw[dG];simp
def zgs{i j:Bool}:decide (V.bl i=V.bl j)=(i == j):=by
 rw[dG];simp
def zdQ{i j:Str}:decide (V.str i=V.str j)=(i == j):=by
 rw[dG];simp
def zdS{i j:Array UInt8}:decide (V.byt i=V.byt j)=(i.toList == j.toList):=by
 rw[dG];cases i;cases j;simp
section
variable{X:Cx}{a b c:Expr}{ta tb tc:TE}{pos:Pos}
def qc{Q:VK}{k k':Bool}(I:Inv X p6 σ H s)(q:Q (.bl k) H)(e:k=k'):EP X p6 σ Q (.bool k') s:=by
 subst e;exact⟨.bl k,H,I,rfl,q⟩
def op_eq:OpR X (compareOp .Eq) rEq:=by
 intro p6 s σ H x y v u Q I rx ry h;let⟨hs,q⟩:=h;cases x with
 |non =>
  cases rx;cases y with
  |non=>cases ry;exact PySem.EqNone.eq_none_none (qc I q (by simp))
  |bl j=>cases ry;exact PySem.EqNone.eq_none_bool (qc I q (by simp))
  |int j=>let⟨t',rfl⟩:=ry;exact PySem.EqNone.eq_none_int (qc I q (by simp))
  |str j=>let⟨t',rfl⟩:=ry;exact PySem.EqNone.eq_none_str (qc I q (by simp))
  |_=>exact absurd (show false=true from hs) aD
 |bl i =>
  cases rx;cases y with
  |non=>cases ry;exact PySem.EqNone.eq_bool_none (qc I q (by simp))
  |bl j=>cases ry;exact eq_bool (qc I q zgs)
  |str j=>let⟨t',rfl⟩:=ry;exact PySem.EqMixed.eq_bool_str (qc I q (by simp))
  |_=>exact absurd (show false=true from hs) aD
 |int i =>
  let⟨t,rfl⟩:=rx;cases y with
  |non=>cases ry;exact PySem.EqNone.eq_int_none (qc I q (by simp))
  |int j=>let⟨t',rfl⟩:=ry;exact eq_int (qc I q zdR)
  |str j=>let⟨t',rfl⟩:=ry;exact PySem.EqMixed.eq_int_str (qc I q (by simp))
  |_=>exact absurd (show false=true from hs) aD
 |str i =>
  let⟨t,rfl⟩:=rx;cases y with
  |non=>cases ry;exact PySem.EqNone.eq_str_none (qc I q (by simp))
  |bl j=>cases ry;exact PySem.EqMixed.eq_str_bool (qc I q (by simp))
  |int j=>let⟨t',rfl⟩:=ry;exact PySem.EqMixed.eq_str_int (qc I q (by simp))
  |str j=>let⟨t',rfl⟩:=ry;exact eq_str (qc I q zdQ)
  |_=>exact absurd (show false=true from hs) aD
 |byt i =>
  let⟨t,rfl⟩:=rx;cases y with
  |byt j=>let⟨t',rfl⟩:=ry;exact PySem.W.eq_bytes (qc I q zdS)
  |_=>exact absurd (show false=true from hs) aD
 |_=>cases y<;>exact absurd (show false=true from hs) aD
def op_ne:OpR X (compareOp .NotEq) rNe:=by
 intro p6 s σ H x y v u Q I rx ry h;let⟨hs,q⟩:=h;cases x with
 |non =>
  cases rx;cases y with
  |non=>cases ry;exact PySem.EqNone.ne_none_none (qc I q (by simp))
  |bl j=>cases ry;exact PySem.EqNone.ne_none_bool (qc I q (by simp))
  |int j=>let⟨t',rfl⟩:=ry;exact PySem.EqNone.ne_none_int (qc I q (by simp))
  |str j=>let⟨t',rfl⟩:=ry;exact PySem.EqNone.ne_none_str (qc I q (by simp))
  |_=>exact absurd (show false=true from hs) aD
 |bl i =>
  cases rx;cases y with
  |non=>cases ry;exact PySem.EqNone.ne_bool_none (qc I q (by simp))
  |bl j=>cases ry;exact ne_bool (qc I q (bE not zgs))
  |str j=>let⟨t',rfl⟩:=ry;exact PySem.EqMixed.ne_bool_str (qc I q (by simp))
  |_=>exact absurd (show false=true from hs) aD
 |int i =>
  let⟨t,rfl⟩:=rx;cases y with
  |non=>cases ry;exact PySem.EqNone.ne_int_none (qc I q (by simp))
  |int j=>let⟨t',rfl⟩:=ry;exact ne_int (qc I q (bE not zdR))
  |str j=>let⟨t',rfl⟩:=ry;exact PySem.EqMixed.ne_int_str (qc I q (by simp))
  |_=>exact absurd (show false=true from hs) aD
 |str i =>
  let⟨t,rfl⟩:=rx;cases y with
  |non=>cases ry;exact PySem.EqNone.ne_str_none (qc I q (by simp))
  |bl j=>cases ry;exact PySem.EqMixed.ne_str_bool (qc I q (by simp))
  |int j=>let⟨t',rfl⟩:=ry;exact PySem.EqMixed.ne_str_int (qc I q (by simp))
  |str j=>let⟨t',rfl⟩:=ry;exact ne_str (qc I q (bE not zdQ))
  |_=>exact absurd (show false=true from hs) aD
 |byt i =>
  let⟨t,rfl⟩:=rx;cases y with
  |byt j=>let⟨t',rfl⟩:=ry;exact PySem.W.ne_bytes (qc I q (bE not zdS))
  |_=>exact absurd (show false=true from hs) aD
 |_=>cases y<;>exact absurd (show false=true from hs) aD
def op_lt:OpR X (compareOp .Lt) (rI0 λi j=>.bl (decide (i<j))):=zhd λ_ _ _ _ _ _ _ q=>lt_int q
def op_le:OpR X (compareOp .LtE) (rI0 λi j=>.bl (decide (i<=j))):=zhd λ_ _ _ _ _ _ _ q=>le_int q
def op_gt:OpR X (compareOp .Gt) (rI0 λi j=>.bl (decide (j<i))):=zhd λ_ _ _ _ _ _ _ q=>gt_int q
def op_ge:OpR X (compareOp .GtE) (rI0 λi j=>.bl (decide (j<=i))):=zhd λ_ _ _ _ _ _ _ q=>ge_int q
def op_isN:OpR X (compareOp .Is) (λx y H Q=>nq y (Q (.bl (decide (x=.non))) H)):=by
 intro p6 s σ H x y v u Q I rx ry h;let⟨rfl,q⟩:=zdz h;cases ry;refine is_none_gen (qc I q ?_);cases x<;>first
  |(cases rx;rfl)
  |(let⟨t,rfl⟩:=rx;rfl)
def op_notN:OpR X (compareOp .IsNot) (λx y H Q=>nq y (Q (.bl (!decide (x=.non))) H)):=by
 intro p6 s σ H x y v u Q I rx ry h;let⟨rfl,q⟩:=zdz h;cases ry;refine isnot_none_gen (qc I q ?_);cases x<;>first
  |(cases rx;rfl)
  |(let⟨t,rfl⟩:=rx;rfl)
def OpR.or{r r':R2}(h:OpR X f r)(h':OpR X f r'):OpR X f (λx y H Q=>r x y H Q\/r' x y H Q):=by
 intro p6 s σ H x y v u Q I rx ry q;rcases q with q|q
 .exact h p6 s σ H x y v u Q I rx ry q
 .exact h' p6 s σ H x y v u Q I rx ry q
def zk(b:Expr)(h:op≠.In:=by decide)(h2:op≠.NotIn:=by decide):behindInMarks op b=false:=by
 have e1:(op == CmpOp.In)=false:=by cases op<;>first|rfl|exact absurd rfl h
 have e2:(op == CmpOp.NotIn)=false:=by cases op<;>first|rfl|exact absurd rfl h2
 cases b<;>simp[behindInMarks,e1,e2]
def xI{r:R2}(ho:OpR X (compareOp op) r)(ha:PE X a ta)(hb:PE X b tb)(hm:behindInMarks op b=false):PE X (.Compare a [op] [b] pos) (tOp r ta tb):=by
 intro p6 s σ H Q I h;exact wpAny_Compare1 (zi3 ha hb I h λv u s2 x y H2 I2 rx ry q=>ho p6 s2 σ H2 x y v u Q I2 rx ry q) hm
def tTest(t:TE):TT:=λσ H Q=>t σ H λx H'=>bq x λk=>Q k H'
def zi{r:R2}(ho:OpR X (compareOp op) r)(ha:PE X a ta)(hb:PE X b tb)(hm:behindInMarks op b=false):PT X (.Compare a [op] [b] pos) (tTest (tOp r ta tb)):=by
 intro p6 s σ H Q I h;refine wpAny_isTrue_Compare1 (qL (ha p6 s σ H _ I h) λv s1 x H1 I1 r1 q1=>qL (hb p6 s1 σ H1 _ I1 q1) λu s2 y H2 I2 r2 q2 =>
  thn (ho p6 s2 σ H2 x y v u _ I2 r1 r2 q2) λc s3 ⟨z,H3,I3,r3,q3⟩=>?_) hm
 let⟨k,e,q3⟩:=We q3;subst e;cases r3;exact b8 ⟨H3,I3,q3⟩
def tChain(r r':R2)(ta tb tc:TE):TE:=λσ H Q=>ta σ H λx H1=>tb σ H1 λy H2=>r x y H2 λz H3=>bq z λk =>
 (if k=true then tc σ H3 λw' H4=>r' y w' H4 Q else Q (.bl false) H3)
theorem jy{op op':CmpOp}{r r':R2}(ho:OpR X (compareOp op) r)(ho':OpR X (compareOp op') r')(ha:PE X a ta)(hb:PE X b tb)(hc:PE X c tc)(hm:lastMarks [op,op'] [b,c]=false:=by with_unfolding_all rfl):PT X (.Compare a [op,op'] [b,c] pos) (tTest (tChain r r' ta tb tc)):=by
 intro p6 s σ H Q I h;refine isTrue_chain (qL (ha p6 s σ H _ I h) λv s1 x H1 I1 r1 q1=>test_link (qL (hb p6 s1 σ H1 _ I1 q1) λu s2 y H2 I2 r2 q2 =>
  thn (ho p6 s2 σ H2 x y v u _ I2 r1 r2 q2) λd s3 ⟨z,H3,I3,r3,q3⟩=>?_)) hm
 let⟨k,e,q3⟩:=We q3;subst e;cases r3;refine b8 ?_;cases k with
 |false =>
  let⟨k',e',q'⟩:=We q3;cases e';exact ite_ff ⟨H3,I3,q'⟩
 |true =>
  refine ite_tt (test_last (thn (hc p6 s3 σ H3 _ I3 q3) λw' s4 ⟨z',H4,I4,r4,q4⟩=>thn (ho' p6 s4 σ H4 y z' u w' _ I4 r2 r4 q4) λd' s5 ⟨z2,H5,I5,r5,q5⟩=>?_));let⟨k2,e2,q5⟩:=We q5;subst e2;cases r5;exact b8 ⟨H5,I5,q5⟩
def zeW(K:A0)(x:V)(H:Hp)(k:Bool):Prop :=
 match x with
 | .non=>k=false
 | .bl b=>k=b
 | .int i=>k=(i != 0)
 | .str y=>y.length<=sizeLine/\k=((y.length:Int) != 0)
 | .byt y=>y.size<=sizeLine/\k=((y.size:Int) != 0)
 | .ref p=>(∃xs,SqL K H p xs/\k=!xs.isEmpty)\/(∃xs,SqT K H p xs/\k=!xs.isEmpty)\/∃pi,H p=some (.dK pi)/\k=!pi.isEmpty
 |_=>False
def zcV{κ:Type}{pi:List (κ×V)}{vs:List (κ×Value)}(r:KV pi vs):(!vs.isEmpty)=!pi.isEmpty:=by
 cases r<;>rfl
def X2{xs:Ap}{pf:A8}(r:Vals xs pf):(!pf.toArray.isEmpty)=!xs.isEmpty:=by
 cases r<;>simp
def ZA:(sizeLine:Nat)<2^63:=by rw[fm];decide
def zh8:zjX X (λx H Q=>∃k,zeW X.K x H k/\Q k H):=by
 intro p6 s σ H x v Q I rx h;let⟨k,e,q⟩:=h;have hl:=ZA;have hs:sizeLine=16777216:=fm;cases x with
 |non =>
  cases rx;have e':k=false:=e;subst e';exact truthy_none ⟨H,I,q⟩
 |bl b =>
  cases rx;have e':k=b:=e;subst e';exact b8 ⟨H,I,q⟩
 |int i =>
  let⟨t,rfl⟩:=rx;have e':k=(i != 0):=e;subst e';exact PySem.P.truthy_int ⟨H,I,q⟩
 |str y =>
  let⟨t,rfl⟩:=rx;let⟨hy,e'⟩:y.length<=sizeLine/\k=((y.length:Int) != 0):=e;subst e';exact PySem.P.truthy_str (by lia) ⟨H,I.tok _,q⟩
 |byt y =>
  let⟨t,rfl⟩:=rx;let⟨hy,e'⟩:y.size<=sizeLine/\k=((y.size:Int) != 0):=e;subst e';exact PySem.W.truthy_bytes (by lia) ⟨H,I.tok _,q⟩
 |ref p =>
  cases rx;have e':(∃xs,SqL X.K H p xs/\k=!xs.isEmpty)\/(∃xs,SqT X.K H p xs/\k=!xs.isEmpty)\/∃pi,H p=some (.dK pi)/\k=!pi.isEmpty:=e;rcases e' with⟨xs,hx,e'⟩|⟨xs,hx,e'⟩|⟨pi,hx,e'⟩
  .subst e';let⟨pf,r,pl,hz⟩:=I.list hx;have hlen:=r.length;exact wpAny_truthy_list pl.isList (by simp only[au];lia) ⟨H,I.tok _,by rw[X2 r];exact q⟩
  .subst e';let⟨pf,r,pl,hz⟩:=I.tuple hx;have hlen:=r.length;exact truthy_tuple pl (by simp only[au];lia) ⟨H,I.tok _,by rw[X2 r];exact q⟩
  .subst e';let⟨hz,hS,vs,r,m⟩:pi.length<=sizeLine/\(p == sysModules)=false/\∃vs,KV pi vs/\s.heap.DictOf (zar X.prog X.w) p vs:=I.hok p _ hx;have hlen:pi.length=vs.length:=cZ r;exact wpAny_truthy_dict hS m (by lia) ⟨H,I.tok _,by rw[zcV r];exact q⟩
 |_=>exact(show False from e).elim
def trq(K:A0)(x:V)(H:Hp)(Q:Bool->Hp->Prop):Prop :=
 match x with
 | .bl b=>Q b H
 |x=>∃k,zeW K x H k/\Q k H
def zh9{x:V}{Q:Bool->Hp->Prop}(h:trq K x H Q):∃k,zeW K x H k/\Q k H:=by
 cases x<;>first|exact⟨_,rfl,h⟩|exact h
def tTru(K:A0)(ta:TE):TT:=λσ H Q=>ta σ H λx H'=>trq K x H' Q
def zY(ha:PE X a ta)(he:∀whole,isTrue a X.env whole=(do let v <- whole;standAt a.pos;holding [v] (truthy v))) :
  PT X a (tTru X.K ta):=by
 intro p6 s σ H Q I h;exact isTrue_plain (qL (ha p6 s σ H _ I h) λv s1 x H1 I1 r1 q1=>zh8 p6 s1 σ H1 x v Q I1 r1 (zh9 q1)) (he _)
def op_add_str:OpR X (binaryOp .Add) (λx y H Q=>∃i j,x=.str i/\y=.str j/\i.length+j.length<=sizeLine/\Q (.str (i++j)) H):=by
 intro p6 s σ H x y v u Q I rx ry h;let⟨i,j,rfl,rfl,hz,q⟩:=h;let⟨t,rfl⟩:=rx;let⟨t',rfl⟩:=ry;exact add_str (λt' tk=>⟨.str (i++j),H,I.tok _,⟨_,rfl⟩,q⟩) hz
def JV{x:V}(r:Vals [x] us):∃u,us=[u]/\RelV x u:=by
 cases r with
 |cons r1 r2=>cases r2;exact⟨_,rfl,r1⟩
def zhN{x y:V}(r:Vals [x,y] us):∃u w',us=[u,w']/\RelV x u/\RelV y w':=by
 cases r with
 |cons r1 r2 =>
  cases r2 with
  |cons r3 r4=>cases r4;exact⟨_,_,rfl,r1,r3⟩
def zgv:CallR X (.builtin "abs") (λxs H Q=>∃i,xs=[.int i]/\Q (.int (if i<0 then -i else i)) H):=by
 intro p6 s σ H xs us Q I r h;let⟨i,rfl,q⟩:=h;let⟨u,rfl,t,rfl⟩:=JV r;exact call_abs_int λu tk=>⟨.int (if i<0 then -i else i),H,I.tok _,⟨_,rfl⟩,q⟩
def VB(hc:X.calm=true):CallR X (.builtin "max") (λxs H Q=>∃i j,xs=[.int i,.int j]/\Q (.int (if j>i then j else i)) H):=by
 intro p6 s σ H xs us Q I r h;let⟨i,j,rfl,q⟩:=h;let⟨u,w',rfl,⟨t,rfl⟩,⟨t',rfl⟩⟩:=zhN r;refine max_two_ints (I.ok.hd hc) λh' tk k=>⟨_,H,I.kept k,?_,q⟩;by_cases hj:j>i
 .rw[aq hj,aq hj];exact⟨_,rfl⟩
 .rw[ao hj,ao hj];exact⟨_,rfl⟩
def zi9(K:A0)(x:V)(H:Hp)(n:Nat):Prop :=
 match x with
 | .str y=>y.length<=sizeLine/\n=y.length
 | .byt y=>y.size<=sizeLine/\n=y.size
 | .ref p=>(∃xs,SqL K H p xs/\n=xs.length)\/∃xs,SqT K H p xs/\n=xs.length
 |_=>False
def zgu:CallR X (.builtin "len") (λxs H Q=>∃x n,xs=[x]/\zi9 X.K x H n/\Q (.int n) H):=by
 intro p6 s σ H xs us Q I r h;let⟨x,n,rfl,e,q⟩:=h;let⟨u,rfl,rx⟩:=JV r;have hl:=ZA;have hs:sizeLine=16777216:=fm;cases x with
 |str y =>
  let⟨t,rfl⟩:=rx;let⟨hy,e'⟩:y.length<=sizeLine/\n=y.length:=e;subst e';exact len_str (by lia) ⟨.int _,H,I.tok _,⟨_,rfl⟩,q⟩
 |byt y =>
  let⟨t,rfl⟩:=rx;let⟨hy,e'⟩:y.size<=sizeLine/\n=y.size:=e;subst e';exact PySem.W.len_bytes (by lia) ⟨.int _,H,I.tok _,⟨_,rfl⟩,q⟩
 |ref p =>
  cases rx;have e':(∃xs,SqL X.K H p xs/\n=xs.length)\/∃xs,SqT X.K H p xs/\n=xs.length:=e;rcases e' with⟨xs,hx,e'⟩|⟨xs,hx,e'⟩
  .subst e';let⟨pf,r',pl,hz⟩:=I.list hx;have hlen:=r'.length;exact Calls.call_len_list pl.isList (by simp only[au];lia) ⟨.int xs.length,H,I.tok _,⟨_,by simp only[au];rw[hlen]⟩,q⟩
  .subst e';let⟨pf,r',pl,hz⟩:=I.tuple hx;have hlen:=r'.length;exact len_tuple pl (by simp only[au];lia) ⟨.int xs.length,H,I.tok _,⟨_,by simp only[au];rw[hlen]⟩,q⟩
 |_=>exact(show False from e).elim
end
structure ObjM(h:Heap)(x dx C:Addr)(mA:A5):Prop where
 obj:h.get? x=some (instObj C dx)
 ns:h.Ns1 dx mA
 ne:dx≠x
def zeB{h:Heap}{dx:Addr}{mA:A5}(n:h.Ns1 dx mA):∃od,h.get? dx=some od/\∀name,lookIn name od=some (mA name):=by
 let⟨o,es,ep,ho,hd,hk,_,hm⟩:=n;refine⟨o,ho,λname=>?_⟩;have e:=hm name;unfold nsFind findBy at e;rw[<- Array.find?_toList]at e;unfold lookIn;rw[hd];dsimp only
 split
 .rename_i y q;rw[q]at e;exact bE some e
 .rename_i q;rw[q]at e;have a:es.toList.any (·.refKey)=false:=by
   rw[List.any_eq_false];intro y hy;let⟨z,t,hkey⟩:=hk y (Array.mem_toList_iff.mp hy);simp[DictEntry.refKey,hkey]
  have a':¬es.toList.any (·.refKey)=true:=by rw[a];exact aD
  rw[ao a'];exact bE some e
def ObjM.look{h:Heap}{x dx C:Addr}{mA:A5}(I:ObjM h x dx C mA):∃od,PySem.W.InstAt h x (instObj C dx) C (some od)/\∀name,lookIn name od=some (mA name) :=
 let⟨od,ho,hl⟩:=zeB I.ns
 ⟨od,⟨I.obj,rfl,rfl,ho⟩,hl⟩
section
variable{prog:Ag}{w:World}{A:Ao}{E:A4}{s:An}{K:A0}{x dx C f:Addr}{mA:A5}{name:Str}{v:Am}
def zhq{expr:Bool}(X:K.In s.heap)(I:ObjM s.heap x dx C mA)(hg:plainGet K C name=true)(hh:hasDictIn K C=true)(ha:findIn K (.ref C) name=some none)(hv:mA name=some v)(hv':handedIn v=true)(h:Q v {s with toks:=s.toks+1}) :
  wpAny (model prog w) A (getAttr (.ref x) name expr) Q E s:=by
 let⟨od,J,hl⟩:=I.look;exact PySem.W.get_value X J (plainGet_of hg).1 (PySem.W.findObj_own hh ha rfl (by rw[hl,hv])) hv' h
def zgj{pl:Sem Bool}{Q:Value×List Value->Shared->Prop}(X:K.In s.heap)(I:ObjM s.heap x dx C mA)(hg:plainGet K C name=true)(hf:findIn K (.ref C) name=some (some (.ref f)))(ht:isFn K (.ref f)=true)(hv:mA name=none)(h:Q (.ref f,[.ref x]) s) :
  wpAny (model prog w) A (getMethod (.ref x) name pl) Q E s:=by
 let⟨od,J,hl⟩:=I.look;exact PySem.W.method_fn X J (plainGet_of hg).1 (plainGet_of hg).2 hf (bL.mp ht) (by show(lookIn name od).map (·.isSome)=some false;rw[hl,hv];rfl) h
def zgX{ns:A9}{Q:Ah}(X:K.In s.heap)(I:ObjM s.heap x dx C mA)(hs:findIn K (.ref C) "__setattr__"=some (some (.builtin "object.__setattr__")))(hp:PySem.W.plainOver K C=true)(ht:takerIn K C name=some none)(hh:hasDictIn K C=true)(hw:PySem.Within mA ns)(hsz:ns.length<=sizeLine)(h:∀h',ObjM h' x dx C (λy=>if y=name then some v else mA y)->Heap.SameBut dx s.heap h'->Q () {s with heap:=h',toks:=s.toks+2}) :
  wpAny (model prog w) A (setAttr (.ref x) name v) Q E s:=by
 let⟨od,J,hl⟩:=I.look;refine PySem.W.set_plain X J hs (PySem.W.osa_open (s:={s with toks:=s.toks+1}) (r:=none) X J hp ht λb=>?_);let⟨cd,hc,hd'⟩:=gy hh;have hx:s.heap.get? x=some ⟨.ref C,some dx,.plain,#[]⟩:=I.obj;refine ac (aw (ac (ac (wpAny_loadPart hx (ac (PySem.W.Looks.here (s:={s with toks:=s.toks+1}) (PySem.W.looks_clsIn X hc) ?_))))));rw[hd'];refine aw (a:=some dx) (ac (aw (ac ?_)));refine wpAny_nsSet1 (s:={s with toks:=s.toks+1}) I.ns λh' hn2 hs2=>?_;let⟨oD,esD,epD,hoD,hdD,hcD⟩:=hn2.count (PySem.Within.cons name v hw);refine ac (wpAny_lookBehind hoD (by rw[hdD];exact pastItsLine_dict (aR hcD (by rw[br];lia))) ?_);exact aw (h _ ⟨(hs2.2 _ (ba I.ne)).trans I.obj,hn2,I.ne⟩ hs2)
def zbF{R:Result->Shared->Prop}{vs:A8}{kw:List (Str×Value)}(X:K.In s.heap)(hm:makesIn K C=true)(hi:findIn K (.ref C) "__init__"=some (some (.ref f)))(hf:PySem.W.typeIn K (.ref f)=some (.type "function"))(h:codeAny (model prog w) (A.under (.builtin "type.__call__" ⟨.ref C::vs,kw⟩)) (.call (.ref f) ⟨.ref (s.heap.objs.size+1)::vs,kw⟩) (PySem.W.InitBack (s.heap.objs.size+1) R)
   {s with heap:=(s.heap.push emptyDict).push (instObj C s.heap.objs.size)}) :
  codeAny (model prog w) A (.call (.ref C) ⟨vs,kw⟩) R s:=by
 let⟨hh,g,d,t,os⟩:=s;exact PySem.W.make_core (PySem.W.makes_of X hm) (looks_findIn X hi) (λself=>PySem.W.bind_fn X self hf) (.inl rfl) h
end
noncomputable def qr(f:Str)(v:V):List (Str×V)->List (Str×V)
 |[]=>[(f,v)]
 |(g,x)::r=>if g=f then(g,v)::r else(g,x)::qr f v r
theorem qo(f g:Str)(v:V):∀fs:List (Str×V),(qr f v fs).lookup g=if g=f then some v else fs.lookup g
 |[]=>by
  show List.lookup g [(f,v)]=_
  by_cases h:g=f
  .have hb:(g == f)=true:=bL.mpr h;simp only[List.lookup,hb,aq h]
  .have hb:(g == f)=false:=bj.mpr h;simp only[List.lookup,hb,ao h]
 |(k,x)::r=>by
  have ih:=qo f g v r;rw[show qr f v ((k,x)::r)=(if k=f then(k,v)::r else(k,x)::qr f v r)from rfl];by_cases hk:k=f
  .rw[aq hk];by_cases h:g=k
   .have hb:(g == k)=true:=bL.mpr h;simp only[List.lookup,hb,aq (h.trans hk)]
   .have hb:(g == k)=false:=bj.mpr h;simp only[List.lookup,hb,ao (λe:g=f=>h (e.trans hk.symm))]
  .rw[ao hk];by_cases h:g=k
   .have hb:(g == k)=true:=bL.mpr h;simp only[List.lookup,hb,ao (λe:g=f=>hk (h.symm.trans e))]
   .have hb:(g == k)=false:=bj.mpr h;simp only[List.lookup,hb];exact ih
theorem QV(f:Str)(v:V):∀fs:List (Str×V),f∈(qr f v fs).map (·.1)/\∀g,g∈fs.map (·.1)->g∈(qr f v fs).map (·.1)
 |[]=>⟨by simp[qr],λg h=>by simp at h⟩
 |(k,x)::r=>by
  let⟨i1,i2⟩:=QV f v r;rw[show qr f v ((k,x)::r)=(if k=f then(k,v)::r else(k,x)::qr f v r)from rfl];by_cases hk:k=f
  .rw[aq hk];subst hk;exact⟨by simp,λg h=>by simpa using h⟩
  .rw[ao hk];refine⟨?_,λg h=>?_⟩
   .rw[bJ];exact aF _ i1
   .rw[bJ]at h ⊢;rcases aC.mp h with e|e
    .exact aC.mpr (.inl e)
    .exact aF _ (i2 g e)
theorem xL(f:Str)(v:V):∀fs:List (Str×V),(qr f v fs).length<=fs.length+1
 |[]=>by simp[qr]
 |(k,x)::r=>by
  have ih:=xL f v r;rw[show qr f v ((k,x)::r)=(if k=f then(k,v)::r else(k,x)::qr f v r)from rfl];by_cases hk:k=f
  .rw[aq hk,br,br];lia
  .rw[ao hk,br,br];lia
def RelO.some_of{v:V}{o:Option Value}(r:RelO (some v) o):∃u,o=some u/\RelV v u:=by
 cases o with
 |none=>exact(show False from r).elim
 |some u=>exact⟨u,rfl,r⟩
def RelO.none_of{o:Option Value}(r:RelO none o):o=none:=by
 cases o with
 |none=>rfl
 |some u=>exact(show False from r).elim
def zeI{v:V}(r:RelV v u):handedIn u=true:=by
 cases v with
 |non=>cases (show u=Value.none from r);rfl
 |bl b=>cases (show u=Value.bool b from r);rfl
 |int i=>let⟨t,e⟩:=(show ∃t,u=Value.int i t from r);cases e;rfl
 |str x=>let⟨t,e⟩:=(show ∃t,u=Value.str x t from r);cases e;rfl
 |byt b=>let⟨t,e⟩:=(show ∃t,u=Value.bytes b t from r);cases e;rfl
 |flt b=>let⟨t,e⟩:=(show ∃t,u=Value.float b t from r);cases e;rfl
 |ref a=>cases (show u=Value.ref a from r);rfl
 |ty n=>cases (show u=Value.type n from r);rfl
section
variable{P:Ag}{w:World}{H H':Hp}{h h':Heap}{a C dx:Addr}{fs fs':Ar}
def JQ(hok:HOk P w H h)(e:H a=some (.ins C dx fs)):∃mA,ObjM h a dx C mA/\(∀f,RelO (fs.lookup f) (mA f))/\PySem.Within mA (fs.map (·.1))/\fs.length<=1000/\H dx=some (.own a):=by
 let⟨d,z,ne,ob,mA,n,r,q⟩:=(show ObjOk P w H h a (.ins C dx fs)from hok a _ e);exact⟨mA,⟨ob,n,ne⟩,r,q,z,d⟩
end
structure Cls(K:A0)(C:Addr):Prop where
 pg:plainGet K C Str.empty=true
 hd:hasDictIn K C=true
 po:PySem.W.plainOver K C=true
 sa:findIn K (.ref C) "__setattr__"=some (some (.builtin "object.__setattr__"))
def Cls.get(c:Cls K C)(f:Str):plainGet K C f=true:=c.pg
def NoAttr(K:A0)(C:Addr)(f:Str):Prop:=findIn K (.ref C) f=some none
def NoAttr.taker{f:Str}(n:NoAttr K C f):takerIn K C f=some none:=by
 unfold takerIn;rw[show findIn K (.ref C) f=some none from n]
 rfl
structure Meth(K:A0)(C:Addr)(m:Str)(f:Addr):Prop where
 at_:findIn K (.ref C) m=some (some (.ref f))
 fn:isFn K (.ref f)=true
 kp:keepIn K (.ref f)=true
section
variable{X:Cx}{p6:A3}{σ:St}{H:Hp}{s:An}{a C dx:Addr}{fs:Ar}{f:Str}{v:V}{A:Ao}{E:A4}
def X4{b:Bool}(I:Inv X p6 σ H s)(e:H a=some (.ins C dx fs))(c:Cls X.K C)(n:NoAttr X.K C f)(l:fs.lookup f=some v)(h:∀u s',Inv X p6 σ H s'->RelV v u->Q u s'):wpAny (model X.prog X.w) A (getAttr (.ref a) f b) Q E s:=by
 let⟨mA,O,r,_,_,_⟩:=JQ I.hok e;let⟨u,hu,ru⟩:=RelO.some_of (v:=v) (o:=mA f) (by rw[<- l];exact r f);exact zhq I.kIn O (c.get f) c.hd n hu (zeI ru) (h u _ (I.tok _) ru)
def ZB{m:Str}{g:Addr}{pl:Sem Bool}{Q:Value×List Value->Shared->Prop}(I:Inv X p6 σ H s)(e:H a=some (.ins C dx fs))(c:Cls X.K C)(k:Meth X.K C m g)(l:fs.lookup m=none)(h:Q (.ref g,[.ref a]) s):wpAny (model X.prog X.w) A (getMethod (.ref a) m pl) Q E s:=by
 let⟨mA,O,r,_,_,_⟩:=JQ I.hok e;have hn:mA m=none:=RelO.none_of (by rw[<- l];exact r m);exact zgj I.kIn O (c.get m) k.at_ k.fn hn h
def Xf{y:V}{Q:Ah}(I:Inv X p6 σ H s)(e:H a=some (.ins C dx fs))(c:Cls X.K C)(n:NoAttr X.K C f)(hl:fs.length<1000)(ry:RelV y u)(h:∀s',Inv X p6 σ (upd H a (.ins C dx (qr f y fs))) s'->Q () s'):wpAny (model X.prog X.w) A (setAttr (.ref a) f u) Q E s:=by
 let⟨mA,O,r,wi,_,ho⟩:=JQ I.hok e;have hz:(fs.map (·.1)).length<=sizeLine:=by rw[ae,fm];lia
 refine zgX I.kIn O c.sa c.po n.taker c.hd wi hz λh' O' sb=>h _ ?_;have hd:∃o,h'.get? dx=some o:=let⟨o,_,_,e',_⟩:=O'.ns;⟨o,e'⟩
 refine I.write (x:=a) (e:=dx) (by rw[e];exact True.intro) (.inr ho) (λb q hb z=>(sb.2 b hb).trans z) hd ?_;refine⟨by rw[pF O.ne];exact ho,?_,O.ne,O'.obj,_,O'.ns,λg=>?_,λg hg=>?_⟩
 .have:=xL f y fs;lia
 .show RelO ((qr f y fs).lookup g) (if g=f then some u else mA g)
  rw[qo];by_cases q:g=f
  .rw[aq q,aq q];exact ry
  .rw[ao q,ao q];exact r g
 .by_cases q:g=f
  .rw[q];exact(QV f y fs).1
  .refine(QV f y fs).2 g (wi g λz=>hg ?_);show(if g=f then some u else mA g)=none
   rw[ao q];exact z
def Inv.made(I:Inv X p6 σ H s):Inv X p6 σ (upd (upd H s.heap.objs.size (.own (s.heap.objs.size+1))) (s.heap.objs.size+1) (.ins C s.heap.objs.size []))
  {s with heap:=(s.heap.push emptyDict).push (instObj C s.heap.objs.size)}:=by
 have e1:(s.heap.push emptyDict).get? s.heap.objs.size=some emptyDict:=aI s.heap rfl;have e2:((s.heap.push emptyDict).push (instObj C s.heap.objs.size)).get? (s.heap.objs.size+1)=some (instObj C s.heap.objs.size):=by
  have:=aI (s.heap.push emptyDict) (o:=instObj C s.heap.objs.size) rfl
  rwa[cg]at this
 have e3:(s.heap.push emptyDict).Ns s.heap.objs.size (λ_=>none):=⟨emptyDict,#[],_,e1,rfl,(λe he=>absurd he (by simp)),λ_=>rfl⟩;have I1:=I.laid (a:=s.heap.objs.size) (o:=.own (s.heap.objs.size+1)) (h':=s.heap.push emptyDict) (t':=s.toks) (λb u q=>aj _ q) (ar _) ⟨_,e1⟩;refine I1.laid (a:=s.heap.objs.size+1) (o:=.ins C s.heap.objs.size []) (t':=s.toks) (λb u q=>aj _ q) (Nat.le_of_eq (cg _ _)) ?_;have ne:s.heap.objs.size≠s.heap.objs.size+1:=aQ (eG _);refine⟨by rw[pF ne,pE],ck _,ne,e2,λ_=>none,(Heap.Ns1.of_empty e3).at λo q=>aj _ q,λ_=>True.intro,λy hy=>absurd rfl hy⟩
def zhD{prog:Ag}{env:Env}{e:Expr}{f:Str}{s:An}(hb:attributeBase e f env (eval e env)=eval e env)(h:wpAny (model prog w) A (eval e env) (λo s₁=>wpAny (model prog w) A (getAttr o f true) Q E s₁) E s):wpAny (model prog w) A (eval (.Attribute e f pos) env) Q E s :=
 Attribute_any_ h (by rw[arm_eval_Attribute,hb])
end
def tFld(K:A0)(ta:TE)(f:Str):TE:=λσ H Q=>ta σ H λx H1=>∃a C dx fs v,x=.ref a/\H1 a=some (.ins C dx fs)/\Cls K C/\NoAttr K C f/\fs.lookup f=some v/\Q v H1
def sFld(K:A0)(ta tv:TE)(f:Str):TS:=λD σ H=>tv σ H λy H1=>ta σ H1 λx H2=>∃a C dx fs,x=.ref a/\H2 a=some (.ins C dx fs)/\Cls K C/\NoAttr K C f/\fs.length<1000 /\
 D.nx σ (upd H2 a (.ins C dx (qr f y fs)))
def zjE(X:Cx)(op:Operator)(rd:V->V->Hp->VK->Prop):Prop :=
 ∀(p6:A3)(s:An)(σ:St)(H:Hp)(x y:V)(u v:Am)(Q:VK),Inv X p6 σ H s->RelV x u->RelV y v->rd x y H Q->wpAny (model X.prog X.w) X.A (inplaceOp op u v) (EP X p6 σ Q) X.xe s
def zgZ(K:A0)(ta tv:TE)(rd:V->V->Hp->VK->Prop)(f:Str):TS:=λD σ H=>ta σ H λx H1=>∃a C dx fs v,x=.ref a/\H1 a=some (.ins C dx fs)/\Cls K C/\NoAttr K C f/\fs.lookup f=some v /\
 tv σ H1 λy H2=>rd v y H2 λz H3=>∃dx' fs',H3 a=some (.ins C dx' fs')/\fs'.length<1000/\D.nx σ (upd H3 a (.ins C dx' (qr f z fs')))
section
variable{X:Cx}{o e value:Expr}{f:Str}{pos pos' tpos:Pos}{ta tv:TE}
def zt(he:PE X e ta)(hb:attributeBase e f X.env (eval e X.env)=eval e X.env):PE X (.Attribute e f pos) (tFld X.K ta f):=by
 intro p6 s σ H Q I h;refine zhD hb (qL (he p6 s σ H _ I h) λu s1 x H1 I1 rx qq_=>?_);let⟨a,C,dx,fs,v,ex,ea,c,n,l,q⟩:=qq_;subst ex;obtain rfl:u=Value.ref a:=rx;exact X4 I1 ea c n l λu' s2 I2 ru=>⟨v,H1,I2,ru,q⟩
def jz(ha:PE X o ta)(hv:PE X value tv)(hs:swapsWith value (some (.Attribute o f pos')) pos.line X.env=pure false):PS X (.Assign [.Attribute o f pos'] value pos) (sFld X.K ta tv f):=by
 intro p6 s σ H D I h;refine plainObj_wpAny_Assign_Attribute (qL (hv p6 s σ H _ I h) λu s1 y H1 I1 ry q=>qL (ha p6 s1 σ H1 _ I1 q) λov s2 x H2 I2 rx qq_=>?_) hs;let⟨a,C,dx,fs,ex,ea,c,n,l,q2⟩:=qq_;subst ex;obtain rfl:ov=Value.ref a:=rx;exact Xf I2 ea c n l ry λs3 I3=>⟨σ,_,I3,q2⟩
def zeq{op:Operator}{rd:V->V->Hp->VK->Prop}(ha:PE X o ta)(hv:PE X value tv)(hop:zjE X op rd):PS X (.AugAssign (.Attribute o f tpos) op value pos) (zgZ X.K ta tv rd f):=by
 intro p6 s σ H D I h;refine wpAny_AugAssign_AttributeAny (qL (ha p6 s σ H _ I h) λov s1 x H1 I1 rx qq_=>?_);let⟨a,C,dx,fs,v,ex,ea,c,n,l,q⟩:=qq_;subst ex;obtain rfl:ov=Value.ref a:=rx;refine X4 I1 ea c n l λu s2 I2 ru=>qL (hv p6 s2 σ H1 _ I2 q) λw3 s3 y H2 I3 ry q3=>thn (hop p6 s3 σ H2 v y u w3 _ I3 ru ry q3) λw4 s4 ⟨z,H3,I4,rz,dx',fs',ea',l',q4⟩=>?_;exact Xf I4 ea' c n l' rz λs5 I5=>⟨σ,_,I5,q4⟩
def zjR:V->V->Hp->VK->Prop:=λx y H Q=>∃i j,x=.int i/\y=.int j/\Q (.int (i+j)) H
def ziT:zjE X .Add zjR:=by
 rintro p6 s σ H x y u v Q I rx ry ⟨i,j,rfl,rfl,q⟩;let⟨t,rfl⟩:=(show ∃t,u=Value.int i t from rx);let⟨t',rfl⟩:=(show ∃t',v=Value.int j t' from ry);exact PyProof.Rows.iadd_int ⟨.int (i+j),H,I.tok _,⟨_,rfl⟩,q⟩
end
section
variable{X:Cx}{p6:A3}{σ:St}{H:Hp}{s:An}{A:Ao}{E:A4}{Q:A4}{c:Am}{b:Bool}
inductive TyOf(K:A0)(H:Hp):V->Value->Prop where
 |non:TyOf K H .non (.type "NoneType")
 |bl (x:Bool):TyOf K H (.bl x) (.type "bool")
 |int (i:Int):TyOf K H (.int i) (.type "int")
 |str (x:Str):TyOf K H (.str x) (.type "str")
 |flt (x:UInt64):TyOf K H (.flt x) (.type "float")
 |lst {a:Addr} {xs:Ap} (e:H a=some (.lst xs)):TyOf K H (.ref a) (.type "list")
 |frz {a:Addr} {o:Obj} {xs:Ap} (e:H a=some (.frz o (.lst xs))):TyOf K H (.ref a) (.type "list")
 |tup {a:Addr} {xs:Ap} (e:H a=some (.tup xs)):TyOf K H (.ref a) (.type "tuple")
 |dK {a:Addr} {pi:List (Key×V)} (e:H a=some (.dK pi)):TyOf K H (.ref a) (.type "dict")
 |dT {a:Addr} {pi:As} (e:H a=some (.dT pi)):TyOf K H (.ref a) (.type "dict")
 | ins {a C dx:Addr} {fs:Ar} (e:H a=some (.ins C dx fs)) (cl:Cls K C) (ha:findIn K (.ref C) "__class__"=some (some (.builtin "object.__class__")))
   (hn:specialIn K (.builtin "object.__class__") "__get__"=some (some (.builtin "getset_descriptor.__get__"))) (htk:takesIn K (.builtin "object.__class__")=some true)
   (hm:mroIn K C (.type "object")=some true):TyOf K H (.ref a) (.ref C)
end
structure Room(k:Nat)(A:Ao):Prop where
 hd:A.handled=none
 dp:A.depth+3*k+5<recursionLimit
 un:A.units+16*k+200<cLine
def Room.mono{j k:Nat}(r:Room k A)(h:j<=k):Room j A:=⟨r.hd,by have:=r.dp;lia,by have:=r.un;lia⟩
def Room.deeper(r:Room (k+1) A)(env:Env):Room k (A.deeper env) :=
 ⟨r.hd,by have:=r.dp;show A.depth+1+3*k+5<_;lia,by have:=r.un;show A.units+3+16*k+200<_;lia⟩
def Room.in1(r:Room (k+1) A):Room k A.in1 :=
 ⟨r.hd,by have:=r.dp;show A.depth+3*k+5<_;lia,by have:=r.un;show A.units+1+16*k+200<_;lia⟩
def zcR{kw:List (Str×Value)}:(A.under (.builtin "type.__call__" ⟨.ref C::us,kw⟩)).depth=A.depth+1:=by
 first|rfl|simp[Around.under,Code.weight,Code.isCreation,Code.isGuard,Code.isCaller,Code.frames,Code.isFrame,guardIds]
def zcQ{kw:List (Str×Value)}:(A.under (.builtin "type.__call__" ⟨.ref C::us,kw⟩)).units=A.units+1:=by
 first|rfl|simp[Around.under,Code.cUnits,Code.frames,Code.isFrame]
def Room.make(r:Room (k+1) A)(C:Addr)(us:A8)(kw:List (Str×Value)):Room k (A.under (.builtin "type.__call__" ⟨.ref C::us,kw⟩)) :=
 ⟨r.hd,by have:=r.dp;rw[zcR];lia,by have:=r.un;rw[zcQ];lia⟩
def Room.depth(r:Room k A):A.depth<recursionLimit:=by have:=r.dp;lia
def Room.units(r:Room k A):A.units+64<cLine:=by have:=r.un;lia
def tNil:TA:=λ_ H Q=>Q [] H
def tCons(ta:TE)(tr:TA):TA:=λσ H Q=>ta σ H λx H1=>tr σ H1 λxs H2=>Q (x::xs) H2
section
variable{X:Cx}{e:Expr}{es:List Expr}{te:TE}{t:TA}{pos:Pos}
def zb:PA X [] tNil:=λ_ _ _ _ H Q I h=>Calls.spliced_nil ⟨[],H,I,.nil,h⟩
def za(ha:PE X e te)(hr:PA X es t)(hs:starEach (e::es) X.env=(false,eval e X.env)::starEach es X.env:=by rfl):PA X (e::es) (tCons te t):=by
 intro pos p6 s σ H Q I h;rw[hs];show wpAny _ _ (spliced ((false,eval e X.env)::backTo pos (starEach es X.env))) _ _ s
 refine Calls.spliced_cons (qL (ha p6 s σ H _ I h) λu s1 x H1 I1 r1 q1=>?_);exact vZ (hr pos p6 s1 σ H1 _ I1 q1) λus s2 xs H2 I2 r2 q2=>⟨x::xs,H2,I2,.cons r1 r2,q2⟩
def tTup(t:TA):TE:=λσ H Q=>t σ H λxs H1=>szl xs (∀p,H1 p=none->Q (.ref p) (upd H1 p (.tup xs)))
def tLst(t:TA):TE:=λσ H Q=>t σ H λxs H1=>szl xs (∀p,H1 p=none->Q (.ref p) (upd H1 p (.lst xs)))
def zT{x1}(h:PA X es t):PE X (.Tuple es x1 pos) (tTup t):=by
 intro p6 s σ H Q I hq;refine wpAny_Tuple_spliced (vZ (h pos p6 s σ H _ I hq) λus s1 xs H1 I1 r q=>let⟨z,q⟩:=zcj q;⟨by rw[<- r.length];exact z,?_⟩);have hf:H1 s1.heap.objs.size=none:=I1.hok.fresh (ar _);refine⟨.ref s1.heap.objs.size,upd H1 s1.heap.objs.size (.tup xs),I1.laid (t':=s1.toks) (λb u e=>aj _ e) (ar _) ?_,rfl,q _ hf⟩;exact⟨z,us,r,⟨_,aI _ rfl,rfl,_,rfl⟩⟩
def zn(h:PA X es t):PE X (.List es pos) (tLst t):=by
 intro p6 s σ H Q I hq;refine wpAny_List_spliced (vZ (h pos p6 s σ H _ I hq) λus s1 xs H1 I1 r q=>let⟨z,q⟩:=zcj q;⟨by rw[<- r.length];exact z,?_⟩);have hf:H1 s1.heap.objs.size=none:=I1.hok.fresh (ar _);refine⟨.ref s1.heap.objs.size,upd H1 s1.heap.objs.size (.lst xs),I1.laid (t':=s1.toks) (λb u e=>aj _ e) (ar _) ?_,rfl,q _ hf⟩;exact⟨z,us,0,r,aI _ rfl⟩
end
abbrev Sp:=List V->Hp->VK->XK->Prop
abbrev CXT:=List Env->Hp->Shared->XK->Value->Shared->Prop
variable{CX:CXT}
structure Env0(P:Ag)(w:World)(K:A0)(mg:A5)(base:Heap)(A:Ao)(outer:List Env)(s:An)(H:Hp):Prop where
 frames:A.frames=some outer
 mod:Mod K mg base
 bs:∀b o,base.get? b=some o->s.heap.get? b=some o/\H b=none
 bsz:base.objs.size<=s.heap.objs.size
 funs:s.heap.FunFrames base outer
 frf:∀b∈frs outer,H b=none
 hok:HOk P w H s.heap
 bare:AllBare s.gens
def CE(outer:List Env)(P:Ag)(w:World)(H:Hp)(s:An)(Q:VK)(u:Am)(s':An):Prop :=
 ∃v H',s'.os=s.os/\AllBare s'.gens/\Un (frs outer) [] H H' s.heap s'.heap/\HOk P w H' s'.heap/\RelV v u/\Q v H'
def CR(CX:CXT)(outer:List Env)(P:Ag)(w:World)(H:Hp)(s:An)(Q:VK)(E:XK)(r:Result)(s':An):Prop :=
 match r with
 | .ok (.ret u)=>CE outer P w H s Q u s'
 | .ok _=>False
 | .error e=>CX outer H s E e s'
structure FnOk(P:Ag)(w:World)(K:A0)(mg:A5)(base:Heap)(CX:CXT)(k:Nat)(f:Addr)(fd:FuncData)(ps:A9)(sp:Sp):Prop where
 len:∀vs H Q E,sp vs H Q E->vs.length=ps.length
 run:∀(A:Ao)(outer:List Env)(s:An)(H:Hp)(args:Args)(us:A8)(vs:Ap)(Q:VK)(E:XK),Room k A->Env0 P w K mg base A outer s H->BindsTo s fd args (ps.zip us)->Vals vs us->sp vs H Q E ->
  codeAny (model P w) A (.call (.ref f) args) (CR CX outer P w H s Q E) s
def FnOk.mono{j k:Nat}{f:Addr}{ps:A9}{sp:Sp}(F:FnOk P w K mg base CX j f fd ps sp)(h:j<=k) :
  FnOk P w K mg base CX k f fd ps sp:=⟨F.len,λA outer s H args us vs Q E hr=>F.run A outer s H args us vs Q E (hr.mono h)⟩
def FnOk.imp{f:Addr}{ps:A9}{sp sp':Sp}(F:FnOk P w K mg base CX k f fd ps sp)(h:∀vs H Q E,sp' vs H Q E->sp vs H Q E):FnOk P w K mg base CX k f fd ps sp' :=
 ⟨λvs H Q E q=>F.len vs H Q E (h _ _ _ _ q),λA outer s H args us vs Q E hr he hb hv hs=>F.run A outer s H args us vs Q E hr he hb hv (h _ _ _ _ hs)⟩
def Env0.make{outer:List Env}(e:Env0 P w K mg base A outer s H)(C:Addr)(us:A8)(kw:List (Str×Value)) :
  Env0 P w K mg base (A.under (.builtin "type.__call__" ⟨.ref C::us,kw⟩)) outer s H:=⟨by first|exact e.frames|(simpa[Around.under,Code.envs,Code.isFrame,pushEnvs]using e.frames),e.mod,e.bs,e.bsz,e.funs,e.frf,e.hok,e.bare⟩
def Env0.in1{outer:List Env}(e:Env0 P w K mg base A outer s H) :
  Env0 P w K mg base A.in1 outer s H:=⟨e.frames,e.mod,e.bs,e.bsz,e.funs,e.frf,e.hok,e.bare⟩
section
variable{X:Cx}{p6:A3}{σ:St}{H:Hp}{s s':An}
def Inv.env0(I:Inv X p6 σ H s):Env0 X.prog X.w X.K X.mg X.base X.A X.stack s H :=
 ⟨I.ok.frames,I.ok.mod,I.bs,aR I.ok.bsz I.sz,I.stack,I.stkFree,I.hok,I.bare⟩
def Inv.after{Q:VK}(I:Inv X p6 σ H s)(h:CE X.stack X.prog X.w H s Q u s'):EP X p6 σ Q u s':=by
 let⟨v,H',os,bare,un,hok,r,q⟩:=h;let⟨hh,g,d,t,os'⟩:=s';obtain rfl:os'=s.os:=os;exact⟨v,H',I.call (h':=hh) (g':=g) (d':=d) (t':=t) (ch:=[]) un hok bare (λb z=>absurd z (by simp)),r,q⟩
end
def Binds(K:A0)(fd:FuncData)(ps:A9)(ds:A8):Prop :=
 ∀(s:An)(us:A8),K.In s.heap->(us++ds).length=ps.length->BindsTo s fd ⟨us,[]⟩ (ps.zip (us++ds))
def Binds.all{ps:A9}(h:∀us:List Value,us.length=ps.length->bindArgs fd ⟨us,[]⟩=pure (ps.zip us)):Binds K fd ps []:=λs us _ hl=>by
 rw[cc]at hl ⊢;exact .of_eq (h us hl)
def zdh(CX:CXT)(X:Cx)(E:XK):Prop:=∀(p6:A3)(σ:St)(H:Hp)(s:An)(e:Am)(s':An),Inv X p6 σ H s->CX X.stack H s E e s'->X.xe e s'
section
variable{X:Cx}{CX:CXT}{k:Nat}{f C:Addr}{fd:FuncData}{ps:A9}{sp:Sp}{dvs:Ap}{ds:A8}{E:XK}{x m:Str}{p pos apos:Pos}{e o:Expr}{es:List Expr}{ta:TE}{t:TA}
theorem zfp{Q:VK}{vs:Ap}(F:FnOk X.prog X.w X.K X.mg X.base CX k f fd ps sp)(hr:Room k X.A)(hb:Binds X.K fd ps ds)(hd:Vals dvs ds)(hx:zdh CX X E)(I:Inv X p6 σ H s)(r:Vals vs us)(h:sp (vs++dvs) H Q E):wpAny (model X.prog X.w) X.A (call (.ref f) us) (EP X p6 σ Q) X.xe s:=by
 have r2:Vals (vs++dvs) (us++ds):=r.append hd;have hl:(us++ds).length=ps.length:=by rw[<- r2.length];exact F.len _ _ _ _ h
 refine fS (dh (F.run X.A X.stack s H ⟨us,[]⟩ (us++ds) (vs++dvs) Q E hr I.env0 (hb s us I.kIn hl) r2 h) λr s' hq=>?_);cases r with
 |error e=>exact hx p6 σ H s e s' I hq
 |ok fl =>
  cases fl with
  |ret u=>exact I.after hq
  |next=>exact False.elim hq
  |brk=>exact False.elim hq
  |cont=>exact False.elim hq
structure Mk(K:A0)(C f:Addr):Prop where
 makes:makesIn K C=true
 init:findIn K (.ref C) "__init__"=some (some (.ref f))
 fn:isFn K (.ref f)=true
 kp:keepIn K (.ref C)=true
theorem zfo{Q:VK}{vs:Ap}(M:Mk X.K C f)(F:FnOk X.prog X.w X.K X.mg X.base CX k f fd ps sp)(hr:Room (k+1) X.A)(hb:Binds X.K fd ps ds)(hd:Vals dvs ds)(hx:zdh CX X E)(I:Inv X p6 σ H s)(r:Vals vs us)(h:∀x dx,H x=none->H dx=none->dx≠x->sp (.ref x::(vs++dvs)) (upd (upd H dx (.own x)) x (.ins C dx [])) (λv H2=>v=.non/\Q (.ref x) H2) E) :
  wpAny (model X.prog X.w) X.A (call (.ref C) us) (EP X p6 σ Q) X.xe s:=by
 have hq:=h (s.heap.objs.size+1) s.heap.objs.size (I.hok.fresh (cS _)) (I.hok.fresh (ar _)) (aQ (eG _));have I2:=Inv.made (C:=C) I;have r2:Vals (V.ref (s.heap.objs.size+1)::(vs++dvs)) (Value.ref (s.heap.objs.size+1)::(us++ds)):=.cons rfl (r.append hd);have hl:(Value.ref (s.heap.objs.size+1)::us++ds).length=ps.length:=by
  have e:=r2.length;rw[F.len _ _ _ _ hq]at e;exact e.symm
 refine fS (zbF (f:=f) I.kIn M.makes M.init (bL.mp M.fn) (dh (F.run _ X.stack _ _ ⟨Value.ref (s.heap.objs.size+1)::us,[]⟩ (Value.ref (s.heap.objs.size+1)::(us++ds)) _ _ E (hr.make C us [])
  (I2.env0.make C us []) (hb _ (Value.ref (s.heap.objs.size+1)::us) I2.kIn hl) r2 hq) λr s' hq'=>?_))
 cases r with
 |error e=>exact hx p6 σ _ _ e s' I2 hq'
 |ok fl =>
  cases fl with
  |ret u =>
   let⟨v,H',I3,rv,ev,q3⟩:=I2.after hq';subst ev;exact⟨rv,⟨V.ref (s.heap.objs.size+1),H',I3,rfl,q3⟩⟩
  |next=>exact False.elim hq'
  |brk=>exact False.elim hq'
  |cont=>exact False.elim hq'
end
def PK(X:Cx)(kws:List Keyword)(t:TA):Prop :=
 ∀(pos:Pos)(p6:A3)(s:An)(σ:St)(H:Hp)(Q:List V->Hp->Prop),Inv X p6 σ H s->t σ H Q->wpAny (model X.prog X.w) X.A (evalAll ((backToKw pos (keywordEach kws X.env)).map (·.2))) (AP X p6 σ Q) X.xe s
section
variable{X:Cx}{CX:CXT}{k:Nat}{f C:Addr}{fd:FuncData}{ps ks:A9}{sp:Sp}{E:XK}{x m:Str}{p pos apos kpos:Pos}{e o:Expr}{es:List Expr}{kws:List Keyword}{te ta:TE}{t tk:TA}{nm:Option Str}
variable{g:List Value->List Value->List Value}{gV:List V->List V->List V}
end
structure FnScope(N P:A9)(sc:Scope):Prop where
 kind:sc.kind=.function
 co:sc.isCoroutine=false
 gen:sc.isGenerator=false
 nd:N.Nodup
 pre:N.take P.length=P
 par:∀x∈P,sc.names.lookup x=some .local\/sc.names.lookup x=some .cell
 nofree:∀y∈sc.names,y.2≠.free
theorem VE{kindOf:Str->Option NameKind}{x:Str}:∀{binds:List (Str×Value)}{m:A5},(∀v,(x,v)∉binds)->bindL kindOf binds m x=m x
 |[],_,_=>rfl
 |(n,v)::r,m,h=>by
  unfold bindL;rw[VE λw hw=>h w (aF _ hw)]
  split
  .have:x≠n:=by rintro rfl;exact h v bt
   simp[this]
  .rfl
theorem VG{kindOf:Str->Option NameKind}{x:Str}:∀{binds:List (Str×Value)}{m:A5},(∀v,(x,v)∉binds)->bindC kindOf binds m x=m x
 |[],_,_=>rfl
 |(n,v)::r,m,h=>by
  unfold bindC;rw[VG λw hw=>h w (aF _ hw)]
  split
  .rfl
  .have:x≠n:=by rintro rfl;exact h v bt
   simp[this]
theorem VF{kindOf:Str->Option NameKind}{x:Str}{v:Am}:∀{P:A9}{vs:A8}{i:Nat}{m:A5},P.Nodup->P[i]?=some x->vs[i]?=some v->kindOf x=some .local ->
  bindL kindOf (P.zip vs) m x=some v
 |[],_,_,_,_,h,_,_=>by simp at h
 |_::_,[],_,_,_,_,h,_=>by simp at h
 |p::P,w::vs,0,m,nd,h1,h2,hk=>by
  simp at h1 h2;subst h1;subst h2;show bindL kindOf ((p,w)::P.zip vs) m p=_
  unfold bindL;rw[VE λv hv=>(cT.mp nd).1 (fH hv).1,aq hk];simp
 |p::P,w::vs,i+1,m,nd,h1,h2,hk=>by
  show bindL kindOf ((p,w)::P.zip vs) m x=_
  unfold bindL;exact VF (i:=i) (cT.mp nd).2 (by simpa using h1) (by simpa using h2) hk
theorem VH{kindOf:Str->Option NameKind}{x:Str}{v:Am}:∀{P:A9}{vs:A8}{i:Nat}{m:A5},P.Nodup->P[i]?=some x->vs[i]?=some v->kindOf x≠some .local ->
  bindC kindOf (P.zip vs) m x=some v
 |[],_,_,_,_,h,_,_=>by simp at h
 |_::_,[],_,_,_,_,h,_=>by simp at h
 |p::P,w::vs,0,m,nd,h1,h2,hk=>by
  simp at h1 h2;subst h1;subst h2;show bindC kindOf ((p,w)::P.zip vs) m p=_
  unfold bindC;rw[VG λv hv=>(cT.mp nd).1 (fH hv).1,ao hk];simp
 |p::P,w::vs,i+1,m,nd,h1,h2,hk=>by
  show bindC kindOf ((p,w)::P.zip vs) m x=_
  unfold bindC;exact VH (i:=i) (cT.mp nd).2 (by simpa using h1) (by simpa using h2) hk
noncomputable def start(N:A9)(vs:Ap):St:=vs.map some++List.replicate (N.length-vs.length) none
noncomputable def JE(CX:CXT)(P:Ag)(w:World)(K:A0)(mg:A5)(base:Heap)(N:A9)(qual:Str)(scope:Scope)(f:Addr)(cd:Am)(A:Ao)(outer:List Env)(s:An)(H:Hp)(E:XK):Cx where
 prog:=P
 w:=w
 K:=K
 mg:=mg
 base:=base
 A:=A.deeper (envOfC qual scope s.heap.objs.size f cd)
 N:=N
 s₀:=s
 H₀:=H
 env:=envOfC qual scope s.heap.objs.size f cd
 outer:=outer
 stack:=envOfC qual scope s.heap.objs.size f cd::outer
 ex:=[]
 calm:=true
 fn:=λ_=>true
 pn:=[]
 xe:=λe s'=>wpAny (model P w) (A.deeper (envOfC qual scope s.heap.objs.size f cd)) (leaving (envOfC qual scope s.heap.objs.size f cd) e) (λ_ s''=>CX outer H s E e s'') (λe' s''=>CX outer H s E e' s'') s'
def zb0{sc:Scope}{n:Nat}(h:sc.names.lookup x=some .cell):∃c,(cellsFrom n sc.names []).lookup x=some c:=by
 have q:=fB sc.names n [] (.inl h);exact Option.isSome_iff_exists.mp q
theorem zeE{N ps:A9}{qual:Str}{scope:Scope}{f:Addr}{cd:Am}{outer:List Env}{s s1:An}{E:XK}{vs:Ap}(S:FnScope N ps scope)(hd:A.handled=none)(e0:Env0 P w K mg base A outer s H)(hl:vs.length=ps.length)(r:Vals vs us)(x:InCallC s s.heap.objs.size (bindL (envOfC qual scope s.heap.objs.size f cd).kindOf (ps.zip us) λ_=>none) (cellsFrom (s.heap.objs.size+1) scope.names []) (bindC (envOfC qual scope s.heap.objs.size f cd).kindOf (ps.zip us) λ_=>none) s1) :
  Inv (JE CX P w K mg base N qual scope f cd A outer s H E) [] (start N vs) H s1:=by
 have hpl:ps.length<=N.length:=by have:=bE List.length S.pre;rw[aE]at this;lia
 let⟨h1,tk,rfl,hk⟩:=x.done;have noA:∀b:Addr,b∉(JE CX P w K mg base N qual scope f cd A outer s H E).ex:=λb z=>absurd (show b∈([]:Ac)from z) (by simp);refine⟨⟨e0.mod,S.kind,rfl,rfl,ar _,λy z c h1 h2=>?_,λy hy=>?_,λy c _ h=>?_,λ_=>hd,Around.frames_deeper e0.frames,.inr ⟨rfl,rfl⟩,λb z=>absurd z (noA b),e0.bs,e0.bsz,λb _ _=>noA b,λb z=>absurd z (noA b),e0.funs,e0.frf⟩,
  rfl,e0.bare,Un.kept hk,⟨_,x.toInCall.ns,λi y v h1 h2 h3=>?_⟩,λy c h=>⟨_,x.cell y c h⟩,e0.hok.fresh (ar _),λy c h=>?_,λp hp=>absurd (show p∈([]:A3)from hp) (by simp),e0.hok.kept hk,?_⟩
 .exact name_of_addr x.apart (bM h1) (bM h2)
 .have hy:scope.names.lookup y=some .cell\/scope.names.lookup y=some .free:=hy;rcases hy with hy|hy
  .exact zb0 hy
  .exact absurd rfl (S.nofree _ (bM hy))
 .exact bV (x.above y c (bM h))
 .have hi:i<vs.length:=by
   unfold start at h2;by_cases hi:i<vs.length
   .exact hi
   .rw[aM (by simpa using hi)]at h2;rw[fz]at h2
    split at h2<;>cases h2
  have ha:vs[i]?=some v:=by
   unfold start at h2;rw[aS (by simpa using hi),ai]at h2;cases e:vs[i]? with
   |none=>rw[e]at h2;cases h2
   |some a=>rw[e]at h2;cases h2;rfl
  let⟨u,hu,rv⟩:=r.get ha;have hp:ps[i]?=some y:=by
   rw[<- S.pre,List.getElem?_take_of_lt (by lia)];exact h1
  have ndP:ps.Nodup:=by rw[<- S.pre];exact S.nd.sublist (List.take_sublist _ _)
  refine⟨u,rv,?_⟩;rcases S.par y (ah hp)with k|k
  .exact .inl ⟨k,VF ndP hp hu k⟩
  .obtain⟨c,e⟩:=zb0 (n:=s.heap.objs.size+1) k;refine .inr ⟨.inl k,c,e,?_⟩;have q:=x.cell y c e;rw[VH ndP hp hu (by show scope.names.lookup y≠_;rw[k];decide)]at q;exact q
 .exact e0.hok.fresh (bV (x.above y c (bM h)))
 .unfold start;show _=N.length
  rw[av,ae,bx]
  lia
theorem zgn{f:Addr}{name qual:Str}{params:Arguments}{body:List Stmt}{scope:Scope}{dV kV doc pm cdv ct oc:Am}{an od:Ab}{osl:Af}{N ps:A9}{sp:Sp}(lk:K.lookup f=some ⟨oc,od,.func (fnOf name qual params body scope dV kV doc pm an cdv ct),osl⟩)(hcd:codeIn K cdv qual=true)(S:FnScope N ps scope)(len:∀vs H Q E,sp vs H Q E->vs.length=ps.length)(hbody:∀(A:Ao)(outer:List Env)(s:An)(H:Hp)(vs:Ap)(Q:VK)(E:XK),Room k (A.deeper (envOfC qual scope s.heap.objs.size f cdv))->sp vs H Q E ->
   ∃t,PSs (JE CX P w K mg base N qual scope f cdv A outer s H E) body t/\t {nx:=λ_ H'=>Q .non H',rt:=Q} (start N vs) H) :
  FnOk P w K mg base CX (k+1) f (fnOf name qual params body scope dV kV doc pm an cdv ct) ps sp:=by
 refine⟨len,λA outer s H args us vs Q E hr e0 hb r hsp=>?_⟩;have hl:=len _ _ _ _ hsp;have KX:K.In s.heap:=e0.mod.kin.keeps λb o e=>(e0.bs b o e).1;have lim:s.heap.NoLimit:=e0.mod.nolimit.keeps λb o e=>(e0.bs b o e).1;have hkind:∀y∈ps.zip us,scope.names.lookup y.1=some .local\/(scope.names.lookup y.1=some .cell/\((cellsFrom (s.heap.objs.size+1) scope.names []).lookup y.1).isSome=true):=λ⟨n,v⟩ hy=>by
  rcases S.par n (fH hy).1 with q|q
  .exact .inl q
  .exact .inr ⟨q,fB _ _ _ (.inl q)⟩
 refine codeAny_call_function hr.depth (KX _ _ lk) rfl S.co S.gen rfl (PySem.W.codeRec_of KX hcd) (hb _ _ _ _ ?_);refine wpAny_newFunctionEnv_cells S.kind hkind λenv he s1 x=>?_;subst he;refine⟨lim.keeps x.toInCall.keep,codeAny_func ?_⟩;let⟨t,ht,hq⟩:=hbody A outer s H vs Q E (hr.deeper _) hsp;have I:Inv (JE CX P w K mg base N qual scope f cdv A outer s H E) [] (start N vs) H s1:=zeE S hr.hd e0 hl r x;refine aV (ht [] s1 (start N vs) H _ I hq) (λfl s' hs=>?_) λe s' hs=>hs;have fin:∀{σ':St}{H':Hp}{v:V}{u:Am},Inv (JE CX P w K mg base N qual scope f cdv A outer s H E) [] σ' H' s'->RelV v u->Q v H'->CE outer P w H s Q u s' :=
  λ{σ' H' v u} J rv q=>⟨v,H',J.os,J.bare,J.base,J.hok,rv,q⟩
 cases fl with
 |ret u =>
  let⟨v,σ',H',J,rv,q⟩:=hs;exact fin J rv q
 |next =>
  let⟨σ',H',J,q⟩:=hs;exact fin (v:=V.non) (u:=Value.none) J rfl q
 |brk =>
  let⟨_,_,_,q⟩:=hs;exact False.elim q
 |cont =>
  let⟨_,_,_,q⟩:=hs;exact False.elim q
section
variable{X:Cx}{x:Str}{p pos:Pos}{e:Expr}{es:List Expr}{t:TA}{id T:String}{r:List V->Hp->VK->Prop}
def tCB(r:List V->Hp->VK->Prop)(t:TA):TE:=λσ H Q=>t σ H λvs H1=>r vs H1 Q
def zfI(hc:CallR X (.builtin id) r)(hg:Gl X x)(hm:X.mg x=none)(hv:bootBuiltins x=some (.builtin id))(ha:PA X (e::es) t)(hn:x≠"__name__":=by decide)(hdb:(x == ("__debug__":Str))=false:=by decide)(he:starEach (e::es) X.env=(false,eval e X.env)::starEach es X.env:=by rfl)(hpl:(backTo pos (starEach es X.env)).any (·.1)=false:=by rfl):PE X (.Call (.Name x p) (e::es) [] pos) (tCB r t):=by
 intro p6 s σ H Q I h;refine bK (vI I hg hm hv ?_ hn hdb);exact PyProof.Rows.callWith_builtin1 (vZ (ha pos p6 s σ H _ I h) λus s1 vs H1 I1 r1 q1=>hc p6 s1 σ H1 vs us Q I1 r1 q1) he hpl
def zet(hc:CallR X (.type T) r)(hg:Gl X x)(hm:X.mg x=none)(hv:bootBuiltins x=some (.type T))(ha:PA X (e::es) t)(hn:x≠"__name__":=by decide)(hdb:(x == ("__debug__":Str))=false:=by decide)(he:starEach (e::es) X.env=(false,eval e X.env)::starEach es X.env:=by rfl)(hpl:(backTo pos (starEach es X.env)).any (·.1)=false:=by rfl):PE X (.Call (.Name x p) (e::es) [] pos) (tCB r t):=by
 intro p6 s σ H Q I h;refine bK (vI I hg hm hv ?_ hn hdb);exact bA (vZ (ha pos p6 s σ H _ I h) λus s1 vs H1 I1 r1 q1=>hc p6 s1 σ H1 vs us Q I1 r1 q1) he hpl
end
end L2
namespace HT
open PySem PyProof.Rows
section
open PySem.SeqAt
open PySem.AutoSeq1 (wpAny_loadPart')
open PySem.MeetsSeq PySem.MeetsSeq2 PySem.MeetsSeq3
end
section
variable{prog:Ag}{w:World}{A:Ao}{E:A4}{s:An}
noncomputable def sIx(n d:Nat):Option Int->Nat
 |none=>d
 |some v=>if v<0 then(v+(n:Int)).toNat else min v.toNat n
theorem sIx_none(n d:Nat):sIx n d none=d:=rfl
def sIx_nat(n d k:Nat):sIx n d (some (k:Int))=min k n:=by
 show(if (k:Int)<0 then((k:Int)+(n:Int)).toNat else min (k:Int).toNat n)=min k n
 rw[ao (by lia),aK]
def zik(n d:Nat)(hd:d<=n)(o:Aa):sIx n d o<=n:=by
 cases o with
 |none=>exact hd
 |some v =>
  show(if v<0 then(v+(n:Int)).toNat else min v.toNat n)<=n
  by_cases hv:v<0
  .rw[aq hv];lia
  .rw[ao hv];exact Nat.min_le_right _ _
def zdW(v:Int)(n d:Nat):(if v<0 then max (v+(n:Int)) 0 else min v (n:Int))=((sIx n d (some v):Nat):Int):=by
 show(if v<0 then max (v+(n:Int)) 0 else min v (n:Int))=(((if v<0 then(v+(n:Int)).toNat else min v.toNat n):Nat):Int)
 by_cases hv:v<0
 .simp only[aq hv];lia
 .simp only[ao hv];lia
def zdg(lo hi:Aa)(n:Nat):Builtin.Slice.sliceAdjust lo hi 1 (n:Int)=(((sIx n 0 lo:Nat):Int),((sIx n n hi:Nat):Int)):=by
 have h1:¬((1:Int)<0):=by lia
 unfold Builtin.Slice.sliceAdjust;simp only[h1,dJ];refine Prod.ext ?_ ?_
 .cases lo with
  |none=>rfl
  |some v=>exact zdW v n 0
 .cases hi with
  |none=>rfl
  |some v=>exact zdW v n n
def zcE(i j:Nat):Builtin.Slice.slicePlaces (i:Int) (j:Int) 1=j-i:=by
 unfold Builtin.Slice.slicePlaces;have h1:(1:Int)>0:=by lia
 simp only[h1,dC,Int.ediv_one]
 split<;>lia
def Xc{v:Am}{o:Aa}{Q:Option Int->Shared->Prop}(p:IsPart v o)(h:Q o s):wpAny (model prog w) A (Builtin.Slice.slicePartIndex v) Q E s:=by
 cases p with
 |none=>exact slicePart_none h
 |int i t=>exact slicePart_int h
def QA{sl:Addr}{vl vu:Am}{lo hi:Aa}{n:Nat}{Q:Int×Int×Nat->Shared->Prop}(hs:s.heap.IsSliceOf sl vl vu .none)(pl:IsPart vl lo)(pu:IsPart vu hi)(h:Q (((sIx n 0 lo:Nat):Int),1,sIx n n hi-sIx n 0 lo) s):wpAny (model prog w) A (Builtin.Slice.sliceApplied (.ref sl) (pure (n:Int))) Q E s:=by
 let⟨os,hos,hcs,hds⟩:=id hs;unfold Builtin.Slice.sliceApplied Builtin.Slice.sliceFields;refine ac (ac (be hos hds (x:=vl) rfl (ac (be hos hds (x:=vu) rfl (ac (be hos hds (x:=.none) rfl (aw ?_)))))));refine ac (slicePart_none ?_);show wpAny _ _ (if ((1:Int) == 0)=true then _ else _) _ _ s
 rw[ao (by decide)];refine ac (Xc pl (ac (Xc pu (ac (aw ?_)))));show wpAny _ _ (match Builtin.Slice.sliceAdjust lo hi 1 (n:Int)with|(lo,hi)=>pure (lo,(1:Int),Builtin.Slice.slicePlaces lo hi 1)) _ _ s
 rw[zdg lo hi n];show wpAny _ _ (pure (((sIx n 0 lo:Nat):Int),(1:Int),Builtin.Slice.slicePlaces ((sIx n 0 lo:Nat):Int) ((sIx n n hi:Nat):Int) 1)) _ _ s
 rw[zcE];exact aw h
def zfC(xs:Ae)(i k:Nat):((List.range k).filterMap λ(m:Nat)=>xs[((i:Int)+(m:Int)*1).toNat]?).toArray=((xs.toList.drop i).take k).toArray:=by
 have e:(λ(m:Nat)=>xs[((i:Int)+(m:Int)*1).toNat]?)=λm=>xs[i+m]?:=by
  funext m
  have:((i:Int)+(m:Int)*1).toNat=i+m:=by lia
  rw[this]
 rw[e];have:=pick_run xs i k;rw[List.filterMap_map]at this;have e2:((λx=>xs[x]?) ∘ λx=>i+x)=λm=>xs[i+m]?:=rfl;rw[e2]at this;rw[this]
theorem getItem_tuple_cut{t sl:Addr}{items:Ae}{vl vu:Am}{lo hi:Aa}{Q:A4}(ht:IsTup s.heap t items)(hs:s.heap.IsSliceOf sl vl vu .none)(pl:IsPart vl lo)(pu:IsPart vu hi)(hw:¬(sIx items.size 0 lo=0/\sIx items.size items.size hi=items.size))(h:Q (.ref s.heap.objs.size) {s with heap:=s.heap.push {cls:=.type "tuple",data:=.seq ((items.toList.drop (sIx items.size 0 lo)).take (sIx items.size items.size hi-sIx items.size 0 lo)).toArray} })(hsz:items.size<=sizeLine):wpAny (model prog w) A (getItem (.ref t) (.ref sl)) Q E s:=by
 have htake:sizeOk (.seq ((items.toList.drop (sIx items.size 0 lo)).take (sIx items.size items.size hi-sIx items.size 0 lo)).toArray):=by
  show((items.toList.drop (sIx items.size 0 lo)).take (sIx items.size items.size hi-sIx items.size 0 lo)).toArray.size<=sizeLine
  rw[au,aE,b6,cq]
  lia
 have hj:sIx items.size items.size hi<=items.size:=zik _ _ (ar _) hi;let⟨os,hos,hcs,hds⟩:=id hs;have hTs:s.TypeIs (.ref sl) "slice":=⟨os,hos,hcs⟩;unfold getItem
 try with_reducible refine dH ?_
 first|refine ac (aw ?_)|skip
 refine ac (wpAny_sequenceKey ht.typeIs (by decide) ?_);refine ac (cf (name:=Str.ofString "__getitem__") ht.typeIs cH
  (cX cH ht.typeIs entry_tuple_getitem ?_ (args_tuple_getitem _ _)))
 show wpAny _ _ (Builtin.Tuple.tupleItemsOf (.ref t) >>= _) _ _ s
 refine ac (tupleItemsOf_ ht ?_);refine ac (wpAny_typeOf hTs ?_);rw[aq (by decide)];refine ac (QA hs pl pu ?_);have hno:¬((((sIx items.size 0 lo:Nat):Int) == 0&&(1:Int) == 1&&(sIx items.size items.size hi-sIx items.size 0 lo) == items.size)=true):=by
  intro q;rw[bQ,bQ]at q;have q1:((sIx items.size 0 lo:Nat):Int)=0:=eq_of_beq q.1.1;have q2:sIx items.size items.size hi-sIx items.size 0 lo=items.size:=eq_of_beq q.2;exact hw ⟨by lia,by lia⟩
 show wpAny _ _ (if (((sIx items.size 0 lo:Nat):Int) == 0&&(1:Int) == 1&&(sIx items.size items.size hi-sIx items.size 0 lo) == items.size)=true then _ else _) _ _ s
 rw[ao hno,zfC]
 first
  |exact ac (m:=Builtin.Tuple.tupleExact _) (bO (aw ⟨_,rfl,aw h⟩) htake)
  |exact ac (m:=Builtin.Tuple.tupleExact _) (bO (ac (aw (aw ⟨_,rfl,aw h⟩))) htake)
  |exact ac (ac (m:=Builtin.Tuple.tupleExact _) (bO (aw (aw ⟨_,rfl,aw h⟩)) htake))
  |exact ac (ac (m:=Builtin.Tuple.tupleExact _) (bO (aw ⟨_,rfl,aw h⟩) htake))
end
end HT
namespace L2
open PySem PySem.Spec PyProof.Rows
variable{us:A8}
abbrev TO:=St->Hp->(Option Int->Hp->Prop)->Prop
def PO(X:Cx)(e:Option Expr)(t:TO):Prop :=
 ∀(p6:A3)(s:An)(σ:St)(H:Hp)(Q:Option Int->Hp->Prop),Inv X p6 σ H s->t σ H Q ->
  wpAny (model X.prog X.w) X.A (evalPart e X.env) (λu s'=>∃o H',Inv X p6 σ H' s'/\IsPart u o/\Q o H') X.xe s
def tNoPart:TO:=λ_ H Q=>Q none H
def tPart(t:TE):TO:=λσ H Q=>t σ H λx H1=>iq x λi=>Q (some i) H1
def zcX{ns:A7}:∀{us:A8},Vals (ns.map V.int) us->IntsAre us ns:=by
 induction ns with
 |nil=>intro us r;rw[d5]at r;cases r;exact .nil
 |cons n ns ih =>
  intro us r;rw[bJ]at r;cases r with
  |cons r1 r2 =>
   let⟨t,e⟩:=r1;subst e;exact .cons n t (ih r2)
section
variable{X:Cx}{e:Expr}{te:TE}{lo hi:Option Expr}{tl th:TO}{pos p2:Pos}
def jg:PO X none tNoPart:=by
 intro p6 s σ H Q I h;rw[evalPart_none];exact aw ⟨none,H,I,.none,h⟩
def jf(h:PE X e te):PO X (some e) (tPart te):=by
 intro p6 s σ H Q I hw;rw[evalPart_some];refine qL (h p6 s σ H _ I hw) λu s1 x H1 I1 r1 q1=>?_;let⟨i,rfl,q⟩:=Qg q1;let⟨t,rfl⟩:=r1;exact⟨some i,H1,I1,.int i t,q⟩
def SlR(X:Cx)(r:V->Option Int->Option Int->Hp->VK->Prop):Prop :=
 ∀(p6:A3)(s:An)(σ:St)(H:Hp)(x:V)(v vl vu:Am)(lo hi:Aa)(sl:Addr)(Q:VK),Inv X p6 σ H s->RelV x v->s.heap.IsSliceOf sl vl vu .none->IsPart vl lo->IsPart vu hi->r x lo hi H Q ->
  ∃T id,typeLookup (.type T) "__getitem__"=pure (some (.builtin id))/\s.TypeIs v T/\wpAny (model X.prog X.w) X.A (getItem v (.ref sl)) (EP X p6 σ Q) X.xe s
def SlR.or{r r':V->Option Int->Option Int->Hp->VK->Prop}(h:SlR X r)(h':SlR X r'):SlR X (λx lo hi H Q=>r x lo hi H Q\/r' x lo hi H Q):=by
 intro p6 s σ H x v vl vu lo hi sl Q I rx hs pl pu q;rcases q with q|q
 .exact h p6 s σ H x v vl vu lo hi sl Q I rx hs pl pu q
 .exact h' p6 s σ H x v vl vu lo hi sl Q I rx hs pl pu q
def tSl(r:V->Option Int->Option Int->Hp->VK->Prop)(te:TE)(tl th:TO):TE:=λσ H Q=>te σ H λx H1=>tl σ H1 λl H2=>th σ H2 λu H3=>r x l u H3 Q
def qO{r:V->Option Int->Option Int->Hp->VK->Prop}(hr:SlR X r)(he:PE X e te)(hl:PO X lo tl)(hu:PO X hi th):PE X (.Subscript e (.Slice lo hi none p2) pos) (tSl r te tl th):=by
 intro p6 s σ H Q I h;refine Subscript_ (qL (he p6 s σ H _ I h) λv s1 x H1 I1 r1 q1=>?_);refine wpAny_Slice (thn (hl p6 s1 σ H1 _ I1 q1) λvl s2 ⟨l,H2,I2,pl,q2⟩=>thn (hu p6 s2 σ H2 _ I2 q2) λvu s3 ⟨u,H3,I3,pu,q3⟩=>?_);rw[evalPart_none];refine aw ?_;have I4:Inv X p6 σ H3 {s3 with heap:=s3.heap.push {cls:=.type "slice",data:=.fields #[vl,vu,.none]} }:=I3.kept (t':=s3.toks) λb ob q=>aj _ q;let⟨T,id,hT,ht,hg⟩:=hr p6 {s3 with heap:=s3.heap.push {cls:=.type "slice",data:=.fields #[vl,vu,.none]} } σ H3 x v vl vu l u s3.heap.objs.size Q I4 r1 (Heap.IsSliceOf.new ..) pl pu q3;show wpAny (model X.prog X.w) X.A (subscriptTail e (.Slice lo hi none p2) v (.ref s3.heap.objs.size)) (EP X p6 σ Q) X.xe {s3 with heap:=s3.heap.push {cls:=.type "slice",data:=.fields #[vl,vu,.none]} }
 exact tail_any (ops:=[.ref s3.heap.objs.size,v]) ht hT hg (by with_unfolding_all rfl)
noncomputable def Qk(xs:Ap)(lo hi:Aa):List V:=(xs.drop (HT.sIx xs.length 0 lo)).take (HT.sIx xs.length xs.length hi-HT.sIx xs.length 0 lo)
def Jk(xs:Ap)(lo hi:Aa):(Qk xs lo hi).length<=xs.length:=by
 unfold Qk;rw[aE,b6]
 lia
def zjM(K:A0):V->Option Int->Option Int->Hp->VK->Prop:=λx lo hi H Q=>∃a xs,x=.ref a/\SqT K H a xs /\
 ¬(HT.sIx xs.length 0 lo=0/\HT.sIx xs.length xs.length hi=xs.length)/\∀p,H p=none->Q (.ref p) (upd H p (.tup (Qk xs lo hi)))
def zih:SlR X (zjM X.K):=by
 intro p6 s σ H x v vl vu lo hi sl Q I rx hs pl pu h;let⟨a,xs,rfl,hx,hw,q⟩:=h;cases rx;let⟨pf,r,ht,hz⟩:=I.tuple hx;have hlen:pf.toArray.size=xs.length:=by rw[au];exact r.length.symm
 refine⟨"tuple",_,cH.lookup,ht.typeIs,?_⟩;refine HT.getItem_tuple_cut ht hs pl pu (by rw[hlen];exact hw) ?_ (by rw[hlen];exact hz);rw[hlen];refine⟨.ref s.heap.objs.size,_,I.laid (t':=s.toks) (o:=.tup (Qk xs lo hi)) (λb ob q=>aj _ q) (ar _) ?_,rfl,q _ (I.hok.fresh (ar _))⟩;exact⟨aR (Jk xs lo hi) hz,_,(r.drop (HT.sIx xs.length 0 lo)).take (HT.sIx xs.length xs.length hi-HT.sIx xs.length 0 lo),IsTup.new _ _⟩
end
noncomputable def ixN(n:Nat)(i:Int):Option Nat:=if 0<=i then(if i<n then some i.toNat else none)else if -(n:Int)<=i then some (i+n).toNat else none
noncomputable def atI{α:Type}(xs:List α)(i:Int):Option α:=(ixN xs.length i).bind λj=>xs[j]?
def zdD{n:Nat}{i:Int}{j:Nat}(h:ixN n i=some j):seqIndex? i n=some j/\j<n/\-(n:Int)<=i/\i<n:=by
 unfold ixN at h;by_cases h0:0<=i
 .rw[aq h0]at h;by_cases h1:i<n
  .rw[aq h1]at h;have e:i.toNat=j:=aT h;exact⟨by rw[fq h0 h1,e],by lia,by lia,h1⟩
  .rw[ao h1]at h;cases h
 .rw[ao h0]at h;by_cases h1:-(n:Int)<=i
  .rw[aq h1]at h;have e:(i+n).toNat=j:=aT h;exact⟨by rw[seqIndex_neg (by lia) h1,e],by lia,h1,by lia⟩
  .rw[ao h1]at h;cases h
def JT{α:Type}{xs:List α}{i:Int}{v:α}(h:atI xs i=some v):∃j,seqIndex? i xs.length=some j/\xs[j]?=some v/\j<xs.length/\-(xs.length:Int)<=i/\i<xs.length:=by
 unfold atI at h;cases e:ixN xs.length i with
 |none=>rw[e]at h;cases h
 |some j =>
  rw[e]at h;let⟨h1,h2,h3,h4⟩:=zdD e;exact⟨j,h1,h,h2,h3,h4⟩
def zJ{α:Type}{xs:List α}{j:Nat}{v:α}(h:xs[j]?=some v):atI xs (j:Int)=some v:=by
 have hj:j<xs.length:=(aa.mp h).1;have e:ixN xs.length (j:Int)=some j:=by
  unfold ixN;rw[aq (by lia),aq (by lia)];simp
 unfold atI;rw[e];exact h
def zd4(b:Expr):Prop:=∀o i,subscripted b false o i=operate [o,i] (getItem o i)
def IxR(X:Cx)(r:R2):Prop :=
 ∀(value slice:Expr)(p6:A3)(s:An)(σ:St)(H:Hp)(x y:V)(v u:Am)(Q:VK),Inv X p6 σ H s->RelV x v->RelV y u->r x y H Q ->
  subscripted slice false v u=operate [v,u] (getItem v u)->wpAny (model X.prog X.w) X.A (subscriptTail value slice v u) (EP X p6 σ Q) X.xe s
def MtR(X:Cx)(id:String)(r:V->List V->Hp->VK->Prop):Prop :=
 ∀(p6:A3)(s:An)(σ:St)(H:Hp)(x:V)(xs:Ap)(v:Am)(us:A8)(Q:VK),Inv X p6 σ H s->RelV x v->Vals xs us->r x xs H Q ->
  wpAny (model X.prog X.w) X.A (call (.builtin id) (v::us)) (EP X p6 σ Q) X.xe s
section
variable{X:Cx}{a b:Expr}{ta tb:TE}{pos:Pos}
def IxR.or{r r':R2}(h:IxR X r)(h':IxR X r'):IxR X (λx y H Q=>r x y H Q\/r' x y H Q):=by
 intro value slice p6 s σ H x y v u Q I rx ry q hs;rcases q with q|q
 .exact h value slice p6 s σ H x y v u Q I rx ry q hs
 .exact h' value slice p6 s σ H x y v u Q I rx ry q hs
def MtR.or{id:String}{r r':V->List V->Hp->VK->Prop}(h:MtR X id r)(h':MtR X id r'):MtR X id (λx xs H Q=>r x xs H Q\/r' x xs H Q):=by
 intro p6 s σ H x xs v us Q I rx rs q;rcases q with q|q
 .exact h p6 s σ H x xs v us Q I rx rs q
 .exact h' p6 s σ H x xs v us Q I rx rs q
def zjp{r:R2}(hr:IxR X r)(ha:PE X a ta)(hb:PE X b tb)(hs:zd4 b):PE X (.Subscript a b pos) (tOp r ta tb):=by
 intro p6 s σ H Q I h;exact Subscript_ (zi3 ha hb I h λv u s2 x y H2 I2 rx ry q=>hr a b p6 s2 σ H2 x y v u Q I2 rx ry q (hs _ _))
def zjl(K:A0):R2:=λx y H Q=>∃p xs i v,x=.ref p/\y=.int i/\SqL K H p xs/\atI xs i=some v/\Q v H
def zjj(K:A0):R2:=λx y H Q=>∃p xs i v,x=.ref p/\y=.int i/\SqT K H p xs/\atI xs i=some v/\Q v H
def zjk:R2:=λx y H Q=>∃z i c,x=.str z/\y=.int i/\z.length<=sizeLine/\atI z.cps.toList i=some c/\Q (.str ⟨#[c]⟩) H
def ix_list:IxR X (zjl X.K):=by
 intro value slice p6 s σ H x y v u Q I rx ry h hs;let⟨p,xs,i,z,rfl,rfl,hq,he,q⟩:=h;cases rx;let⟨t,rfl⟩:=ry;let⟨pf,r,pl,hz⟩:=I.list hq;let⟨j,h1,h2,h3,h4,h5⟩:=JT he;let⟨w,ew,rw'⟩:=r.get h2;have hl:=r.length;have hn:=ZA;have fin:EP X p6 σ Q w s:=⟨z,H,I,rw',q⟩;by_cases h0:0<=i
 .have hj:i.toNat=j:=by
   rw[fq h0 h5]at h1;exact aT h1
  exact item_listR pl.isList h0 (by lia) (by rw[hj];simpa using ew) fin hs
 .have hj:(i+(pf.toArray.size:Int)).toNat=j:=by
   rw[seqIndex_neg (by lia) h4]at h1;rw[au,<- hl];exact aT h1
  exact subscriptTail_builtinR (x:=w) pl.isList.typeIs slot_list_getitem.lookup
   (wpAny_getItem_list_neg (Q:=λr s'=>r=w/\EP X p6 σ Q r s') pl.isList (by lia) (by rw[au]<;>lia) (by lia) (by rw[hj];simpa using ew) ⟨rfl,fin⟩) hs
def ix_tup:IxR X (zjj X.K):=by
 intro value slice p6 s σ H x y v u Q I rx ry h hs;let⟨p,xs,i,z,rfl,rfl,hq,he,q⟩:=h;cases rx;let⟨t,rfl⟩:=ry;let⟨pf,r,pl,hz⟩:=I.tuple hq;let⟨j,h1,h2,h3,h4,h5⟩:=JT he;let⟨w,ew,rw'⟩:=r.get h2;have hl:=r.length;have hn:=ZA;have fin:EP X p6 σ Q w s:=⟨z,H,I,rw',q⟩;exact subscriptTail_builtinR (x:=w) pl.typeIs slot_tuple_getitem.lookup
  (getItem_tuple (j:=j) (Q:=λr s'=>r=w/\EP X p6 σ Q r s') pl (by lia) (by lia) (by rw[au,<- hl];exact h1) (by simpa using ew) ⟨rfl,fin⟩) hs
def ziQ:IxR X zjk:=by
 intro value slice p6 s σ H x y v u Q I rx ry h hs;let⟨z,i,c,rfl,rfl,hz,he,q⟩:=h;let⟨t,rfl⟩:=rx;let⟨t',rfl⟩:=ry;let⟨j,h1,h2,h3,h4,h5⟩:=JT he;have hl:z.cps.toList.length=z.length:=by simp[Str.length]
 rw[hl]at h1 h4 h5;have hn:=ZA;exact tail_any (typeIs_str s z t) slot_str_getitem.lookup (getItem_str (c:=c) (by
  have e1:decide (i < -(2^63:Int))=false:=a8 (by lia);have e2:decide (i ≥ 2^63)=false:=a8 (by lia);rw[e1,e2,Bool.or_false]) (by rw[h1];simpa using h2) ⟨.str ⟨#[c]⟩,H,I.tok _,⟨_,rfl⟩,q⟩) hs
def rIx(K:A0):R2:=λx y H Q=>zjl K x y H Q\/zjj K x y H Q\/zjk x y H Q
def ziR:IxR X (rIx X.K):=ix_list.or (ix_tup.or ziQ)
def zcP(pf:A8)(n j:Nat)(u:Am):Obj.mapSeq (·.setIfInBounds j u) {cls:=.type "list",data:=.seq pf.toArray n}={cls:=.type "list",data:=.seq (pf.set j u).toArray n}:=by
 simp[Obj.mapSeq]
def Inv.lst{p6:A3}{σ:St}{H:Hp}{s:An}{p:Addr}{xs:Ap}(I:Inv X p6 σ H s)(h:H p=some (.lst xs)) :
  ∃(pf:A8)(n:Nat),Vals xs pf/\s.heap.get? p=some {cls:=.type "list",data:=.seq pf.toArray n}/\xs.length<=sizeLine:=by
 let⟨z,pf,n,r,e⟩:=I.hok p _ h;exact⟨pf,n,r,e,z⟩
def Inv.lstUpd{p6:A3}{σ:St}{H:Hp}{s:An}{p:Addr}{xs ys:Ap}{pf its':A8}{n n':Nat}{f:Obj->Obj}(I:Inv X p6 σ H s)(h:H p=some (.lst xs))(ho:s.heap.get? p=some {cls:=.type "list",data:=.seq pf.toArray n})(hf:f {cls:=.type "list",data:=.seq pf.toArray n}={cls:=.type "list",data:=.seq its'.toArray n'})(r:Vals ys its')(hz:ys.length<=sizeLine)(t:Nat) :
  Inv X p6 σ (upd H p (.lst ys)) {s with heap:=s.heap.update p f,toks:=t}:=by
 have e:(s.heap.update p f).get? p=some {cls:=.type "list",data:=.seq its'.toArray n'}:=by
  rw[bY f ho (by rw[hf]<;>rfl),hf]
 refine I.write (x:=p) (e:=p) (by rw[h];trivial) (.inl rfl) (λb u hb q=>(bz _ _ (ba hb)).trans q) ⟨_,e⟩ ?_;exact⟨hz,its',n',r,e⟩
def zhU:V->V->V->Hp->(Hp->Prop)->Prop:=λo i v H Q=>∃p xs k j,o=.ref p/\i=.int k/\H p=some (.lst xs)/\ixN xs.length k=some j/\Q (upd H p (.lst (xs.set j v)))
def jb:zi7 X zhU:=by
 intro p6 s σ H o i v ov iv u Q I ro ri rv h;let⟨p,xs,k,j,rfl,rfl,hp,hj,q⟩:=h;cases ro;let⟨t,rfl⟩:=ri;let⟨pf,n,r,ho,hz⟩:=I.lst hp;let⟨h1,h2,h3,h4⟩:=zdD hj;have hl:=r.length;have hn:=ZA;have I':Inv X p6 σ (upd H p (.lst (xs.set j v))) {s with heap:=s.heap.update p (Obj.mapSeq (·.setIfInBounds j u))} :=
  I.lstUpd hp ho (zcP pf n j u) (r.set rv j) (by rw[a7];exact hz) s.toks
 by_cases h0:0<=k
 .have hk:k.toNat=j:=by
   rw[fq h0 h4]at h1;exact aT h1
  exact PySem.W.ki_setAt ho h0 (by lia) (by rw[au,<- hl];exact h4) (by rw[hk];exact⟨_,I',q⟩)
 .have hk:(k+(pf.toArray.size:Int)).toNat=j:=by
   rw[seqIndex_neg (by lia) h3]at h1;rw[au,<- hl];exact aT h1
  exact PySem.W.ki_setBack ho (by lia) (by rw[au,<- hl];exact h3) (by lia) (by rw[hk];exact⟨_,I',q⟩)
def VR(lo hi:Aa)(n:Nat):(sliceBounds lo hi none n).1=((HT.sIx n 0 lo:Nat):Int)/\(sliceBounds lo hi none n).2.1=((HT.sIx n n hi:Nat):Int)/\(sliceBounds lo hi none n).2.2=1:=by
 refine⟨?_,?_,rfl⟩
 .cases lo with
  |none=>simp[sliceBounds,HT.sIx]
  |some i =>
   simp only[sliceBounds,HT.sIx,eF,show(1:Int)>0 by decide,dC];by_cases h:i<0
   .simp only[h,dC]<;>lia
   .simp only[h,dJ]<;>lia
 .cases hi with
  |none=>simp[sliceBounds,HT.sIx]
  |some i =>
   simp only[sliceBounds,HT.sIx,eF,show(1:Int)>0 by decide,dC];by_cases h:i<0
   .simp only[h,dC]<;>lia
   .simp only[h,dJ]<;>lia
def Wk(pf:A8)(lo hi:Aa):slicePick pf.toArray lo hi none=((pf.drop (HT.sIx pf.length 0 lo)).take (HT.sIx pf.length pf.length hi-HT.sIx pf.length 0 lo)).toArray:=by
 let⟨h1,h2,h3⟩:=VR lo hi pf.toArray.size;unfold slicePick;rw[h1,h2,h3];simp only[sliceRange_one,pick_run,au]<;>rfl
def zir(K:A0):V->Option Int->Option Int->Hp->VK->Prop:=λx lo hi H Q=>∃a xs,x=.ref a/\SqL K H a xs/\∀p,H p=none->Q (.ref p) (upd H p (.lst (Qk xs lo hi)))
def zgV:SlR X (zir X.K):=by
 intro p6 s σ H x v vl vu lo hi sl Q I rx hs pl pu h;let⟨a,xs,rfl,hx,q⟩:=h;cases rx;let⟨pf,r,ht,hz⟩:=I.list hx;have hlen:=r.length;refine⟨"list",_,slot_list_getitem.lookup,ht.isList.typeIs,?_⟩;refine wpAny_getItem_list_slice ht.isList hs pl pu .none (by simp) ?_ (by rw[au]<;>lia);rw[Wk,<- hlen];refine⟨.ref s.heap.objs.size,_,I.laid (t':=s.toks) (o:=.lst (Qk xs lo hi)) (λb ob q=>aj _ q) (ar _) ?_,rfl,q _ (I.hok.fresh (ar _))⟩;exact⟨aR (Jk xs lo hi) hz,_,0,(r.drop (HT.sIx xs.length 0 lo)).take (HT.sIx xs.length xs.length hi-HT.sIx xs.length 0 lo),aI _ rfl⟩
noncomputable def jV:V->Bool
 | .non=>true
 | .bl _=>true
 | .int _=>true
 | .str _=>true
 |_=>false
noncomputable def eqV:V->V->Bool
 | .non,.non=>true
 | .bl a,.bl b=>a == b
 | .bl a,.int b=>(if a then 1 else 0) == b
 | .int a,.bl b=>a == (if b then 1 else 0)
 | .int a,.int b=>a == b
 | .str a,.str b=>a == b
 |_,_=>false
def ZC{A:Ao}{s:An}{y x:V}{u v:Am}(ry:RelV y u)(rx:RelV x v)(fy:jV y=true)(fx:jV x=true):SeqAt.EqAt A s u v (eqV y x):=by
 cases y with
 |non =>
  cases ry;cases x with
  |non=>cases rx;exact dS _
  |bl b=>cases rx;exact SeqAt.EqAt.none_bool b
  |int b=>let⟨t,rfl⟩:=rx;exact SeqAt.EqAt.none_int b t
  |str b=>let⟨t,rfl⟩:=rx;exact SeqAt.EqAt.none_str b t
  |_=>exact absurd (show false=true from fx) aD
 |bl a =>
  cases ry;cases x with
  |non=>cases rx;exact SeqAt.EqAt.bool_none a
  |bl b=>cases rx;exact SeqAt.EqAt.bool_bool a b
  |int b=>let⟨t,rfl⟩:=rx;exact SeqAt.EqAt.bool_int a b t
  |str b=>let⟨t,rfl⟩:=rx;exact SeqAt.EqAt.bool_str a b t
  |_=>exact absurd (show false=true from fx) aD
 |int a =>
  let⟨t',rfl⟩:=ry;cases x with
  |non=>cases rx;exact SeqAt.EqAt.int_none a t'
  |bl b=>cases rx;exact SeqAt.EqAt.int_bool a t' b
  |int b=>let⟨t,rfl⟩:=rx;exact SeqAt.EqAt.int_int a t' b t
  |str b=>let⟨t,rfl⟩:=rx;exact SeqAt.EqAt.int_str a t' b t
  |_=>exact absurd (show false=true from fx) aD
 |str a =>
  let⟨t',rfl⟩:=ry;cases x with
  |non=>cases rx;exact SeqAt.EqAt.str_none a t'
  |bl b=>cases rx;exact SeqAt.EqAt.str_bool a t' b
  |int b=>let⟨t,rfl⟩:=rx;exact SeqAt.EqAt.str_int a t' b t
  |str b=>let⟨t,rfl⟩:=rx;exact SeqAt.EqAt.str_str a t' b t
  |_=>exact absurd (show false=true from fx) aD
 |_=>exact absurd (show false=true from fy) aD
noncomputable def eqU(x:V)(u:Am):Bool:=match u with
 | .none=>eqV .non x
 | .bool b=>eqV (.bl b) x
 | .int i _=>eqV (.int i) x
 | .str z _=>eqV (.str z) x
 |_=>false
def zgp{x y:V}{u:Am}(r:RelV y u)(f:jV y=true):eqU x u=eqV y x:=by
 cases y with
 |non=>cases r;rfl
 |bl b=>cases r;rfl
 |int i=>let⟨t,rfl⟩:=r;rfl
 |str z=>let⟨t,rfl⟩:=r;rfl
 |_=>exact absurd (show false=true from f) aD
theorem zaR{x:V}:∀{xs:Ap}{us:A8},Vals xs us->xs.all jV=true->us.any (eqU x)=xs.any λy=>eqV y x
 |_,_,.nil,_=>rfl
 |y::xs,u::us,.cons r t,f=>by
  rw[all_cons,bQ]at f;rw[dZ,dZ,zgp r f.1,zaR t f.2]
theorem XS{A:Ao}{s:An}{x:V}{v:Am}(rx:RelV x v)(fx:jV x=true):∀{xs:Ap}{us:A8},Vals xs us->xs.all jV=true->∀u∈us,SeqAt.EqAt A s u v (eqU x u)
 |_,_,.nil,_=>λu hu=>by cases hu
 |y::xs,u::us,.cons r t,f=>λu' hu=>by
  rw[all_cons,bQ]at f;rcases aC.mp hu with rfl|hu
  .rw[zgp r f.1];exact ZC r rx f.1 fx
  .exact XS rx fx t f.2 u' hu
noncomputable def inV(x:V)(xs:Ap):Bool:=xs.any λy=>eqV y x
def rIn(K:A0)(neg:Bool):R2:=λx y H Q=>∃p xs,y=.ref p/\(SqL K H p xs\/SqT K H p xs)/\jV x=true/\xs.all jV=true/\Q (.bl (if neg then !inV x xs else inV x xs)) H
def zai:OpR X (compareOp .NotIn) (rIn X.K true):=by
 intro p6 s σ H x y v u Q I rx ry h;let⟨p,xs,rfl,hq,fx,fs,q⟩:=h;cases ry;rcases hq with hq|hq
 .obtain⟨pf,r,pl,hz⟩:=I.list hq;refine SeqAt.notIn_listAt (eqU x) pl.isList (λw hw=>XS rx fx r fs w (by simpa using hw)) ⟨.bl _,H,I,rfl,?_⟩;rw[show pf.toArray.any (eqU x)=pf.any (eqU x) by simp,zaR r fs];exact q
 .obtain⟨pf,r,pl,hz⟩:=I.tuple hq;refine SeqAt.notIn_tupleAt (eqU x) pl (λw hw=>XS rx fx r fs w (by simpa using hw)) ⟨.bl _,H,I,rfl,?_⟩;rw[show pf.toArray.any (eqU x)=pf.any (eqU x) by simp,zaR r fs];exact q
def CallR.or{f:Am}{r r':List V->Hp->VK->Prop}(h:CallR X f r)(h':CallR X f r'):CallR X f (λxs H Q=>r xs H Q\/r' xs H Q):=by
 intro p6 s σ H xs us Q I rs q;rcases q with q|q
 .exact h p6 s σ H xs us Q I rs q
 .exact h' p6 s σ H xs us Q I rs q
def zaG:CallR X (.type "list") (λxs H Q=>∃p ys,xs=[.ref p]/\(SqL X.K H p ys\/SqT X.K H p ys)/\∀l,H l=none->Q (.ref l) (upd H l (.lst ys))):=by
 intro p6 s σ H xs us Q I r h;let⟨p,ys,rfl,hq,q⟩:=h;let⟨u,rfl,rx⟩:=JV r;cases rx;have fin:∀(pf:A8),Vals ys pf->ys.length<=sizeLine->∀(h':Heap)(c':Nat),(∀b o',s.heap.get? b=some o'->h'.get? b=some o') ->
   h'.get? s.heap.objs.size=some {cls:=.type "list",dict:=none,data:=.seq pf.toArray c',slots:=#[]}->EP X p6 σ Q (.ref s.heap.objs.size) {s with heap:=h'}:=λpf r' hz h' c' kp e =>
  ⟨.ref s.heap.objs.size,_,I.laid (t':=s.toks) kp (ar _) (show ObjOk X.prog X.w _ h' _ (.lst ys)from⟨hz,pf,c',r',e⟩),rfl,q _ (I.hok.fresh (ar _))⟩
 rcases hq with hq|hq
 .obtain⟨pf,r',pl,hz⟩:=I.list hq;have hlen:=r'.length;let⟨o,ho,hc,n,hd⟩:=pl.isList;exact call_list_seq p (.inl rfl) ho hc hd (λh' c' kp e=>fin pf r' hz h' c' kp e) (by simp only[au]<;>lia)
 .obtain⟨pf,r',pl,hz⟩:=I.tuple hq;have hlen:=r'.length;let⟨o,ho,hc,n,hd⟩:=pl;exact call_list_seq p (.inr rfl) ho hc hd (λh' c' kp e=>fin pf r' hz h' c' kp e) (by simp only[au]<;>lia)
def WH:CallR X (.type "tuple") (λxs H Q=>∃p ys,xs=[.ref p]/\((SqL X.K H p ys/\∀l,H l=none->Q (.ref l) (upd H l (.tup ys)))\/(SqT X.K H p ys/\Q (.ref p) H))):=by
 intro p6 s σ H xs us Q I r h;let⟨p,ys,rfl,h⟩:=h;let⟨u,rfl,rx⟩:=JV r;cases rx;rcases h with⟨hq,q⟩|⟨hq,q⟩
 .obtain⟨pf,r',pl,hz⟩:=I.list hq;have hlen:=r'.length;refine call_tuple_list pl.isList (λh' kp=>?_) (by simp only[au]<;>lia);have I1:Inv X p6 σ H {s with heap:=h'}:=I.kept (t':=s.toks) kp;have I2:Inv X p6 σ (upd H h'.objs.size (.tup ys)) {s with heap:=h'.push {cls:=.type "tuple",data:=.seq pf.toArray} } :=
   I1.laid (t':=s.toks) (λb o e=>aj _ e) (ar _) (show ObjOk X.prog X.w _ _ _ (.tup ys)from⟨hz,pf,r',IsTup.new _ _⟩)
  exact⟨.ref h'.objs.size,_,I2,rfl,q _ (I1.hok.fresh (ar _))⟩
 .obtain⟨pf,r',pl,hz⟩:=I.tuple hq;exact call_tuple_same pl ⟨.ref p,H,I,rfl,q⟩
def tyV(K:A0)(T:String)(x:V)(H:Hp):Prop:=match x with
 | .str _=>T="str"
 | .int _=>T="int"
 | .ref p=>(T="list"/\∃xs,SqL K H p xs)\/(T="tuple"/\∃o,K.lookup p=some o/\o.cls=.type "tuple"/\o.dict=none) \/
   (T="dict"/\((∃pi,H p=some (.dK pi))\/∃pi,H p=some (.dT pi)))\/(T="set"/\∃S n,H p=some (.set S n))
 |_=>False
theorem ze1{p6:A3}{σ:St}{H:Hp}{s:An}{T:String}{x:V}{v:Am}(I:Inv X p6 σ H s)(r:RelV x v)(ty:tyV X.K T x H) :
  s.TypeIs v T/\∀a,v=.ref a->∃ob,s.heap.get? a=some ob/\ob.dict=none:=by
 cases x with
 |str z =>
  let⟨t,rfl⟩:=r;cases (show T="str" from ty);exact⟨typeIs_str s z t,λ_ e=>nomatch e⟩
 |int i =>
  let⟨t,rfl⟩:=r;cases (show T="int" from ty);exact⟨typeIs_int s i t,λ_ e=>nomatch e⟩
 |ref p =>
  cases r;rcases ty with⟨rfl,xs,hq⟩|⟨rfl,o,hk,hc,hd⟩|⟨rfl,hk⟩|⟨rfl,S,n,hk⟩
  .obtain⟨pf,_,pl,_⟩:=I.list hq;refine⟨pl.isList.typeIs,λa e=>?_⟩;cases e;let⟨o,n,e,c,hd,_⟩:=pl;exact⟨o,e,hd⟩
  .refine⟨⟨o,I.kIn p o hk,hc⟩,λa e=>?_⟩;cases e;exact⟨o,I.kIn _ o hk,hd⟩
  .have z:∃o,s.heap.get? p=some o/\o.ExactDict:=by
    rcases hk with⟨pi,hk⟩|⟨pi,hk⟩
    .obtain⟨_,_,_,_,o,_,_,e,ex,_⟩:=I.hok p _ hk;exact⟨o,e,ex⟩
    .obtain⟨_,_,_,_,o,_,_,e,ex,_⟩:=I.hok p _ hk;exact⟨o,e,ex⟩
   let⟨o,e,ex⟩:=z;refine⟨⟨o,e,ex.1⟩,λa e2=>?_⟩;cases e2;exact⟨o,e,ex.2.1⟩
  .obtain⟨o,_,_,_,e,ex,_⟩:=I.hok p _ hk;refine⟨⟨o,e,ex.1⟩,λa e2=>?_⟩;cases e2;exact⟨o,e,ex.2.1⟩
 |_=>exact False.elim ty
def tBM0(K:A0)(T:String)(r:V->List V->Hp->VK->Prop)(to:TE):TE:=λσ H Q=>to σ H λx H1=>tyV K T x H1/\r x [] H1 Q
def tBM(K:A0)(T:String)(r:V->List V->Hp->VK->Prop)(to:TE)(t:TA):TE:=λσ H Q=>to σ H λx H1=>tyV K T x H1/\t σ H1 λxs H2=>r x xs H2 Q
variable{o e:Expr}{es:List Expr}{to:TE}{t:TA}{name:Str}{apos cpos:Pos}{T id:String}{r:V->List V->Hp->VK->Prop}
def zcH(pa:PlainAttrs T)(slot:Slot T name id)(hty:typeOf (.builtin id)=pure (.type "method_descriptor"))(hm:MtR X id r)(ho:PE X o to)(hbase:attributeBase o name X.env (eval o X.env)=eval o X.env:=by rfl)(hline:(apos.endLine == cpos.line)=true:=by rfl):PE X (.Call (.Attribute o name apos) [] [] cpos) (tBM0 X.K T r to):=by
 intro p6 s σ H Q I h;refine wpAny_Call_method0_late hbase hline (qL (ho p6 s σ H _ I h) λv s1 x H1 I1 r1 qq_=>?_);let⟨ty,q1⟩:=qq_;let⟨h1,h2⟩:=ze1 I1 r1 ty;exact⟨T,id,pa,slot,hty,h1,h2,Calls.callWith_builtin rfl (PySem.evalArgs_none (hm p6 s1 σ H1 x [] v [] Q I1 r1 .nil q1))⟩
def qH(pa:PlainAttrs T)(slot:Slot T name id)(hty:typeOf (.builtin id)=pure (.type "method_descriptor"))(hm:MtR X id r)(ho:PE X o to)(ha:PA X (e::es) t)(hbase:attributeBase o name X.env (eval o X.env)=eval o X.env:=by rfl)(hfew:((backTo cpos (starEach (e::es) X.env)).all (λx=>!x.1)&&(backToKw cpos (keywordEach [] X.env)).all (λx=>x.1.isSome)
   && decide ((e::es).length+([]:List Keyword).length+(if ([]:List Keyword).isEmpty then 0 else 1)<30))=true:=by rfl)(hline:(apos.endLine == cpos.line)=true:=by rfl)(hs:starEach (e::es) X.env=(false,eval e X.env)::starEach es X.env:=by rfl)(hplain:(backTo cpos (starEach es X.env)).any (·.1)=false:=by rfl) :
  PE X (.Call (.Attribute o name apos) (e::es) [] cpos) (tBM X.K T r to t):=by
 intro p6 s σ H Q I h;refine wpAny_Call_method_late hbase hfew hline rfl (qL (ho p6 s σ H _ I h) λv s1 x H1 I1 r1 qq_=>?_);let⟨ty,q1⟩:=qq_;let⟨h1,h2⟩:=ze1 I1 r1 ty;refine⟨T,id,pa,slot,hty,h1,h2,?_⟩;have hA:=ha cpos p6 s1 σ H1 _ I1 q1;rw[hs]at hA ⊢;refine Calls.callWith_builtin (by show(false||(backTo cpos (starEach es X.env)).any (·.1))=false;rw[hplain]<;>rfl) (Calls.evalArgs_plain ?_);exact thn hA λus s2 ⟨vs,H2,I2,r2,q2⟩=>hm p6 s2 σ H2 x vs v us Q I2 r1 r2 q2
end
def MtM(X:Cx)(id:String)(r:V->List V->Hp->VK->Prop):Prop :=
 ∀(p6:A3)(s:An)(σ:St)(H:Hp)(x:V)(xs:Ap)(v:Am)(us:A8)(Q:VK),Inv X p6 σ H s->RelV x v->Vals xs us->r x xs H Q ->
  wpAny (model X.prog X.w) X.A (call (.builtin id) (v::us)) (EP X p6 σ Q) X.xe s
def Vals.one{x:V}(h:Vals [x] us):∃u,us=[u]/\RelV x u:=by
 cases h with
 |cons r t=>cases t;exact⟨_,rfl,r⟩
def Vals.two{x y:V}(h:Vals [x,y] us):∃u v,us=[u,v]/\RelV x u/\RelV y v:=by
 cases h with
 |cons r t =>
  let⟨v,rfl,q⟩:=Vals.one t;exact⟨_,_,rfl,r,q⟩
theorem Vals.zero:∀{us:A8},Vals [] us->us=[]
 |_,.nil=>rfl
def Vals.dropLast{xs:Ap}(h:Vals xs us):Vals xs.dropLast us.dropLast:=by
 induction h with
 |nil=>exact .nil
 |cons r t ih =>
  cases t with
  |nil=>exact .nil
  |cons q t'=>exact .cons r ih
theorem Vals.eraseIdx:∀{xs:Ap}{us:A8}(i:Nat),Vals xs us->Vals (xs.eraseIdx i) (us.eraseIdx i)
 |_,_,_,.nil=>.nil
 |_,_,0,.cons _ t=>t
 |_,_,i+1,.cons r t=>.cons r (Vals.eraseIdx i t)
def Vals.reverse{xs:Ap}(h:Vals xs us):Vals xs.reverse us.reverse:=by
 induction h with
 |nil=>exact .nil
 |cons r t ih=>rw[List.reverse_cons,List.reverse_cons];exact Vals.append ih (.cons r .nil)
theorem Vals.rep{xs:Ap}{us:A8}(h:Vals xs us):∀k:Nat,Vals (List.replicate k xs).flatten (List.replicate k us).flatten
 |0=>.nil
 |k+1=>by
  rw[cO,cO,dO,dO];exact Vals.append h (Vals.rep h k)
def zc5{α:Type}(l:List α):l.eraseIdx (l.length-1)=l.dropLast:=by
 induction l with
 |nil=>rfl
 |cons a r ih =>
  cases r with
  |nil=>rfl
  |cons b r =>
   have e:(a::b::r).length-1=((b::r).length-1)+1:=by
    have h1:(a::b::r).length=r.length+2:=rfl;have h2:(b::r).length=r.length+1:=rfl
    lia
   rw[e,fA,ih]
   all_goals rfl
theorem Vl{α:Type}:∀(l:List α)(i:Nat),(l.eraseIdx i).length<=l.length
 |[],_=>ar _
 |_::_,0=>cS _
 |_::r,i+1=>Nat.succ_le_succ (Vl r i)
theorem Vx(pf:A8):∀(k:Nat)(ph:A8),
  List.foldl (λx1 x2=>x1++x2) ph.toArray (List.replicate k pf.toArray)=(ph++(List.replicate k pf).flatten).toArray
 |0,ph=>by simp
 |k+1,ph=>by
  have e:ph.toArray++pf.toArray=(ph++pf).toArray:=by simp
  have e2:(ph++pf)++(List.replicate k pf).flatten=ph++(List.replicate (k+1) pf).flatten:=by
   rw[cO,dO,a9]
  rw[<- e2,<- Vx pf k (ph++pf),<- e,cO,cU]
section
variable{X:Cx}{p6:A3}{σ:St}{H:Hp}{s:An}{l b:Addr}{xs ys zs:Ap}
def Inv.lset{pf its':A8}{n:Nat}{f:Array Value->Array Value}{t':Nat}(I:Inv X p6 σ H s)(hH:H l=some (.lst xs))(e:s.heap.get? l=some {cls:=.type "list",data:=.seq pf.toArray n})(hf:f pf.toArray=its'.toArray)(hv:Vals ys its')(hz:ys.length<=sizeLine) :
  Inv X p6 σ (upd H l (.lst ys)) {s with heap:=s.heap.update l (Obj.mapSeq f),toks:=t'}:=by
 have q:=PySem.IsL.update e f;rw[hf]at q;refine I.write (x:=l) (e:=l) (by rw[hH];exact trivial) (.inl rfl) (λb' u hb hu=>(bz s.heap (Obj.mapSeq f) (ba hb)).trans hu) ⟨_,q⟩ ?_;exact⟨hz,its',_,hv,q⟩
def Inv.lnew{pf:A8}{t':Nat}(I:Inv X p6 σ H s)(hv:Vals ys pf)(hz:ys.length<=sizeLine) :
  Inv X p6 σ (upd H s.heap.objs.size (.lst ys)) {s with heap:=s.heap.push {cls:=.type "list",data:=.seq pf.toArray},toks:=t'} :=
 I.laid (λ_ _ q=>aj _ q) (ar _) ⟨hz,pf,0,hv,aI _ rfl⟩
def Inv.fresh(I:Inv X p6 σ H s):H s.heap.objs.size=none:=I.hok.fresh (ar _)
def Inv.lstM(I:Inv X p6 σ H s)(hH:H l=some (.lst xs)):xs.length<=sizeLine/\∃(pf:A8)(n:Nat),Vals xs pf/\xs.length=pf.length/\s.heap.get? l=some {cls:=.type "list",data:=.seq pf.toArray n}:=by
 let⟨z,pf,n,r,e⟩:=I.hok l _ hH;exact⟨z,pf,n,r,r.length,e⟩
def zbA{n:Nat}(h:n<=sizeLine):Builtin.List.listTooLong n=false:=by
 unfold Builtin.List.listTooLong;exact a8 (by lia)
end
section
variable{X:Cx}
def zae:V->List V->Hp->VK->Prop:=λx vs H Q=>∃l xs y,x=.ref l/\vs=[y]/\H l=some (.lst xs)/\xs.length<sizeLine/\Q .non (upd H l (.lst (xs++[y])))
def zS:MtM X "list.append" zae:=by
 intro p6 s σ H x vs v us Q I rx rv h;let⟨l,xs,y,rfl,rfl,hH,hz,q⟩:=h;cases rx;let⟨u,rfl,ru⟩:=rv.one;let⟨z,pf,n,r,hl,e⟩:=I.lstM hH;refine dk F.slot_list_append ⟨_,e,rfl⟩ F.entry_list_append (F.args_list_append_2 _ _) (PySem.list_append l pf.toArray n u (by rw[au];lia)) ⟨e,?_⟩;refine⟨.non,_,I.lset (its':=pf++[u]) hH e (by simp) (r.append (.cons ru .nil)) ?_,rfl,q⟩;rw[av,bw]
 lia
def zdu:V->List V->Hp->VK->Prop:=λx vs H Q=>∃l b xs zs,x=.ref l/\vs=[.ref b]/\H l=some (.lst xs)/\H b=some (.lst zs)/\xs.length+zs.length<=sizeLine/\Q .non (upd H l (.lst (xs++zs)))
def wm:MtM X "list.extend" zdu:=by
 intro p6 s σ H x vs v us Q I rx rv h;let⟨l,b,xs,zs,rfl,rfl,hH,hB,hz,q⟩:=h;cases rx;let⟨u,rfl,ru⟩:=rv.one;cases ru;let⟨z,pf,n,r,hl,e⟩:=I.lstM hH;let⟨z2,its2,n2,r2,hl2,e2⟩:=I.lstM hB;have hsz:pf.toArray.size+its2.toArray.size<=sizeLine:=by rw[au,au];lia
 have hlong:¬(!pf.toArray.isEmpty&&Builtin.List.listTooLong (pf.toArray.size+its2.toArray.size))=true:=by
  rw[zbA hsz,cD];exact aD
 refine dk F.slot_list_extend ⟨_,e,rfl⟩ F.entry_list_extend (F.args_list_extend_2 _ _)
  (AutoSeq1.list_extend_list_list_0 l pf.toArray n b its2.toArray n2 hlong (by rw[au];lia) (by lia)) ⟨e,e2,?_⟩
 refine⟨.non,_,I.lset (its':=pf++its2) hH e (by simp) (r.append r2) ?_,rfl,q⟩;rw[av]
 lia
def zjO:V->List V->Hp->VK->Prop:=λx vs H Q=>∃l xs y,x=.ref l/\vs=[]/\H l=some (.lst xs)/\xs[xs.length-1]?=some y/\Q y (upd H l (.lst xs.dropLast))
def ziH:MtM X "list.pop" zjO:=by
 intro p6 s σ H x vs v us Q I rx rv h;let⟨l,xs,y,rfl,rfl,hH,hy,q⟩:=h;cases rx;have hus:=rv.zero;subst hus;let⟨z,pf,n,r,hl,e⟩:=I.lstM hH;let⟨u,hu,ru⟩:=r.get hy;have hy':pf.toArray[pf.toArray.size-1]?=some u:=by
  show pf.toArray[pf.length-1]?=some u
  rw[<- cN,<- hl];exact hu
 refine dk cJ ⟨_,e,rfl⟩ F.entry_list_pop (F.args_list_pop_1 _) (MeetsSeq.list_pop_last l pf.toArray n u hy' (by rw[au];lia)) ⟨e,?_⟩;refine⟨y,_,I.lset (its':=pf.dropLast) hH e ?_ r.dropLast ?_,ru,q⟩
 .show pf.toArray.eraseIdxIfInBounds (pf.toArray.size-1)=pf.dropLast.toArray
  rw[au,eE,zc5]
 .rw[List.length_dropLast]
  lia
def zis:V->List V->Hp->VK->Prop:=λx vs H Q=>∃l xs i k y,x=.ref l/\vs=[.int i]/\H l=some (.lst xs)/\-(2^63)<=i/\i<2^63/\seqIndex? i xs.length=some k/\xs[k]?=some y/\Q y (upd H l (.lst (xs.eraseIdx k)))
def XR:MtM X "list.pop" zis:=by
 intro p6 s σ H x vs v us Q I rx rv h;let⟨l,xs,i,k,y,rfl,rfl,hH,h1,h2,hk,hy,q⟩:=h;cases rx;let⟨u,rfl,ru⟩:=rv.one;let⟨t,rfl⟩:=ru;let⟨z,pf,n,r,hl,e⟩:=I.lstM hH;let⟨w,hw,rw'⟩:=r.get hy;refine dk cJ ⟨_,e,rfl⟩ F.entry_list_pop (F.args_list_pop_2 _ _)
  (MeetsSeq.list_pop_at l pf.toArray n i t k w (fitsIndex_both h1 h2) (by rw[au,<- hl];exact hk) (by rw[<- cN];exact hw) (by rw[au];lia)) ⟨e,?_⟩
 refine⟨y,_,I.lset (its':=pf.eraseIdx k) hH e ?_ (r.eraseIdx k) ?_,rw',q⟩
 .show pf.toArray.eraseIdxIfInBounds k=(pf.eraseIdx k).toArray
  rw[eE]
 .have:=Vl xs k
  lia
def zfx:V->List V->Hp->VK->Prop:=λx vs H Q=>∃l xs,x=.ref l/\vs=[]/\H l=some (.lst xs)/\Q .non (upd H l (.lst xs.reverse))
def XQ:MtM X "list.reverse" zfx:=by
 intro p6 s σ H x vs v us Q I rx rv h;let⟨l,xs,rfl,rfl,hH,q⟩:=h;cases rx;have hus:=rv.zero;subst hus;let⟨z,pf,n,r,hl,e⟩:=I.lstM hH;refine dk F.slot_list_reverse ⟨_,e,rfl⟩ F.entry_list_reverse (F.args_list_reverse_1 _) (AutoSeq1.list_reverse_list_0 l pf.toArray n (by rw[au];lia)) ⟨e,?_⟩;refine⟨.non,_,I.lset (its':=pf.reverse) hH e (by simp) r.reverse ?_,rfl,q⟩;rw[cP]
 lia
def zjN:R2:=λx y H Q=>∃l k xs,x=.ref l/\y=.int k/\H l=some (.lst xs)/\-(2^63)<=k/\k<2^63/\xs.length*k.toNat<=sizeLine /\
 ∀p,H p=none->Q (.ref p) (upd H p (.lst (List.replicate k.toNat xs).flatten))
def zhi{α:Type}(xs:List α)(k:Nat):(List.replicate k xs).flatten.length=k*xs.length:=by
 induction k with
 |zero=>simp
 |succ k ih=>rw[cO,dO,av,ih,d9,fE]
def zcJ:OpR X (binaryOp .Mult) zjN:=by
 intro p6 s σ H x y v u Q I rx ry h;let⟨l,k,xs,rfl,rfl,hH,h1,h2,hz,q⟩:=h;cases rx;let⟨t,rfl⟩:=ry;let⟨z,pf,n,r,hl,e⟩:=I.lstM hH;have hlen:pf.toArray.size*k.toNat<=sizeLine:=by rw[au,<- hl];exact hz
 have hcap:¬pf.toArray.size*k.toNat>(2^63-1)/8:=by
  have:(sizeLine:Nat)<=(2^63-1)/8:=by decide
  lia
 have hfit:¬(!Builtin.List.listFitsIndex k)=true:=by
  rw[fitsIndex_both h1 h2];exact aD
 have hlong:¬Builtin.List.listTooLong (pf.toArray.size*k.toNat)=true:=by
  rw[zbA hlen];exact aD
 have hnew:List.foldl (λx1 x2=>x1++x2) #[] (List.replicate (if pf.toArray.isEmpty=true then 0 else k.toNat) pf.toArray)=(List.replicate k.toNat pf).flatten.toArray:=by
  have f0:∀m:Nat,List.foldl (λx1 x2=>x1++x2) #[] (List.replicate m pf.toArray)=(List.replicate m pf).flatten.toArray:=λm=>by
   have:=Vx pf m [];rw[nil_append]at this;exact this
  rw[f0];cases pf with
  |nil=>simp
  |cons a r'=>rw[ao (by simp)]
 refine wpAny_binaryOp_repeat_ref (T:="list") (U:="int") (by decide) ⟨_,e,rfl⟩ (λs'=>typeIs_int s' k t) noFill_list_mul F.fills_int_mul F.slot_int_rmul repeat_list F.slot_int_index.lookup
  (dk F.slot_int_rmul (typeIs_int s k t) F.entry_int_rmul (F.args_int_rmul_2 _ _) (int___rmul___int_list k t l pf.toArray n)
   ⟨e,rfl,⟨_,e,rfl⟩,dk F.slot_list_mul ⟨_,e,rfl⟩ F.entry_list_mul (F.args_list_mul_2 _ _) (AutoListH.list___mul___list_int_3 l pf.toArray n k t hfit hcap hlong) ⟨e,?_⟩⟩)
 rw[hnew];exact⟨.ref _,_,I.lnew (t':=s.toks) (r.rep k.toNat) (by rw[zhi,Nat.mul_comm];exact hz),rfl,q _ I.fresh⟩
end
section
variable{prog:Ag}{w:World}{A:Ao}{E:A4}{s:An}
end
section
variable{X:Cx}
end
end L2
namespace Att
open PySem PySem.W PySem.Calls PyProof.Rows
def JD{P:Params}{h:Heap}:∀(ns:A7)(vs:A8),WellAll P h vs (ns.map WData.int)->IntsAre vs ns:=by
 intro ns
 induction ns with
 |nil =>
  intro vs w;rw[d5]at w;cases w;exact .nil
 |cons n ns ih =>
  intro vs w;rw[bJ]at w;cases w with
  |cons a b =>
   cases a;exact .cons _ _ (ih _ b)
theorem zeg{l:OpenLaw}{n:Nat}(hn:l.most=some n){P:Params}{h:Heap}{args:List WData}{vals:A8}(hpre:l.row.toRowW.claim.pre args=true)(hwl:WellAll P h vals args) :
  ∃a vs ns,vals=[Value.ref a]/\args=[WData.list (ns.map WData.int)]/\h.get? a=some {cls:=.type "list",data:=.seq vs.toArray}/\IntsAre vs ns/\ns.length<=n:=by
 have hsh:WShape.hasAll [] args [.list .int]=true:=(pre_splitW hpre).1;have hc:l.pre.holds [] {args:=args}=true:=(pre_splitW hpre).2;let⟨d,r,rfl,h1,h2⟩:=hasAllW_cons hsh;obtain rfl:=hasAllW_nil h2;let⟨xs,rfl,h3⟩:=hasW_list h1;let⟨ns,rfl⟩:=items_int h3;have hlen:ns.length<=n:=by
  unfold OpenLaw.pre at hc;have h4:(WTm.not (.lt (.lit (.int (n:Int))) (.len (.arg 0)))).holds [] {args:=[.list (ns.map .int)]}=true:=by
   have h4:=(holds_andW hc).1;rw[hn]at h4;exact h4
  have h5:=condW_of h4 (w_not (w_lt w_lit (w_len_list (w_arg rfl))));rw[ae]at h5;refine Nat.le_of_not_lt λq=>?_;have q':(n:Int)<((ns.length:Nat):Int):=by lia
  first
   |(rw[bh q']at h5;exact absurd h5 (by decide))
   |(simp at h5;lia)
 cases hwl with
 |cons w1 w2 =>
  cases w2;cases w1 with
  |list ho hall=>exact⟨_,_,ns,rfl,rfl,ho,JD ns _ hall,hlen⟩
def zer(l:OpenLaw)(args:List WData):l.row.toRowW.claim.post args (.bool true) args=true :=
 postW_of (r:=l.row.toRowW) (X:=(true == true))
  (show WShape.has [] (.bool true) .bool=true by first|rfl|decide|simp[WShape.has,WShape.arms,WShape.armsAll])
  (show(WTm.eq .res (.lit (.bool true))).value [] {args:=args,res:=some (.bool true),after:=args}=some (.bool (true == true))from w_eq_bool (w_res rfl) w_lit) rfl
def attach_call{l:OpenLaw}{n:Nat}{q:Ag}{loose:A9}{XP:(Str->Option Value)->Heap->Prop}{YP:World->Heap->Prop}{d:DefRec}(hn:l.most=some n)(hdf:d.params.defaults=[])(call:∀(w:World)(s₀ s₁:An)(mg mb:A5)(fa:Addr)(o:Obj)(pm cd doc:Am)(a:Addr)(vs:A8)(ns:A7),
   Ground q loose [] XP w s₀ mg mb s₁.heap->YP w s₁.heap ->
   s₁.heap.get? fa=some o->o.data=.func (docDef d.name d.params d.body d.scope pm cd doc)->s₁.heap.CodeRec cd d.name->mg d.name=some (.ref fa) ->
   s₁.heap.get? a=some {cls:=.type "list",data:=.seq vs.toArray}->IntsAre vs ns->ns.length<=n->s₁.gens=#[] ->
   codeAny (model l.prog w) callerA (.call (.ref fa) ⟨[.ref a],[]⟩) (λr s'=>r=.ok (.ret (.bool true))/\OldK s₁.heap s'.heap/\s'.os=s₁.os/\AllBare s'.gens) s₁) :
  WalkO q loose XP YP l.row.toRowW d [] (λf vs=>PySem.call f vs):=by
 intro w s₀ s₁ mg mb G Y fa o pm cd doc dV kV ho hd hcd hD hmg hg args vals as hpre hlay hrd hwl hlo;obtain rfl:dV=.none:=Dflts.none hD hdf;obtain rfl:kV=.none:=Dflts.noKw hD;let⟨a,vs,ns,rfl,rfl,hobj,hints,hlen⟩:=zeg hn hpre hwl;refine enter_call (dh (call w s₀ s₁ mg mb fa o pm cd doc a vs ns G Y ho (fd_plain hd) hcd hmg hobj hints hlen hg) λr s' hq=>?_);let⟨rfl,h2,h3,h4⟩:=hq;exact⟨.inl ⟨.bool true,.bool true,[],rfl,λ_=>rfl,.bool true,zer l _,λ_=>⟨List.Pairwise.nil,λ_ hm=>(nomatch hm)⟩⟩,h2,h3,h4⟩
section
variable{prog:Ag}{w:World}{A:Ao}{E:A4}{s:An}{K:Frag}
noncomputable def ledger(h:Heap)(L d:Addr):List (Addr×Obj):=(List.range h.objs.size).filterMap λa=>if a=L\/a=d then none else(h.get? a).map λo=>(a,o)
end
end Att
namespace L2
open PySem PySem.Spec PyProof.Rows
variable{fd:FuncData}
theorem WP:∀{vs:A8}{ns:A7},IntsAre vs ns->Vals (ns.map V.int) vs
 |_,_,.nil=>.nil
 |_,_,.cons n t h=>.cons ⟨t,rfl⟩ (WP h)
def zi8(H:Hp):Prop:=∀b,H b=none\/∃o xs,H b=some (.frz o (.lst xs))
theorem zf0{P:Ag}{w:World}{K:A0}{mg mb:A5}{CX:CXT}{k:Nat}{fa a:Addr}{x:Str}{sp:Sp}{s₁:An}{vs:A8}{ns:A7}(KX:K.In s₁.heap)(hns:s₁.heap.Ns mainGlobals mg)(hb:s₁.heap.Ns builtinsNs mb)(hbb:∀x:Str,x≠"__name__"->mb x=bootBuiltins x)(hlim:s₁.heap.NoLimit)(hg:s₁.gens=#[])(ha:s₁.heap.get? a=some {cls:=.type "list",data:=.seq vs.toArray})(hi:IntsAre vs ns)(hl:ns.length<=sizeLine)(hr:Room k callerA)(F:∀base:Heap,K.In base->base.Ns mainGlobals mg->FnOk P w K mg base CX k fa fd [x] sp)(hbind:∀(s:An)(u:Am),BindsTo s fd ⟨[u],[]⟩ [(x,u)])(hsp:∀H:Hp,zi8 H->SqL K H a (ns.map V.int)->sp [.ref a] H (λv _=>v=.bl true) λ_ _ _=>False)(hCX:∀H e s',CX [] H s₁ (λ_ _ _=>False) e s'->False) :
  codeAny (model P w) callerA (.call (.ref fa) ⟨[.ref a],[]⟩) (λr s'=>r=.ok (.ret (.bool true))/\OldK s₁.heap s'.heap/\s'.os=s₁.os/\AllBare s'.gens) s₁:=by
 have rv:=WP hi;have lenV:=hi.length;have core:∀H:Hp,zi8 H->SqL K H a (ns.map V.int)->HOk P w H s₁.heap->(∀b,H b≠none->b=a)->(H a≠none->K.lookup a=none) ->
   codeAny (model P w) callerA (.call (.ref fa) ⟨[.ref a],[]⟩) (λr s'=>r=.ok (.ret (.bool true))/\OldK s₁.heap s'.heap/\s'.os=s₁.os/\AllBare s'.gens) s₁:=by
  intro H hO hS hok hA hK;have base_of:∀{b:Addr}{o:Obj},s₁.heap.get? b=some o->H b=none->(zaz s₁.heap H).get? b=some o:=λe n=>zgh e n;have noA:∀{b:Addr}{o:Obj}{es:Array DictEntry}{ep:Nat},s₁.heap.get? b=some o->o.data=.dict es ep->H b=none:=λ{b o es ep} e d=>by
   cases q:H b with
   |none=>rfl
   |some u =>
    have e':b=a:=hA b (by rw[q];simp);subst e';rw[ha]at e;cases e;have d':Data.seq vs.toArray _=Data.dict es ep:=d;cases d'
  have nsK:∀{b:Addr}{m:A5},s₁.heap.Ns b m->(zaz s₁.heap H).Ns b m:=λ{b m} ⟨o,es,ep,e,d,r⟩=>⟨o,es,ep,base_of e (noA e d),d,r⟩;have hKb:K.In (zaz s₁.heap H):=λb o e=>base_of (KX b o e) (by
   cases q:H b with
   |none=>rfl
   |some u =>
    have e':b=a:=hA b (by rw[q];simp);subst e';rw[hK (by rw[q];simp)]at e;cases e)
  have hM:Mod K mg (zaz s₁.heap H):=⟨hKb,nsK hns,⟨mb,nsK hb,hbb⟩,let⟨mc,h1,h2⟩:=hlim;⟨mc,nsK h1,h2⟩⟩;have e0:Env0 P w K mg (zaz s₁.heap H) callerA [] s₁ H:=⟨rfl,hM,λb o e=>zhf e,Nat.le_of_eq (zeF _ _),trivial,λb hb=>absurd (show b∈([]:Ac)from hb) (by simp),hok,.of_eq hg⟩;refine dh ((F _ hKb (nsK hns)).run callerA [] s₁ H ⟨[.ref a],[]⟩ [.ref a] [.ref a] _ _ hr e0 (hbind s₁ (.ref a)) (.cons rfl .nil) (hsp H hO hS)) λr s' h=>?_;cases r with
  |error e=>exact(hCX H e s' h).elim
  |ok fl =>
   cases fl with
   |next=>exact False.elim h
   |brk=>exact False.elim h
   |cont=>exact False.elim h
   |ret u =>
    let⟨v,H',os,bare,un,hok',r',q⟩:=h;have q':v=.bl true:=q;subst q';obtain rfl:u=Value.bool true:=r';refine⟨rfl,OldK.of_keep λb o e=>?_,os,bare⟩;cases q:H b with
    |none=>exact un.keep b o e q (by intro z;exact absurd (show b∈([]:Ac)from z) (by simp)) (by simp)
    |some u =>
     rcases hO b with z|⟨ob,xs,z⟩
     .rw[q]at z;cases z
     .have z2:=un.frzs b ob _ z;let⟨e1,_⟩:=hok b _ z;let⟨e2,_⟩:=hok' b _ z2;rw[e]at e1;cases e1;exact e2
 cases hk:K.lookup a with
 |some o =>
  have e:=KX a o hk;rw[ha]at e;cases e;refine core (λ_=>none) (λ_=>.inl rfl) (.inr ⟨_,vs.toArray,_,hk,rfl,rfl,rfl,by rw[au,lenV];exact hl,by simpa using rv⟩) (λb u z=>by have z':(none:Option HO)=some u:=z;cases z') (λb z=>absurd rfl z) λz=>absurd rfl z
 |none =>
  refine core (λb=>if b=a then some (.frz {cls:=.type "list",data:=.seq vs.toArray} (.lst (ns.map V.int)))else none) (λb=>?_) (.inl (.inr ⟨{cls:=.type "list",data:=.seq vs.toArray},aq rfl⟩)) (λb u z=>?_) (λb z=>?_) λ_=>hk
  .by_cases hb:b=a
   .exact .inr ⟨_,_,aq hb⟩
   .exact .inl (ao hb)
  .by_cases hb:b=a
   .have z':=(aq hb).symm.trans z;cases z';subst hb;exact⟨ha,by rw[ae];exact hl,vs,_,rv,ha⟩
   .have z':=(ao hb).symm.trans z;cases z'
  .by_cases hb:b=a
   .exact hb
   .exact absurd (ao hb) z
def walk_of{l:PySem.W.OpenLaw}{n k:Nat}{q:Ag}{loose:A9}{XP:(Str->Option Value)->Heap->Prop}{YP:World->Heap->Prop}{d:DefRec}{K:Params->PySem.W.Frag}{CX:World->CXT}{sp:World->Sp}{x:Str}(hn:l.most=some n)(hn2:n<=sizeLine)(hdf:d.params.defaults=[])(hr:Room k callerA)(hY:∀(w:World)(h:Heap),YP w h->(K w.params).In h)(F:∀(w:World)(mg:A5)(fa:Addr)(h:Heap),(K w.params).In h->h.Ns mainGlobals mg->mg d.name=some (.ref fa) ->
   ∃fd:FuncData,(∀(s:An)(u:Am),BindsTo s fd ⟨[u],[]⟩ [(x,u)]) /\
    ∀base:Heap,(K w.params).In base->base.Ns mainGlobals mg->FnOk l.prog w (K w.params) mg base (CX w) k fa fd [x] (sp w))(hsp:∀(w:World)(H:Hp)(a:Addr)(ns:A7),ns.length<=n->zi8 H->SqL (K w.params) H a (ns.map V.int)->sp w [.ref a] H (λv _=>v=.bl true) λ_ _ _=>False)(hCX:∀(w:World)(H:Hp)(s:An)(e:Am)(s':An),CX w [] H s (λ_ _ _=>False) e s'->False) :
  PySem.W.WalkO q loose XP YP l.row.toRowW d [] (λf vs=>PySem.call f vs):=by
 refine Att.attach_call hn hdf λw s₀ s₁ mg mb fa o pm cd doc a vs ns G Y ho hd hcd hmg hobj hints hlen hg=>?_;have KX:=hY w _ Y;let⟨fd,hb,hF⟩:=F w mg fa _ KX G.T.g hmg;exact zf0 KX G.T.g G.T.b G.T.builtins G.T.nolimit hg hobj hints (aR hlen hn2) hr hF hb (λH hO hS=>hsp w H a ns hlen hO hS) λH e s'=>hCX w H s₁ e s'
noncomputable def qa(s:Stmt)(j:Nat):Stmt:=match s with
 | .ClassDef _ _ _ body _ _ _ _ _ _ _=>body.getD j (.Pass ⟨0,0,0,0⟩)
 |_=>.Pass ⟨0,0,0,0⟩
noncomputable def qt(s:Stmt):Arguments:=match s with
 | .FunctionDef _ a _ _ _ _ _ _ _ _=>a
 |_=>{posonlyargs:=[],args:=[],vararg:=none,kwonlyargs:=[],kw_defaults:=[],kwarg:=none,defaults:=[]}
noncomputable def qg(s:Stmt):List Stmt:=match s with
 | .FunctionDef _ _ b _ _ _ _ _ _ _=>b
 |_=>[]
noncomputable def zf(s:Stmt):Scope:=match s with
 | .FunctionDef _ _ _ _ _ _ sc _ _ _=>sc
 |_=>{kind:=.function,names:=[],isGenerator:=false,isCoroutine:=false}
abbrev CX0:CXT:=λ_ _ _ _ _ _=>False
structure Fun(K:A0)(x qual:Str)(st:Stmt)(f:Addr)(fd:FuncData):Prop where
 ex:∃(oc:Am)(od:Ab)(kV doc pm:Am)(an:Ab)(cdv ct:Am)(osl:Af),
  fd=fnOf x qual (qt st) (qg st) (zf st) .none kV doc pm an cdv ct/\K.lookup f=some ⟨oc,od,.func fd,osl⟩/\codeIn K cdv qual=true
 kp:keepIn K (.ref f)=true
section
variable{P:Ag}{w:World}{K:A0}{mg:A5}{base:Heap}
def Fun.ok{x qual:Str}{st:Stmt}{f:Addr}{N ps:A9}{k:Nat}{sp:Sp}(F:Fun K x qual st f fd)(S:FnScope N ps (zf st))(len:∀vs H Q E,sp vs H Q E->vs.length=ps.length)(hbody:∀(cdv:Am)(A:Ao)(outer:List Env)(s:An)(H:Hp)(vs:Ap)(Q:VK)(E:XK),Room k (A.deeper (envOfC qual (zf st) s.heap.objs.size f cdv))->sp vs H Q E ->
   ∃t,PSs (JE CX0 P w K mg base N qual (zf st) f cdv A outer s H E).nox (qg st) t/\t {nx:=λ_ H'=>Q .non H',rt:=Q} (start N vs) H):FnOk P w K mg base CX0 (k+1) f fd ps sp:=by
 let⟨oc,od,kV,doc,pm,an,cdv,ct,osl,rfl,lk,hcd⟩:=F.ex;refine zgn lk hcd S len λA outer s H vs Q E hr hsp=>?_;let⟨t,h,q⟩:=hbody cdv A outer s H vs Q E hr hsp;exact⟨t,h.nox,q⟩
def Fun.binds{x qual:Str}{st:Stmt}{f:Addr}{ps:A9}(F:Fun K x qual st f fd)(h:∀(kV doc pm:Am)(an:Ab)(cdv ct:Am)(us:A8),us.length=ps.length->bindArgs (fnOf x qual (qt st) (qg st) (zf st) .none kV doc pm an cdv ct) ⟨us,[]⟩=pure (ps.zip us)):Binds K fd ps []:=by
 let⟨oc,od,kV,doc,pm,an,cdv,ct,osl,rfl,lk,hcd⟩:=F.ex;exact .all (h kV doc pm an cdv ct)
def wJ{x qual:Str}{st:Stmt}{f:Addr}{oc:Am}{od an:Ab}{osl:Af}{kV doc pm cdv ct:Am}(l:K.lookup f=some ⟨oc,od,.func (fnOf x qual (qt st) (qg st) (zf st) .none kV doc pm an cdv ct),osl⟩)(c:codeIn K cdv qual=true)(k:keepIn K (.ref f)=true):Fun K x qual st f (fnOf x qual (qt st) (qg st) (zf st) .none kV doc pm an cdv ct):=⟨⟨oc,od,kV,doc,pm,an,cdv,ct,osl,rfl,l,c⟩,k⟩
end
def zm{n:Nat}(h:n<=1000):n<sizeLine:=c7 h (by decide)
section
variable{X:Cx}
def pv(i:Nat){x:Str}{pos:Pos}(hN:X.N[i]?=some x:=by rfl)(hv:Vis X.env.scope x:=by first|exact Or.inl rfl|exact Or.inr (Or.inl rfl)|exact Or.inr (Or.inr rfl))(hd:(x == ("__debug__":Str))=false:=by decide)(hcd:(x == ("__classdict__":Str))=false:=by decide):PE X (.Name x pos) (tVar i):=zfD hN hv hd hcd
end
def zF{c A B:Prop}[Decidable c](h1:c->A)(h2:¬c->B):if c then A else B:=by
 by_cases h:c
 .rw[aq h];exact h1 h
 .rw[ao h];exact h2 h
def Same(H H':Hp):Prop:=∀b o,H b=some o->H' b=some o
def Same.refl(H:Hp):Same H H:=λ_ _ h=>h
def Same.trans{H H1 H2:Hp}(a:Same H H1)(b:Same H1 H2):Same H H2:=λc o h=>b c o (a c o h)
def Same.free{H H':Hp}(e:Same H H'){l:Addr}(h:H' l=Option.none):H l=Option.none:=by
 cases q:H l with
 |none=>rfl
 |some o =>
  rw[e l o q]at h;cases h
def Same.seq{K:A0}{H H':Hp}{a:Addr}{xs:Ap}(e:Same H H')(h:SqL K H a xs):SqL K H' a xs:=by
 rcases h with(h|⟨o,h⟩)|h
 .exact .inl (.inl (e _ _ h))
 .exact .inl (.inr ⟨o,e _ _ h⟩)
 .exact .inr h
end L2
set_option maxHeartbeats 4000000
namespace L2
open PySem PySem.Spec PyProof.Rows
variable{K:A0}{H:Hp}{P:Ag}{w:World}{base:Heap}{s:An}{Q:Ah}{cls:Am}{sp:Sp}{mg:A5}{ps:A9}{oe:Obj}{p6:A3}{x:Str}
abbrev GK:=Value->St->Hp->Prop
structure Exc(g h:Heap)(H:Hp)(pn:A3)(a:Addr)(cls:Am):Prop where
 ex:∃(oe:Obj)(vs:Ae)(T:Addr)(oT:Obj)(ts:Ae),h.get? a=some oe/\oe.cls=cls/\oe.dict=none/\oe.data=.fields vs/\vs[1]?=some (.ref T)/\T≠a /\
  h.get? T=some oT/\oT.data=.fields ts/\ts[3]?=some .none/\g.get? T=none/\H T=none/\∀p∈pn,p.1≠T
 ga:g.get? a=none
 Ha:H a=none
 pa:∀p∈pn,p.1≠a
def ObjOk.there{h:Heap}{a:Addr}{o:HO}(x:ObjOk P w H h a o):∃ob,h.get? a=some ob:=by
 cases o with
 |lst xs=>let⟨_,_,_,_,e⟩:=x;exact⟨_,e⟩
 |tup xs=>let⟨_,_,_,ob,e,_⟩:=x;exact⟨_,e⟩
 |dK pi=>let⟨_,_,_,_,o,_,_,e,_⟩:=x;exact⟨_,e⟩
 |dT pi=>let⟨_,_,_,_,o,_,_,e,_⟩:=x;exact⟨_,e⟩
 |set S n=>let⟨o,_,_,_,e,_⟩:=x;exact⟨_,e⟩
 |ins C dx fs=>let⟨_,_,_,e,_⟩:=x;exact⟨_,e⟩
 |own y=>let⟨_,e⟩:=x;exact⟨_,e⟩
 |xd fs=>let⟨_,⟨_,_,_,e,_⟩,_⟩:=x;exact⟨_,e⟩
 |rng lo hi=>let⟨_,_,_,e⟩:=x;exact⟨_,e⟩
 |frz ob u=>let⟨e,_⟩:=x;exact⟨_,e⟩
 |tbl ps=>exact⟨_,(show h.get? a=some _ from x)⟩
 |met f y=>exact⟨_,(show h.get? a=some _ from x)⟩
 |ext φ=>let⟨_,⟨_,e⟩,_⟩:=x;exact⟨_,e⟩
section
variable{M:Model}{A:Ao}{E:A4}{s:An}
def Vy{env:Env}{outer:List Env}{L e:Addr}{vs:Ae}{head:Am}{hadNext:Bool}(hfr:A.frames=some (env::outer))(hl:s.heap.FunFrames base (env::outer))(hf:env.frame=some L)(he:s.heap.get? e=some oe)(hd:oe.data=.fields vs)(hsz:1<vs.size)(h:∀h' T,(∀b o,b∉(env::outer).filterMap (·.frame)->b≠e->s.heap.get? b=some o->h'.get? b=some o)->(∀b o,b≠e->s.heap.get? b=some o->∃sl,h'.get? b=some {o with slots:=sl}) ->
   s.heap.get? T=none->T≠e->h'.get? e=some (oe.mapFields (·.setIfInBounds 1 (.ref T)))->(∃oT ts,h'.get? T=some oT/\oT.data=.fields ts/\ts[3]?=some .none)->Q () {s with heap:=h'}) :
  wpAny M A (do let a <- frameOf env;let pl <- entryPlaceOf L hadNext;let b <- EntryCells.newEntry head a .none (rawInt L) .none pl;setField (.ref e) 1 b) (λ_ s'=>wpAny M A (setFlight (.ref e) none) Q E s') E s:=by
 have hene:e∉(env::outer).filterMap (·.frame):=λhm=>by
  let⟨_,o,ho,hnf⟩:=hl.mem hm;rw[he]at ho;injection ho with ho;subst ho;exact hnf vs hd
 refine ac (wpAny_frameOf_fun hfr hl hf λh₁ hs₁=>?_);refine ac (wpAny_entryPlaceOf λpl hpl=>?_);unfold EntryCells.newEntry newFields;refine ac (bO ?_ (hpl.sizeOk5 _ _ _ _ _));have he₁:h₁.get? e=some oe:=(hs₁.2.1 e hene).trans he;have he₂:=aj (h:=h₁) {cls:=.type "traceback",dict:=none,data:=.fields ([head,.ref L,.none,rawInt L,.none]++(if pl.isEmpty then List.replicate 6 Value.none else pl)).toArray} he₁;refine di he₂ hd hsz ?_;have hTe:h₁.objs.size≠e:=dE (aB he₁);have hd₃:=bB hd (·.setIfInBounds 1 (Value.ref h₁.objs.size));have he₃:=bY (Obj.mapFields (·.setIfInBounds 1 (Value.ref h₁.objs.size))) he₂ (cn hd₃);have hT₃:=(bz (h₁.push {cls:=.type "traceback",dict:=none,data:=.fields ([head,.ref L,.none,rawInt L,.none]++(if pl.isEmpty then List.replicate 6 Value.none else pl)).toArray})
  (Obj.mapFields (·.setIfInBounds 1 (Value.ref h₁.objs.size))) (ba hTe)).trans (aI h₁ rfl)
 unfold setFlight;refine ac (be he₃ hd₃ (x:=.ref h₁.objs.size) (by simp[hsz]) ?_);rw[aq (show(Value.ref h₁.objs.size != Value.none)=true from by simp)];refine di hT₃ rfl (by simp only[au,av,br,dN]<;>lia) ?_;have keep:∀b o,b≠e->h₁.get? b=some o ->
   (((h₁.push {cls:=.type "traceback",dict:=none,data:=.fields ([head,.ref L,.none,rawInt L,.none]++(if pl.isEmpty then List.replicate 6 Value.none else pl)).toArray}).update e (Obj.mapFields (·.setIfInBounds 1 (Value.ref h₁.objs.size)))).update h₁.objs.size
    (Obj.mapFields (·.setIfInBounds 3 ((none:Ab).elim Value.none λf=>rawInt f)))).get? b=some o:=λb o hbe hb=>by
  have hbT:h₁.objs.size≠b:=dE (aB hb);rw[bz _ _ hbT,bz _ _ (ba hbe)];exact aj _ hb
 refine h _ h₁.objs.size (λb o hb hbe q=>keep b o hbe ((hs₁.2.1 b hb).trans q)) (λb o hbe q=>?_) (Heap.get?_none_of_le (by rw[hs₁.1];exact ar _)) hTe ?_ ?_
 .obtain⟨sl,hs⟩:=hs₁.2.2 b o q;exact⟨sl,keep b _ hbe hs⟩
 .rw[bz _ _ hTe];exact he₃
 .exact⟨_,_,bY _ hT₃ (cn (bB rfl _)),bB rfl _,by first|(simp;done)|(rcases hpl with rfl|⟨_,_,_,_,_,_,_,rfl⟩<;>simp)⟩
def Vm{env:Env}{outer:List Env}{L e:Addr}{vs:Ae}{ch:Ac}(hfr:A.frames=some (env::outer))(hl:s.heap.FunFrames base (env::outer))(hf:env.frame=some L)(he:s.heap.get? e=some oe)(hd:oe.data=.fields vs)(h1:(vs[1]?=some .none/\ch=[e])\/∃T oT ts,vs[1]?=some (.ref T)/\T≠e/\s.heap.get? T=some oT/\oT.data=.fields ts/\ts[3]?=some .none/\ch=[e,T])(h:∀h' T,(∀b o,b∉(env::outer).filterMap (·.frame)->b∉ch->s.heap.get? b=some o->h'.get? b=some o)->(∀b o,b∉ch->s.heap.get? b=some o->∃sl,h'.get? b=some {o with slots:=sl}) ->
   (∀b∈ch,∃o,h'.get? b=some o)->s.heap.get? T=none->T≠e->h'.get? e=some (oe.mapFields (·.setIfInBounds 1 (.ref T)))->(∃oT ts,h'.get? T=some oT/\oT.data=.fields ts/\ts[3]?=some .none)->Q () {s with heap:=h'}) :
  wpAny M A (noteFrame (.ref e) env) (λ_ s'=>wpAny M A (setFlight (.ref e) none) Q E s') E s:=by
 rcases h1 with⟨h1,rfl⟩|⟨T,oT,ts,h1,hTe,hT,hdT,h3,rfl⟩
 .unfold noteFrame;simp only[hf];refine ac (be he hd h1 ?_);rw[ao (by decide)];refine Vy hfr hl hf he hd (bR.mp h1).1 λh' T k1 k2 k3 k4 k5 k6=>?_;refine h h' T (λb o hb hc q=>k1 b o hb (λz=>hc (by simp[z])) q) (λb o hc q=>k2 b o (λz=>hc (by simp[z])) q) (λb hb=>?_) k3 k4 k5 k6;obtain rfl:b=e:=by simpa using hb
  exact⟨_,k5⟩
 .unfold noteFrame;simp only[hf];refine ac (be he hd h1 ?_);rw[aq (show(Value.ref T != Value.none)=true from by simp)];refine ac (be hT hdT h3 ?_);rw[ao (show ¬((Value.none == rawInt L)=true)from by simp[rawInt])];refine ac (di hT hdT (bR.mp h3).1 ?_);have other:∀b,b≠T->(s.heap.update T (Obj.mapFields (·.setIfInBounds 3 Value.none))).get? b=s.heap.get? b:=λb hb=>bz _ _ (ba hb);have noRecord:∀b o,s.heap.get? b=some o->(∀vs,o.data≠.fields vs)->b≠T:=λb o hb hnf q=>by
   rw[q,hT]at hb;injection hb with hb;subst hb;exact hnf ts hdT
  have hT':=bY (Obj.mapFields (·.setIfInBounds 3 Value.none)) hT (cn (bB hdT _));refine Vy hfr (hl.of_keeps λb o hb hnf=>⟨o,(other b (noRecord b o hb hnf)).trans hb,rfl⟩) hf ((other e (ba hTe)).trans he) hd (bR.mp h1).1 λh' T' k1 k2 k3 k4 k5 k6=>?_;have hTT:T'≠T:=λz=>by rw[z,hT']at k3;cases k3
  refine h h' T' (λb o hb hc q=>k1 b o hb (λz=>hc (by simp[z])) ((other b (λz=>hc (by simp[z]))).trans q)) (λb o hc q=>k2 b o (λz=>hc (by simp[z])) ((other b (λz=>hc (by simp[z]))).trans q)) (λb hb=>?_) ((other T' hTT).symm.trans k3) k4 k5 k6;rcases aC.mp hb with rfl|hb
  .exact⟨_,k5⟩
  .obtain rfl:b=T:=by simpa using hb
   let⟨sl,q⟩:=k2 b _ hTe hT';exact⟨_,q⟩
end
section
variable{X:Cx}{p6:A3}{σ:List Aq}{H:Hp}{s:An}{h':Heap}
def Inv.stepx{ch:Ac}(I:Inv X p6 σ H s)(hch:∀b∈ch,X.s₀.heap.get? b=none/\H b=none/\∀p∈X.pn++p6,p.1≠b)(hrec:∀b∈ch,∃o vs,s.heap.get? b=some o/\o.data=.fields vs)(keep:∀b o,b∉frs X.stack->b∉ch->s.heap.get? b=some o->h'.get? b=some o)(slot:∀b o,b∉ch->s.heap.get? b=some o->∃sl,h'.get? b=some {o with slots:=sl})(there:∀b∈ch,∃o,h'.get? b=some o):Inv X p6 σ H {s with heap:=h'}:=by
 have neL:∀b∈ch,b≠X.env.locals:=λb hb z=>by
  let⟨o,vs,ho,hd⟩:=hrec b hb;let⟨m,⟨o',es,ep,ho',hd',_⟩,_⟩:=I.loc;rw[z,ho']at ho;cases ho;rw[hd']at hd;cases hd
 have neC:∀b∈ch,∀x c,X.env.cells.lookup x=some c->c≠b:=λb hb x c e z=>by
  let⟨o,vs,ho,hd⟩:=hrec b hb;let⟨v,o',ho',hd'⟩:=I.cell x c e;rw[z,ho]at ho';cases ho';rw[hd]at hd';cases hd'
 have nch:∀b o,X.s₀.heap.get? b=some o->b∉ch:=λb o e hb=>by rw[(hch b hb).1]at e;cases e
 have trk:∀b u,H b=some u->b∉ch/\b∉frs X.stack:=λb u e=>⟨(λhb=>by rw[(hch b hb).2.1]at e;cases e),(λhb=>by rw[I.stkFree b hb]at e;cases e)⟩;have nfs:∀b,b∉X.fs->b≠X.env.locals->b∉frs X.stack:=λb h1 h2 z=>(aC.mp (I.stkSub b z)).elim h2 h1;have ltL:∀b o,X.s₀.heap.get? b=some o->b≠X.env.locals:=λb o e=>aQ (aH (aB e) I.ok.above);have cellK:∀x c,X.env.cells.lookup x=some c->∀v,s.heap.IsCell c v->h'.IsCell c v:=λx c e v ⟨o,ho,hd⟩=>by
  let⟨sl,q⟩:=slot c o (λz=>neC c z x c e rfl) ho;exact⟨_,q,hd⟩
 have hok:HOk X.prog X.w H h':=λb u e=>(I.hok b u e).stay (λc v hc q=>by
  have hcH:∃u',H c=some u':=by
   rcases hc with rfl|z
   .exact⟨_,e⟩
   .exact⟨_,z⟩
  let⟨u',hu⟩:=hcH;exact keep c v (trk c u' hu).2 (trk c u' hu).1 q) (λ_ q=>q) λ_ _ q=>q
 refine⟨I.ok,I.os,I.bare,⟨λb o e n hb hx=>?_,λb o e n hb hx=>?_,I.base.free,λb o e hx=>?_,I.base.tups,I.base.frzs,I.base.tbls⟩,?_,λx c e=>?_,I.free,I.freeC,λp hp=>?_,hok,I.len⟩
 .exact keep b o (nfs b hb (ltL b o e)) (nch b o e) (I.base.keep b o e n hb hx)
 .obtain⟨sl,e1⟩:=I.base.slot b o e n hb hx;let⟨sl',e2⟩:=slot b _ (nch b o e) e1;exact⟨sl',e2⟩
 .obtain⟨o',e1⟩:=I.base.there b o e hx;let⟨sl',e2⟩:=slot b _ (nch b o e) e1;exact⟨_,e2⟩
 .obtain⟨m,⟨o,es,ep,ho,r⟩,hl⟩:=I.loc;let⟨sl,q⟩:=slot _ o (λz=>neL _ z rfl) ho;refine⟨m,⟨_,es,ep,q,r⟩,λi x v e1 e2 e3=>?_⟩;let⟨u,r',l⟩:=hl i x v e1 e2 e3;refine⟨u,r',?_⟩;rcases l with l|⟨k,c,e,z⟩
  .exact .inl l
  .exact .inr ⟨k,c,e,cellK x c e _ z⟩
 .obtain⟨v,z⟩:=I.cell x c e;exact⟨v,cellK x c e v z⟩
 .obtain⟨e,n,ne,nf,d⟩:=I.pin p hp;exact⟨keep p.1 p.2 (nfs _ nf ne) (λz=>(hch p.1 z).2.2 p hp rfl) e,n,ne,nf,d⟩
theorem Vn{a:Addr}{vs:Ae}{E:A4}(I:Inv X p6 σ H s)(hst:X.stack=X.env::X.outer)(hfr:X.env.frame=some X.env.locals)(hex:X.ex=[])(he:s.heap.get? a=some oe)(hdict:oe.dict=none)(hd:oe.data=.fields vs)(ga:X.s₀.heap.get? a=none)(Ha:H a=none)(hpa:∀p∈X.pn++p6,p.1≠a)(h1:vs[1]?=some .none\/∃T oT ts,vs[1]?=some (.ref T)/\T≠a/\s.heap.get? T=some oT/\oT.data=.fields ts/\ts[3]?=some .none/\X.s₀.heap.get? T=none/\H T=none/\∀p∈X.pn++p6,p.1≠T)(hQ:∀s',Inv X p6 σ H s'->Exc X.s₀.heap s'.heap H (X.pn++p6) a oe.cls->Q () s') :
  wpAny (model X.prog X.w) X.A (noteFrame (.ref a) X.env) (λ_ s'=>wpAny (model X.prog X.w) X.A (setFlight (.ref a) none) Q E s') E s:=by
 have hfs:=I.ok.frames;have hFF:=I.stack;rw[hst]at hfs hFF;have hS:frs X.stack=(X.env::X.outer).filterMap (·.frame):=by rw[hst];rfl
 have fin:∀(ch:Ac),(∀b∈ch,X.s₀.heap.get? b=none/\H b=none/\∀p∈X.pn++p6,p.1≠b)->(∀b∈ch,∃o vs,s.heap.get? b=some o/\o.data=.fields vs)->a∈ch ->
   ∀h' T,(∀b o,b∉(X.env::X.outer).filterMap (·.frame)->b∉ch->s.heap.get? b=some o->h'.get? b=some o)->(∀b o,b∉ch->s.heap.get? b=some o->∃sl,h'.get? b=some {o with slots:=sl}) ->
   (∀b∈ch,∃o,h'.get? b=some o)->s.heap.get? T=none->T≠a->h'.get? a=some (oe.mapFields (·.setIfInBounds 1 (.ref T)))->(∃oT ts,h'.get? T=some oT/\oT.data=.fields ts/\ts[3]?=some .none)->Q () {s with heap:=h'}:=by
  intro ch hch hrec ha h' T k1 k2 k3 k4 k5 k6 k7;have I':=I.stepx (h':=h') hch hrec (λb o hb hc q=>k1 b o (by rw[<- hS];exact hb) hc q) k2 k3;refine hQ _ I' ⟨?_,ga,Ha,hpa⟩;let⟨oT,ts,q1,q2,q3⟩:=k7;have hsz:1<vs.size:=by
   rcases h1 with z|⟨_,_,_,z,_⟩<;>exact(bR.mp z).1
  refine⟨_,_,T,oT,ts,k6,Obj.cls_mapFields _ _,by let⟨c,d,dt,sl⟩:=oe;cases dt<;>exact hdict,bB hd _,by simp[hsz],k5,q1,q2,q3,?_,?_,λp hp z=>?_⟩
  .cases e:X.s₀.heap.get? T with
   |none=>rfl
   |some o =>
    let⟨o',e'⟩:=I.base.there T o e (by rw[hex];simp);rw[k4]at e';cases e'
  .cases e:H T with
   |none=>rfl
   |some u =>
    let⟨o',e'⟩:=(I.hok T u e).there;rw[k4]at e';cases e'
  .have:=(I.pin p hp).1;rw[z,k4]at this;cases this
 rcases h1 with h1|⟨T,oT,ts,h1,hTa,hT,hdT,h3,gT,HT,pT⟩
 .refine Vm (ch:=[a]) hfs hFF hfr he hd (.inl ⟨h1,rfl⟩) (fin [a] (λb hb=>?_) (λb hb=>?_) (by simp))
  .obtain rfl:b=a:=by simpa using hb
   exact⟨ga,Ha,hpa⟩
  .obtain rfl:b=a:=by simpa using hb
   exact⟨oe,vs,he,hd⟩
 .refine Vm (ch:=[a,T]) hfs hFF hfr he hd (.inr ⟨T,oT,ts,h1,hTa,hT,hdT,h3,rfl⟩) (fin [a,T] (λb hb=>?_) (λb hb=>?_) (by simp))
  .rcases aC.mp hb with rfl|hb
   .exact⟨ga,Ha,hpa⟩
   .obtain rfl:b=T:=by simpa using hb
    exact⟨gT,HT,pT⟩
  .rcases aC.mp hb with rfl|hb
   .exact⟨oe,vs,he,hd⟩
   .obtain rfl:b=T:=by simpa using hb
    exact⟨oT,ts,hT,hdT⟩
end
def JG(X:Cx)(G:GK)(e:Am)(s:An):Prop:=∃a cls σ H,e=Value.ref a/\Inv X [] σ H s/\Exc X.s₀.heap s.heap H X.pn a cls/\G cls σ H
def xeG(X:Cx)(G:GK)(e:Am)(s:An):Prop:=wpAny (model X.prog X.w) X.A (noteFrame e X.env) (λ_ s'=>wpAny (model X.prog X.w) X.A (setFlight e none) (λ_ s''=>JG X G e s'') (λ_ _=>False) s') (λ_ _=>False) s
noncomputable abbrev Cx.exg(X:Cx)(G:GK):Cx:=X.wish (xeG X G)
structure Bod(X:Cx):Prop where
 st:X.stack=X.env::X.outer
 fr:X.env.frame=some X.env.locals
 ex:X.ex=[]
def qj{X:Cx}{G:GK}:PassesOwn (model X.prog X.w) X.A X.env (xeG X G):=PassesOwn.looking
def Inv.nopins{X:Cx}{σ:St}(I:Inv X p6 σ H s):Inv X [] σ H s:=I.pins_of λp hp=>absurd hp (by simp)
def Exc.less{g h:Heap}{pn pn':A3}{a:Addr}(x:Exc g h H pn a cls)(hp:∀p∈pn',p∈pn):Exc g h H pn' a cls:=by
 let⟨⟨oe,vs,T,oT,ts,h1,h2,h3,h4,h5,h6,h7,h8,h9,h10,h11,h12⟩,ga,Ha,pa⟩:=x;exact⟨⟨oe,vs,T,oT,ts,h1,h2,h3,h4,h5,h6,h7,h8,h9,h10,h11,λp q=>h12 p (hp p q)⟩,ga,Ha,λp q=>pa p (hp p q)⟩
def CXr(P:Ag)(w:World):CXT:=λouter H s E e s'=>∃a cls H',e=Value.ref a/\s'.os=s.os/\AllBare s'.gens/\Un (frs outer) [] H H' s.heap s'.heap/\HOk P w H' s'.heap /\
 Exc s.heap s'.heap H' [] a cls/\E cls none H'
section
variable{X:Cx}{p6:A3}{σ:St}{H:Hp}{s:An}{G:GK}
def Q1{e:Am}{s':An}(B:Bod X)(I:Inv X p6 σ H s)(h:CXr X.prog X.w X.stack H s (λcls _ H'=>G cls σ H') e s'):xeG X G e s':=by
 let⟨a,cls,H',rfl,os,bare,un,hok,⟨⟨oe,vs,T,oT,ts,h1,h2,h3,h4,h5,h6,h7,h8,h9,h10,h11,_⟩,ga,Ha,_⟩,hG⟩:=h;have I':Inv X p6 σ H' s':=I.call' os un hok bare (λb z=>absurd z (by simp));have old:∀b,s.heap.get? b=none->X.s₀.heap.get? b=none:=λb hb=>by
  cases e:X.s₀.heap.get? b with
  |none=>rfl
  |some o =>
   let⟨o',e'⟩:=I.base.there b o e (by rw[B.ex];simp);rw[hb]at e';cases e'
 have pin:∀b,s.heap.get? b=none->∀p∈X.pn++p6,p.1≠b:=λb hb p hp z=>by
  have:=(I.pin p hp).1;rw[z,hb]at this;cases this
 refine Vn I' B.st B.fr B.ex h1 h3 h4 (old a ga) Ha (pin a ga) (.inr ⟨T,oT,ts,h5,h6,h7,h8,h9,old T h10,h11,pin T h10⟩) λs'' I2 x=>?_;exact⟨a,oe.cls,σ,H',rfl,I2.nopins,x.less λp hp=>bP _ hp,h2 ▸ hG⟩
def zcc{a:Addr}{args:A8}{h':Heap}(B:Bod X)(I:Inv X p6 σ H s)(hm:Heap.MadeExcOf s.heap h' a cls args)(hG:G cls σ H):xeG X G (.ref a) {s with heap:=h'}:=by
 let⟨t,h1,h2,h3⟩:=hm.there;have I':Inv X p6 σ H {s with heap:=h'}:=I.kept (t':=s.toks) hm.keeps;have ga:X.s₀.heap.get? a=none:=by
  cases e:X.s₀.heap.get? a with
  |none=>rfl
  |some o =>
   let⟨o',e'⟩:=I.base.there a o e (by rw[B.ex];simp);rw[hm.new]at e';cases e'
 have Ha:H a=none:=by
  cases e:H a with
  |none=>rfl
  |some u =>
   let⟨o',e'⟩:=(I.hok a u e).there;rw[hm.new]at e';cases e'
 refine Vn (s:={s with heap:=h'}) I' B.st B.fr B.ex h1 rfl rfl ga Ha (λp hp z=>?_) (.inl rfl) λs'' I2 x=>?_
 .have:=(I.pin p hp).1;rw[z,hm.new]at this;cases this
 .exact⟨a,cls,σ,H,rfl,I2.nopins,x.less λp hp=>bP _ hp,hG⟩
end
section
variable{P:Ag}{w:World}{K:A0}{mg:A5}{base:Heap}
noncomputable abbrev cxR(P:Ag)(w:World)(K:A0)(mg:A5)(base:Heap)(N:A9)(qual:Str)(scope:Scope)(f:Addr)(cd:Am)(A:Ao)(outer:List Env)(s:An)(H:Hp)(E:XK):Cx :=
 JE (CXr P w) P w K mg base N qual scope f cd A outer s H E
def Fun.okx{x qual:Str}{st:Stmt}{f:Addr}{fd:FuncData}{N ps:A9}{k:Nat}(F:Fun K x qual st f fd)(S:FnScope N ps (zf st))(len:∀vs H Q E,sp vs H Q E->vs.length=ps.length)(hbody:∀(cdv:Am)(A:Ao)(outer:List Env)(s:An)(H:Hp)(vs:Ap)(Q:VK)(E:XK),Room k (A.deeper (envOfC qual (zf st) s.heap.objs.size f cdv))->sp vs H Q E ->
   ∃t,PSs ((cxR P w K mg base N qual (zf st) f cdv A outer s H E).exg λcls _ H'=>E cls none H') (qg st) t/\t {nx:=λ_ H'=>Q .non H',rt:=Q} (start N vs) H):FnOk P w K mg base (CXr P w) (k+1) f fd ps sp:=by
 let⟨oc,od,kV,doc,pm,an,cdv,ct,osl,rfl,lk,hcd⟩:=F.ex;refine zgn lk hcd S len λA outer s H vs Q E hr hsp=>?_;let⟨t,h,q⟩:=hbody cdv A outer s H vs Q E hr hsp;refine⟨t,λp6 s σ H' D I hw=>?_,q⟩;refine aV (h p6 s σ H' D (I.wish _) hw) (λ_ _ z=>z.unwish) λe s' z=>?_;refine ac (aV (show wpAny _ _ _ _ _ _ from z) (λ_ s1 y1=>aV y1 (λ_ s'' y=>?_) λ_ _ y=>y.elim) λ_ _ y=>y.elim);let⟨a,cls,σ2,H2,rfl,J,xx,g⟩:=y;exact⟨a,cls,H2,rfl,J.os,J.bare,J.base,J.hok,xx.less (λp hp=>absurd hp (by simp)),g⟩
end
structure Cal(P:Ag)(w:World)(K:A0)(mg:A5)(base:Heap)(x:Str)(k:Nat)(ps:A9)(dvs:Ap)(sp:Sp):Prop where
 ex:∃f fd ds,FnOk P w K mg base (CXr P w) k f fd ps sp/\mg x=some (.ref f)/\keepIn K (.ref f)=true/\Binds K fd ps ds/\Vals dvs ds
structure MCal(P:Ag)(w:World)(K:A0)(mg:A5)(base:Heap)(C:Addr)(m:Str)(k:Nat)(ps:A9)(dvs:Ap)(sp:Sp):Prop where
 cl:Cls K C
 ex:∃f fd ds,FnOk P w K mg base (CXr P w) k f fd ps sp/\Meth K C m f/\Binds K fd ps ds/\Vals dvs ds
structure KCal(P:Ag)(w:World)(K:A0)(mg:A5)(base:Heap)(x:Str)(C:Addr)(k:Nat)(ps:A9)(dvs:Ap)(sp:Sp):Prop where
 gl:mg x=some (.ref C)
 ex:∃f fd ds,FnOk P w K mg base (CXr P w) k f fd ps sp/\Mk K C f/\Binds K fd ps ds/\Vals dvs ds
def Cal.mono{j k:Nat}{dvs:Ap}(c:Cal P w K mg base x j ps dvs sp)(h:j<=k:=by decide):Cal P w K mg base x k ps dvs sp:=by
 let⟨f,fd,ds,a,b⟩:=c.ex;exact⟨f,fd,ds,a.mono h,b⟩
def MCal.mono{C:Addr}{m:Str}{j k:Nat}{dvs:Ap}(c:MCal P w K mg base C m j ps dvs sp)(h:j<=k:=by decide):MCal P w K mg base C m k ps dvs sp:=by
 let⟨f,fd,ds,a,b⟩:=c.ex;exact⟨c.cl,f,fd,ds,a.mono h,b⟩
def KCal.mono{C:Addr}{j k:Nat}{dvs:Ap}(c:KCal P w K mg base x C j ps dvs sp)(h:j<=k:=by decide):KCal P w K mg base x C k ps dvs sp:=by
 let⟨f,fd,ds,a,b⟩:=c.ex;exact⟨c.gl,f,fd,ds,a.mono h,b⟩
section
variable{X:Cx}{G:GK}{k:Nat}{f C:Addr}{fd:FuncData}{ps:A9}{sp:Sp}{dvs:Ap}{ds:A8}{x m:Str}{p pos apos:Pos}{e o:Expr}{es:List Expr}{ta:TE}{t:TA}
theorem JM{σ:St}{Q:VK}{us:A8}{vs:Ap}(B:Bod X)(F:FnOk X.prog X.w X.K X.mg X.base (CXr X.prog X.w) k f fd ps sp)(hr:Room k X.A)(hb:Binds X.K fd ps ds)(hd:Vals dvs ds)(I:Inv (X.exg G) p6 σ H s)(r:Vals vs us)(h:sp (vs++dvs) H Q (λcls _ H'=>G cls σ H')):wpAny (model X.prog X.w) X.A (call (.ref f) us) (EP (X.exg G) p6 σ Q) (xeG X G) s:=by
 have r2:Vals (vs++dvs) (us++ds):=r.append hd;have hl:(us++ds).length=ps.length:=by rw[<- r2.length];exact F.len _ _ _ _ h
 refine fS (dh (F.run X.A X.stack s H ⟨us,[]⟩ (us++ds) (vs++dvs) Q _ hr I.unwish.env0 (hb s us I.kIn hl) r2 h) λr s' hq=>?_);cases r with
 |error e=>exact Q1 B I.unwish hq
 |ok fl =>
  cases fl with
  |ret u=>exact I.after hq
  |next=>exact False.elim hq
  |brk=>exact False.elim hq
  |cont=>exact False.elim hq
theorem zel{σ:St}{Q:VK}{us:A8}{vs:Ap}(B:Bod X)(M:Mk X.K C f)(F:FnOk X.prog X.w X.K X.mg X.base (CXr X.prog X.w) k f fd ps sp)(hr:Room (k+1) X.A)(hb:Binds X.K fd ps ds)(hd:Vals dvs ds)(I:Inv (X.exg G) p6 σ H s)(r:Vals vs us)(h:∀x dx,H x=none->H dx=none->dx≠x->sp (.ref x::(vs++dvs)) (upd (upd H dx (.own x)) x (.ins C dx [])) (λv H2=>v=.non/\Q (.ref x) H2) (λcls _ H'=>G cls σ H')) :
  wpAny (model X.prog X.w) X.A (call (.ref C) us) (EP (X.exg G) p6 σ Q) (xeG X G) s:=by
 have hq:=h (s.heap.objs.size+1) s.heap.objs.size (I.hok.fresh (cS _)) (I.hok.fresh (ar _)) (aQ (eG _));have I2:=Inv.made (C:=C) I;have r2:Vals (V.ref (s.heap.objs.size+1)::(vs++dvs)) (Value.ref (s.heap.objs.size+1)::(us++ds)):=.cons rfl (r.append hd);have hl:(Value.ref (s.heap.objs.size+1)::us++ds).length=ps.length:=by
  have e:=r2.length;rw[F.len _ _ _ _ hq]at e;exact e.symm
 refine fS (zbF (f:=f) I.kIn M.makes M.init (bL.mp M.fn) (dh (F.run _ X.stack _ _ ⟨Value.ref (s.heap.objs.size+1)::us,[]⟩ (Value.ref (s.heap.objs.size+1)::(us++ds)) _ _ _ (hr.make C us [])
  (I2.unwish.env0.make C us []) (hb _ (Value.ref (s.heap.objs.size+1)::us) I2.kIn hl) r2 hq) λr s' hq'=>?_))
 cases r with
 |error e=>exact Q1 B I2.unwish hq'
 |ok fl =>
  cases fl with
  |ret u =>
   let⟨v,H',I3,rv,ev,q3⟩:=I2.after hq';subst ev;exact⟨rv,⟨V.ref (s.heap.objs.size+1),H',I3,rfl,q3⟩⟩
  |next=>exact False.elim hq'
  |brk=>exact False.elim hq'
  |cont=>exact False.elim hq'
def tCl(X:Cx)(k:Nat)(x:Str)(G:GK)(t:TA):TE:=λσ H Q=>∃ps dvs sp,Cal X.prog X.w X.K X.mg X.base x k ps dvs sp/\t σ H λvs H1=>sp (vs++dvs) H1 Q (λcls _ H'=>G cls σ H')
def zD(B:Bod X)(hr:Room k X.A)(ha:PA (X.exg G) (e::es) t)(hg:Gl X x:=by rfl)(hdb:(x == ("__debug__":Str))=false:=by decide)(he:starEach (e::es) X.env=(false,eval e X.env)::starEach es X.env:=by rfl)(hpl:(backTo pos (starEach es X.env)).any (·.1)=false:=by rfl) :
  PE (X.exg G) (.Call (.Name x p) (e::es) [] pos) (tCl X k x G t):=by
 intro p6 s σ H Q I h;let⟨ps,dvs,sp,⟨f,fd,ds,F,hm,hk,hb,hd⟩,h⟩:=h;refine bK (xh I hg hm ?_ hdb);refine dX (h₀:=X.base) I.ok.mod.kin hk (vZ (ha pos p6 s σ H _ I h) λus s1 vs H1 I1 r q=>⟨I1.kIn,?_⟩) he hpl;exact JM B F hr hb hd I1 r q
def tMk(X:Cx)(k:Nat)(x:Str)(G:GK)(t:TA):TE:=λσ H Q=>∃C ps dvs sp,KCal X.prog X.w X.K X.mg X.base x C k ps dvs sp/\t σ H λvs H1=>∀y dx,H1 y=none->H1 dx=none->dx≠y ->
 sp (.ref y::(vs++dvs)) (upd (upd H1 dx (.own y)) y (.ins C dx [])) (λv H2=>v=.non/\Q (.ref y) H2) (λcls _ H'=>G cls σ H')
def jT(B:Bod X)(hr:Room (k+1) X.A)(ha:PA (X.exg G) (e::es) t)(hg:Gl X x:=by rfl)(hdb:(x == ("__debug__":Str))=false:=by decide)(he:starEach (e::es) X.env=(false,eval e X.env)::starEach es X.env:=by rfl)(hpl:(backTo pos (starEach es X.env)).any (·.1)=false:=by rfl) :
  PE (X.exg G) (.Call (.Name x p) (e::es) [] pos) (tMk X k x G t):=by
 intro p6 s σ H Q I h;let⟨C,ps,dvs,sp,⟨hm,f,fd,ds,F,M,hb,hd⟩,h⟩:=h;refine bK (xh I hg hm ?_ hdb);refine dX (h₀:=X.base) I.ok.mod.kin M.kp (vZ (ha pos p6 s σ H _ I h) λus s1 vs H1 I1 r q=>⟨I1.kIn,?_⟩) he hpl;exact zel B M F hr hb hd I1 r q
def tMth(X:Cx)(k:Nat)(m:Str)(G:GK)(ta:TE)(t:TA):TE:=λσ H Q=>ta σ H λy H1=>∃a C dx fs ps dvs sp,y=.ref a/\H1 a=some (.ins C dx fs)/\fs.lookup m=none /\
 MCal X.prog X.w X.K X.mg X.base C m k ps dvs sp/\t σ H1 λvs H2=>sp (.ref a::(vs++dvs)) H2 Q (λcls _ H'=>G cls σ H')
def zfG{pl:Sem Bool}(B:Bod X)(hr:Room k X.A)(he:PE (X.exg G) o ta)(ha:PA (X.exg G) (e::es) t)(hst:starEach (e::es) X.env=(false,eval e X.env)::starEach es X.env:=by rfl)(hpl:(backTo pos (starEach es X.env)).any (·.1)=false:=by rfl)(ht:eval (.Call (.Attribute o m apos) (e::es) [] pos) X.env=(do
   let ov <- eval o X.env
   standAt apos.atName
   let(f,first) <- holding [ov] (getMethod ov m pl)
   callWith pos f first (backTo pos (starEach (e::es) X.env)) (backToKw pos (keywordEach [] X.env))):=by rfl) :
  PE (X.exg G) (.Call (.Attribute o m apos) (e::es) [] pos) (tMth X k m G ta t):=by
 intro p6 s σ H Q I h;refine eK (pl:=pl) (thn (he p6 s σ H _ I h) λu s1 hz=>?_) ht;let⟨x,H1,I1,rx,a,C,dx,fs,ps,dvs,sp,ex,ea,l,⟨c,f,fd,ds,F,hm,hb,hd⟩,q⟩:=hz;subst ex;obtain rfl:u=Value.ref a:=rx;refine ZB I1 ea c hm l ?_;refine dX (first:=[.ref a]) (h₀:=X.base) I.ok.mod.kin hm.kp (vZ (ha pos p6 s1 σ H1 _ I1 q) λus s2 vs H2 I2 r q2=>⟨I2.kIn,?_⟩) hst hpl;exact JM (us:=.ref a::us) (vs:=.ref a::vs) B F hr hb hd I2 (.cons rfl r) q2
def wG{pl:Sem Bool}(B:Bod X)(hr:Room k X.A)(he:PE (X.exg G) o ta)(ht:eval (.Call (.Attribute o m apos) [] [] pos) X.env=(do
   let ov <- eval o X.env
   standAt apos.atName
   let(f,first) <- holding [ov] (getMethod ov m pl)
   callWith pos f first (backTo pos (starEach [] X.env)) (backToKw pos (keywordEach [] X.env))):=by rfl) :
  PE (X.exg G) (.Call (.Attribute o m apos) [] [] pos) (tMth X k m G ta tNil):=by
 intro p6 s σ H Q I h;refine eK (pl:=pl) (thn (he p6 s σ H _ I h) λu s1 hz=>?_) ht;let⟨x,H1,I1,rx,a,C,dx,fs,ps,dvs,sp,ex,ea,l,⟨c,f,fd,ds,F,hm,hb,hd⟩,q⟩:=hz;subst ex;obtain rfl:u=Value.ref a:=rx;refine ZB I1 ea c hm l ?_;exact gf (first:=[.ref a]) I1.kIn hm.kp (JM (us:=[.ref a]) (vs:=[.ref a]) B F hr hb hd I1 (.cons rfl .nil) q)
def tGl(X:Cx)(x:Str):TE:=λ_ H Q=>∃v u,X.mg x=some u/\RelV v u/\Q v H
def jc(hg:Gl X x:=by rfl)(hd:(x == ("__debug__":Str))=false:=by decide):PE X (.Name x pos) (tGl X x):=λ_ _ _ H _ I h=>by
 let⟨v,u,hm,r,h⟩:=h;exact xh I hg hm ⟨v,H,I,r,h⟩ hd
def tBl(X:Cx)(x:Str)(v:V):TE:=λ_ H Q=>X.mg x=none/\Q v H
def XB{n:String}(hv:bootBuiltins x=some (.type n))(hg:Gl X x:=by rfl)(hn:x≠"__name__":=by decide)(hd:(x == ("__debug__":Str))=false:=by decide):PE X (.Name x pos) (tBl X x (.ty n)):=λ_ _ _ H _ I h=>by
 let⟨hm,h⟩:=h;exact vI I hg hm hv ⟨.ty n,H,I,rfl,h⟩ hn hd
def tBi(X:Cx)(x:Str)(r:List V->Hp->VK->Prop)(t:TA):TE:=λσ H Q=>X.mg x=none/\t σ H λvs H1=>r vs H1 Q
def zE{id:String}{r:List V->Hp->VK->Prop}(hc:CallR X (.builtin id) r)(hv:bootBuiltins x=some (.builtin id))(ha:PA X (e::es) t)(hg:Gl X x:=by rfl)(hn:x≠"__name__":=by decide)(hdb:(x == ("__debug__":Str))=false:=by decide)(he:starEach (e::es) X.env=(false,eval e X.env)::starEach es X.env:=by rfl)(hpl:(backTo pos (starEach es X.env)).any (·.1)=false:=by rfl):PE X (.Call (.Name x p) (e::es) [] pos) (tBi X x r t):=λp6 s σ H Q I h =>
 zfI hc hg h.1 hv ha hn hdb he hpl p6 s σ H Q I h.2
def jA{T:String}{r:List V->Hp->VK->Prop}(hc:CallR X (.type T) r)(hv:bootBuiltins x=some (.type T))(ha:PA X (e::es) t)(hg:Gl X x:=by rfl)(hn:x≠"__name__":=by decide)(hdb:(x == ("__debug__":Str))=false:=by decide)(he:starEach (e::es) X.env=(false,eval e X.env)::starEach es X.env:=by rfl)(hpl:(backTo pos (starEach es X.env)).any (·.1)=false:=by rfl):PE X (.Call (.Name x p) (e::es) [] pos) (tBi X x r t):=λp6 s σ H Q I h =>
 zet hc hg h.1 hv ha hn hdb he hpl p6 s σ H Q I h.2
end
section
variable{X:Cx}{tg:Expr}{a b c e o:Expr}{ta tb tc:TE}{pos:Pos}
def iSeq(K:A0)(tl:TE):TI:=λσ H R=>tl σ H λx H1=>∃a,x=.ref a/\(((∃xs,SqL K H1 a xs)/\R (Itl K a) H1)\/((∃xs,SqT K H1 a xs)/\R (Itt K a) H1))
def zN{l:Expr}{tl:TE}(hl:PE X l tl):PI X tg l (iSeq X.K tl):=by
 intro p6 s σ H R I h;refine qL (hl p6 s σ H _ I h) λv s1 x H1 I1 r1 q1=>?_;let⟨a,e,q⟩:=q1;subst e;cases r1;rcases q with⟨⟨xs,hq⟩,q⟩|⟨⟨xs,hq⟩,q⟩
 .obtain⟨pf,rv,p,hz⟩:=I1.list hq;refine wpAny_pyIter_list p.isList ?_;refine⟨s1.heap.objs.size,[s1.heap.objs.size],_,_,H1,rfl,I1.kept (t':=s1.toks) λb o e=>aj _ e,zd6 a _,⟨_,aI _ rfl,rfl,rfl⟩,λb hb=>?_,q⟩;have e:b=s1.heap.objs.size:=by simpa using hb
  subst e;exact I1.fpOk (ar _) (I1.hok.fresh (ar _))
 .obtain⟨pf,rv,p,hz⟩:=I1.tuple hq;refine wpAny_pyIter_tuple (show s1.heap.IsTuple a pf.toArray from p) ?_;refine⟨s1.heap.objs.size,[s1.heap.objs.size],_,_,H1,rfl,I1.kept (t':=s1.toks) λb o e=>aj _ e,zcg a _,⟨_,aI _ rfl,rfl,rfl⟩,λb hb=>?_,q⟩;have e:b=s1.heap.objs.size:=by simpa using hb
  subst e;exact I1.fpOk (ar _) (I1.hok.fresh (ar _))
def xt{ta:TA}{p pos:Pos}(ha:PA X [a] ta)(hg:Gl X "range":=by rfl)(hs:starEach [a] X.env=[(false,eval a X.env)]:=by rfl):PI X tg (.Call (.Name "range" p) [a] [] pos) (λσ H R=>X.mg "range"=none/\iRng1 ta σ H R) :=
 λp6 s σ H R I h=>zes hg h.1 ha hs p6 s σ H R I h.2
def zfy(K:A0):R2:=λx y H Q=>∃l b xs zs,x=.ref l/\y=.ref b/\SqL K H l xs/\SqL K H b zs/\xs.length+zs.length<=sizeLine/\∀p,H p=none->Q (.ref p) (upd H p (.lst (xs++zs)))
def zhc:OpR X (binaryOp .Add) (zfy X.K):=by
 intro p6 s σ H x y v u Q I rx ry h;let⟨l,b,xs,zs,rfl,rfl,hH,hB,hz,q⟩:=h;cases rx;cases ry;let⟨pf,r,p,z⟩:=I.list hH;let⟨its2,r2,p2,z2⟩:=I.list hB;have e1:=r.length;have e2:=r2.length;let⟨⟨cls,dd,data,sl⟩,n,ho,hc,hdd,hd⟩:=p;let⟨⟨cls2,dd2,data2,sl2⟩,n2,ho2,hc2,hdd2,hd2⟩:=p2;simp only at hc hd hc2 hd2;subst hc hd hc2 hd2;have ea:pf.toArray++its2.toArray=(pf++its2).toArray:=by simp
 refine concat_meets ⟨_,ho,rfl⟩ ⟨_,ho2,rfl⟩ noFill_list_add seq_list_add PySem.F.slot_list_add PySem.F.entry_list_add (PySem.F.args_list_add_2 _ _) (list_addW l b pf.toArray its2.toArray n n2 dd dd2 sl sl2 (by simp only[au];lia)) ⟨ho,ho2,?_⟩;rw[ea];exact⟨.ref _,_,I.lnew (t':=s.toks) (r.append r2) (by rw[av];lia),rfl,q _ I.fresh⟩
def OpR.wk{f:Al}{r r':R2}(h:OpR X f r)(k:∀x y H Q,r' x y H Q->r x y H Q):OpR X f r':=λp6 s σ H x y v u Q I rx ry q=>h p6 s σ H x y v u Q I rx ry (k x y H Q q)
def zbp(K:A0):R2:=λx y H Q=>match x,y with
 | .int i,.int j=>Q (.int (i+j)) H
 | .str i,.str j=>i.length+j.length<=sizeLine/\Q (.str (i++j)) H
 |x,y=>zfy K x y H Q
def zM:OpR X (binaryOp .Add) (zbp X.K):=(op_add.or (op_add_str.or zhc)).wk λx y H Q h=>by
 unfold zbp at h
 split at h
 .exact .inl h
 .exact .inr (.inl ⟨_,_,rfl,rfl,h⟩)
 .exact .inr (.inr h)
def rT(c:Int->Int->Prop)[∀i j,Decidable (c i j)]:R2:=λx y H Q=>iq x λi=>iq y λj=>if c i j then Q (.bl true) H else Q (.bl false) H
def zcU{c:Prop}[Decidable c]{Q:VK}(h:if c then Q (.bl true) H else Q (.bl false) H):Q (.bl (decide c)) H:=by
 by_cases e:c
 .rw[aq e]at h;rw[bh e];exact h
 .rw[ao e]at h;rw[a8 e];exact h
def zdE{c:Prop}[Decidable c]{Q:VK}(h:if ¬c then Q (.bl true) H else Q (.bl false) H):Q (.bl (!decide c)) H:=by
 by_cases e:c
 .rw[ao (λz=>z e)]at h;rw[bh e];exact h
 .rw[aq e]at h;rw[a8 e];exact h
def OpR.t{f:Al}{c:Int->Int->Prop}[∀i j,Decidable (c i j)](h:OpR X f (rI0 λi j=>.bl (decide (c i j)))):OpR X f (rT c):=h.wk λx y H Q q=>by
 let⟨i,j,rfl,rfl,q⟩:=X3 q;exact zcU q
def Vj:OpR X (compareOp .Lt) (rT λi j=>i<j):=op_lt.t
def jU:OpR X (compareOp .LtE) (rT λi j=>i<=j):=op_le.t
def xv:OpR X (compareOp .Gt) (rT λi j=>j<i):=op_gt.t
def zhX:OpR X (compareOp .GtE) (rT λi j=>j<=i):=op_ge.t
def jq:OpR X (compareOp .Is) (λx y H Q=>nq y (if x=.non then Q (.bl true) H else Q (.bl false) H)):=op_isN.wk λx y H Q q=>by
 let⟨rfl,q⟩:=zdz q;exact zcU q
def JN:OpR X (compareOp .IsNot) (λx y H Q=>nq y (if ¬x=.non then Q (.bl true) H else Q (.bl false) H)):=op_notN.wk λx y H Q q=>by
 let⟨rfl,q⟩:=zdz q;exact zdE q
def zcG{op:Operator}{b:Expr}{y:V}{r:R2}(ho:OpR X (binaryOp op) r)(hb:PE X b (tC y)){ta:TE}{r':V->Hp->VK->Prop}(k:∀x H Q,r' x H Q->r x y H Q){pos:Pos}(ha:PE X a ta):PE X (.BinOp a op b pos) (tUn r' ta):=by
 intro p6 s σ H Q I h;refine wpAny_BinOp (qL (ha p6 s σ H _ I h) λv s1 x H1 I1 r1 q1=>thn (hb p6 s1 σ H1 (λz H2=>z=y/\H2=H1) I1 ⟨rfl,rfl⟩) λu s2 ⟨z,H2,I2,r2,e,e2⟩=>?_);subst e e2;exact ho p6 s2 σ H2 x z v u Q I2 r1 r2 (k x H2 Q q1)
def zP{k:Int}{j:Nat}{p2 pos:Pos}{ta:TE}(ha:PE X a ta)(h:decide (0<k)=true:=by rfl):PE X (.BinOp a .Mod (.Constant (.int k) j p2) pos) (tUn (rU λi=>.int (i%k)) ta) :=
 zcG qD ze (λx H Q q=>by let⟨i,rfl,q⟩:=Qg q;exact⟨bu h,q⟩) ha
def z7{k:Int}{j:Nat}{p2 pos:Pos}{ta:TE}(ha:PE X a ta)(h:decide (0<k/\k<1073741824)=true:=by rfl):PE X (.BinOp a .FloorDiv (.Constant (.int k) j p2) pos) (tUn (rU λi=>.int (i/k)) ta) :=
 zcG zhb ze (λx H Q q=>by let⟨i,rfl,q⟩:=Qg q;have z:=bu h;exact⟨z,q⟩) ha
def zcF{b k:Int}{j j2:Nat}{p1 p2 pos:Pos}(h:decide (0<=k/\k<=1000000/\b.natAbs<2^64)=true:=by rfl):PE X (.BinOp (.Constant (.int b) j p1) .Pow (.Constant (.int k) j2 p2) pos) (tC (.int (b^k.toNat))):=by
 intro p6 s σ H Q I q;have z:=bu h;exact zo ziC ze ze p6 s σ H Q I ⟨z,q⟩
def ziA{b k:Int}{j j2:Nat}{p1 p2 p3 pos:Pos}{ta:TE}(ha:PE X a ta)(h:decide (0<=k/\k<=1000000/\b.natAbs<2^64)=true:=by rfl)(h0:decide (0<b)=true:=by rfl) :
  PE X (.BinOp a .Mod (.BinOp (.Constant (.int b) j p1) .Pow (.Constant (.int k) j2 p2) p3) pos) (tUn (rU λi=>.int (i%b^k.toNat)) ta) :=
 zcG qD (zcF h) (λx H Q q=>by let⟨i,rfl,q⟩:=Qg q;exact⟨Int.pow_pos (bu h0),q⟩) ha
structure MulOk(i j:Int):Prop where
 h:IntMulOk i j
def qV:OpR X (binaryOp .Mult) (rI MulOk λi j=>.int (i*j)):=opI λ_ _ _ _ _ _ _ hc q=>mul_int q hc.h
structure CFd(_ j:Int):Prop where
 a:j≠0
 b:j.natAbs.log2<9000
def xJ:OpR X (binaryOp .FloorDiv) (rI CFd λi j=>.int (i.fdiv j)):=opI λ_ _ _ _ _ _ _ hc q=>floordiv_int hc.1 q (.inl (PyProof.noPylong_of_log2 hc.2))
def zhZ:OpR X (compareOp .Lt) (rI0 λi j=>.bl (decide (i<j))):=op_lt
def mul_okL{i j:Int}(h1:-(2^64)<i)(h2:i<2^64):MulOk i j:=⟨PySem.IntMulOk.of_left (f9 h1 h2)⟩
def mul_okR{i j:Int}(h1:-(2^64)<j)(h2:j<2^64):MulOk i j:=⟨PySem.IntMulOk.of_right (f9 h1 h2)⟩
def fd_ok{i j:Int}(h1:0<j)(h2:j.natAbs<2^8999):CFd i j:=⟨by lia,by
 have:=(Nat.log2_lt (n:=j.natAbs) (k:=8999) (by lia)).mpr h2
 lia⟩
def ziV{i j:Int}(h1:j≠0)(h2:j.natAbs<2^8999):CFd i j:=⟨h1,by
 have:=(Nat.log2_lt (n:=j.natAbs) (k:=8999) (by lia)).mpr h2
 lia⟩
def fdiv_pos{i j:Int}(h:0<j):i.fdiv j=i/j:=cm i (cY h)
noncomputable def xD:List V->List V->Bool
 |[],[]=>true
 |x::xs,y::ys=>eqV x y&&xD xs ys
 |_,_=>false
theorem wa:∀{xs ys:Ap},xs.length≠ys.length->xD xs ys=false
 |[],[],h=>absurd rfl h
 |[],_::_,_=>rfl
 |_::_,[],_=>rfl
 |x::xs,y::ys,h=>by
  have:=wa (xs:=xs) (ys:=ys) (λe=>h (by simp[e]));unfold xD;rw[this,cD]
theorem wb:∀{xs ys:Ap},xs.length=ys.length->(List.range xs.length).all (λj=>eqV (xs.getD j .non) (ys.getD j .non))=xD xs ys
 |[],[],_=>rfl
 |[],_::_,h=>by simp at h
 |_::_,[],h=>by simp at h
 |x::xs,y::ys,h=>by
  have ih:=wb (xs:=xs) (ys:=ys) (by simpa using h);unfold xD;rw[<- ih,br,List.range_succ_eq_map,all_cons,List.all_map]
  rfl
theorem Vals.getD:∀{xs:Ap}{us:A8}{j:Nat}(h:j<us.length),Vals xs us->RelV (xs.getD j .non) us[j]
 |_,_,0,_,.cons r _=>r
 |_,_,j+1,h,.cons _ t=>Vals.getD (j:=j) (by simpa using h) t
def jY{xs:Ap}(f:xs.all jV=true)(j:Nat):jV (xs.getD j .non)=true:=by
 rw[ay];cases e:xs[j]? with
 |none=>rfl
 |some x=>exact bI.mp f x (ah e)
def zg4(K:A0)(neg:Bool):R2:=λx y H Q=>∃a b xs ys,x=.ref a/\y=.ref b/\((SqL K H a xs/\SqL K H b ys)\/(SqT K H a xs/\SqT K H b ys))/\xs.all jV=true/\ys.all jV=true/\Q (.bl (if neg then !xD xs ys else xD xs ys)) H
def zev(hu:X.A.units<cLine):OpR X (compareOp .Eq) (zg4 X.K false):=by
 intro p6 s σ H x y v u Q I rx ry h;let⟨a,b,xs,ys,rfl,rfl,hq,fx,fy,q⟩:=h;cases rx;cases ry;have fin:EP X p6 σ Q (.bool (xD xs ys)) s:=⟨.bl (xD xs ys),H,I,rfl,q⟩;rcases hq with⟨h1,h2⟩|⟨h1,h2⟩
 .obtain⟨pf,r,p,_⟩:=I.list h1;let⟨its2,r2,p2,_⟩:=I.list h2;have e1:=r.length;have e2:=r2.length;by_cases hl:xs.length=ys.length
  .refine fh (e:=λj=>eqV (xs.getD j .non) (ys.getD j .non)) p.isList p2.isList (by simp only[au];lia) hu (λj h1 h2=>?_) _ _ _ _ ?_
   .exact ZC (Vals.getD (by simpa using h1) r) (Vals.getD (by simpa using h2) r2) (jY fx j) (jY fy j)
   .rw[au,<- e1,wb hl];exact fin
  .rw[wa hl]at fin;exact dI p.isList p2.isList (by simp only[au];simp;lia) hu _ _ _ _ fin
 .obtain⟨pf,r,p,_⟩:=I.tuple h1;let⟨its2,r2,p2,_⟩:=I.tuple h2;have e1:=r.length;have e2:=r2.length;refine cR (e:=λj=>eqV (xs.getD j .non) (ys.getD j .non)) p p2 hu (λj h1 h2=>?_) _ _ _ _ ?_
  .exact ZC (Vals.getD (by simpa using h1) r) (Vals.getD (by simpa using h2) r2) (jY fx j) (jY fy j)
  .by_cases hl:xs.length=ys.length
   .have em:min pf.toArray.size its2.toArray.size=xs.length:=by simp only[au];lia
    have es:(pf.toArray.size == its2.toArray.size)=true:=by simp only[au];rw[bL];lia
    rw[em,es,wb hl,fk];exact fin
   .have es:(pf.toArray.size == its2.toArray.size)=false:=by simp only[au];rw[bj];lia
    rw[es,cD];rw[wa hl]at fin;exact fin
def zeu(hu:X.A.units<cLine):OpR X (compareOp .NotEq) (zg4 X.K true):=by
 intro p6 s σ H x y v u Q I rx ry h;let⟨a,b,xs,ys,rfl,rfl,hq,fx,fy,q⟩:=h;cases rx;cases ry;have fin:EP X p6 σ Q (.bool (!xD xs ys)) s:=⟨.bl (!xD xs ys),H,I,rfl,q⟩;rcases hq with⟨h1,h2⟩|⟨h1,h2⟩
 .obtain⟨pf,r,p,_⟩:=I.list h1;let⟨its2,r2,p2,_⟩:=I.list h2;have e1:=r.length;have e2:=r2.length;by_cases hl:xs.length=ys.length
  .refine SeqAt.RcNeAt.lists (e:=λj=>eqV (xs.getD j .non) (ys.getD j .non)) p.isList p2.isList (by simp only[au];lia) hu (λj h1 h2=>?_) _ _ _ _ ?_
   .exact ZC (Vals.getD (by simpa using h1) r) (Vals.getD (by simpa using h2) r2) (jY fx j) (jY fy j)
   .rw[au,<- e1,wb hl];exact fin
  .rw[wa hl]at fin;exact SeqAt.RcNeAt.lists_lengths p.isList p2.isList (by simp only[au];simp;lia) hu _ _ _ _ fin
 .obtain⟨pf,r,p,_⟩:=I.tuple h1;let⟨its2,r2,p2,_⟩:=I.tuple h2;have e1:=r.length;have e2:=r2.length;refine SeqAt.RcNeAt.tuples (e:=λj=>eqV (xs.getD j .non) (ys.getD j .non)) p p2 hu (λj h1 h2=>?_) _ _ _ _ ?_
  .exact ZC (Vals.getD (by simpa using h1) r) (Vals.getD (by simpa using h2) r2) (jY fx j) (jY fy j)
  .by_cases hl:xs.length=ys.length
   .have em:min pf.toArray.size its2.toArray.size=xs.length:=by simp only[au];lia
    have es:(pf.toArray.size == its2.toArray.size)=true:=by simp only[au];rw[bL];lia
    rw[em,es,wb hl,fk];exact fin
   .have es:(pf.toArray.size == its2.toArray.size)=false:=by simp only[au];rw[bj];lia
    rw[es,cD];rw[wa hl]at fin;exact fin
inductive DE(K:A0)(H:Hp):Nat->V->V->Bool->Prop
 |flat {n:Nat} {x y:V}:jV x=true->jV y=true->DE K H n x y (eqV x y)
 |same {n:Nat} {p:Addr}:DE K H n (.ref p) (.ref p) true
 |lists {n:Nat} {p q:Addr} {xs ys:Ap} {e:Nat->Bool}:p≠q->SqL K H p xs->SqL K H q ys->xs.length=ys.length->(∀j x y,xs[j]?=some x->ys[j]?=some y->DE K H n x y (e j))->DE K H (n+1) (.ref p) (.ref q) ((List.range xs.length).all e)
 |listsL {n:Nat} {p q:Addr} {xs ys:Ap}:p≠q->SqL K H p xs->SqL K H q ys->xs.length≠ys.length->DE K H (n+1) (.ref p) (.ref q) false
 |tuples {n:Nat} {p q:Addr} {xs ys:Ap} {e:Nat->Bool}:p≠q->SqT K H p xs->SqT K H q ys->(∀j x y,xs[j]?=some x->ys[j]?=some y->DE K H n x y (e j))->DE K H (n+1) (.ref p) (.ref q) ((List.range (min xs.length ys.length)).all e&&xs.length == ys.length)
 |nt {n:Nat} {p:Addr} {xs:Ap}:SqT K H p xs->DE K H n .non (.ref p) false
 |tn {n:Nat} {p:Addr} {xs:Ap}:SqT K H p xs->DE K H n (.ref p) .non false
def Vals.at_{xs:Ap}{us:A8}(r:Vals xs us){j:Nat}(h:j<us.toArray.size):∃x,xs[j]?=some x/\RelV x us.toArray[j]:=by
 have h':j<us.length:=by simpa using h
 have hl:j<xs.length:=by rw[r.length];exact h'
 let⟨u,hu,ru⟩:=r.get (af hl);have e:us.toArray[j]=u:=by
  have:=aa.mp hu;let⟨_,e⟩:=this;simpa using e
 exact⟨xs[j],af hl,e ▸ ru⟩
def zbV{σ:St}{n:Nat}{x y:V}{b:Bool}(I:Inv X p6 σ H s)(h:DE X.K H n x y b):∀{u v:Am}{A:Ao},RelV x u->RelV y v->A.units+n<cLine->SeqAt.EqAt A s u v b:=by
 induction h with
 |flat fx fy=>intro u v A rx ry _;exact ZC rx ry fx fy
 |same=>intro u v A rx ry _;cases rx;cases ry;exact dS _
 |lists hne h1 h2 hl _ ih =>
  intro u v A rx ry hu;cases rx;cases ry;let⟨pf,r,p,_⟩:=I.list h1;let⟨its2,r2,p2,_⟩:=I.list h2;have e1:=r.length;have e2:=r2.length;refine cG hne ?_;have:=fh (A:=A) (s:=s) p.isList p2.isList (by simp only[au];lia) (by lia) (λj h1 h2=>by
   let⟨x,hx,rx⟩:=r.at_ h1;let⟨y,hy,ry⟩:=r2.at_ h2;exact ih j x y hx hy rx ry (by show A.units+1+_<_;lia))
  rw[au,<- e1]at this;exact this
 |listsL hne h1 h2 hl =>
  intro u v A rx ry hu;cases rx;cases ry;let⟨pf,r,p,_⟩:=I.list h1;let⟨its2,r2,p2,_⟩:=I.list h2;have e1:=r.length;have e2:=r2.length;exact cG hne (dI p.isList p2.isList (by simp only[au];simp;lia) (by lia))
 |tuples hne h1 h2 _ ih =>
  intro u v A rx ry hu;cases rx;cases ry;let⟨pf,r,p,_⟩:=I.tuple h1;let⟨its2,r2,p2,_⟩:=I.tuple h2;have e1:=r.length;have e2:=r2.length;refine cG hne ?_;have:=cR (A:=A) (s:=s) p p2 (by lia) (λj h1 h2=>by
   let⟨x,hx,rx⟩:=r.at_ h1;let⟨y,hy,ry⟩:=r2.at_ h2;exact ih j x y hx hy rx ry (by show A.units+1+_<_;lia))
  simp only[au,<- e1,<- e2]at this;exact this
 |nt h1 =>
  intro u v A rx ry hu;cases rx;cases ry;let⟨pf,r,p,_⟩:=I.tuple h1;exact SeqAt.EqAt.none_tuple p (by lia)
 |tn h1 =>
  intro u v A rx ry hu;cases rx;cases ry;let⟨pf,r,p,_⟩:=I.tuple h1;exact SeqAt.EqAt.tuple_none p (by lia)
def zg5(K:A0)(neg:Bool):R2:=λx y H Q=>∃p q xs ys n e,x=.ref p/\y=.ref q/\n<=8/\(∀j x y,xs[j]?=some x->ys[j]?=some y->DE K H n x y (e j)) /\
 ((SqL K H p xs/\SqL K H q ys/\xs.length=ys.length/\Q (.bl (if neg then !((List.range xs.length).all e)else(List.range xs.length).all e)) H) \/
   (SqT K H p xs/\SqT K H q ys/\Q (.bl (if neg then !((List.range (min xs.length ys.length)).all e&&xs.length == ys.length)else((List.range (min xs.length ys.length)).all e&&xs.length == ys.length))) H))
def zcL(hu:X.A.units+100<cLine):OpR X (compareOp .Eq) (zg5 X.K false):=by
 intro p6 s σ H x y v u Q I rx ry h;let⟨p,q,xs,ys,n,e,rfl,rfl,hn,hde,h⟩:=h;cases rx;cases ry;rcases h with⟨h1,h2,hl,q⟩|⟨h1,h2,q⟩
 .obtain⟨pf,r,p,_⟩:=I.list h1;let⟨its2,r2,p2,_⟩:=I.list h2;have e1:=r.length;have e2:=r2.length;refine fh (e:=e) p.isList p2.isList (by simp only[au];lia) (by lia) (λj h1 h2=>?_) _ _ _ _ ?_
  .obtain⟨x,hx,rx⟩:=r.at_ h1;let⟨y,hy,ry⟩:=r2.at_ h2;exact zbV I (hde j x y hx hy) rx ry (by show X.A.units+1+_<_;lia)
  .rw[au,<- e1];exact⟨.bl _,H,I,rfl,q⟩
 .obtain⟨pf,r,p,_⟩:=I.tuple h1;let⟨its2,r2,p2,_⟩:=I.tuple h2;have e1:=r.length;have e2:=r2.length;refine cR (e:=e) p p2 (by lia) (λj h1 h2=>?_) _ _ _ _ ?_
  .obtain⟨x,hx,rx⟩:=r.at_ h1;let⟨y,hy,ry⟩:=r2.at_ h2;exact zbV I (hde j x y hx hy) rx ry (by show X.A.units+1+_<_;lia)
  .simp only[au,<- e1,<- e2];exact⟨.bl _,H,I,rfl,q⟩
def zcK(hu:X.A.units+100<cLine):OpR X (compareOp .NotEq) (zg5 X.K true):=by
 intro p6 s σ H x y v u Q I rx ry h;let⟨p,q,xs,ys,n,e,rfl,rfl,hn,hde,h⟩:=h;cases rx;cases ry;rcases h with⟨h1,h2,hl,q⟩|⟨h1,h2,q⟩
 .obtain⟨pf,r,p,_⟩:=I.list h1;let⟨its2,r2,p2,_⟩:=I.list h2;have e1:=r.length;have e2:=r2.length;refine SeqAt.RcNeAt.lists (e:=e) p.isList p2.isList (by simp only[au];lia) (by lia) (λj h1 h2=>?_) _ _ _ _ ?_
  .obtain⟨x,hx,rx⟩:=r.at_ h1;let⟨y,hy,ry⟩:=r2.at_ h2;exact zbV I (hde j x y hx hy) rx ry (by show X.A.units+1+_<_;lia)
  .rw[au,<- e1];exact⟨.bl _,H,I,rfl,q⟩
 .obtain⟨pf,r,p,_⟩:=I.tuple h1;let⟨its2,r2,p2,_⟩:=I.tuple h2;have e1:=r.length;have e2:=r2.length;refine SeqAt.RcNeAt.tuples (e:=e) p p2 (by lia) (λj h1 h2=>?_) _ _ _ _ ?_
  .obtain⟨x,hx,rx⟩:=r.at_ h1;let⟨y,hy,ry⟩:=r2.at_ h2;exact zbV I (hde j x y hx hy) rx ry (by show X.A.units+1+_<_;lia)
  .simp only[au,<- e1,<- e2];exact⟨.bl _,H,I,rfl,q⟩
def zad(K:A0):R2:=λx y H Q=>match x,y with
 | .int i,.int j=>Q (.bl (decide (i=j))) H
 | .str i,.str j=>Q (.bl (decide (i=j))) H
 | .bl i,.bl j=>Q (.bl (decide (i=j))) H
 |x,y=>rEq x y H Q\/zg4 K false x y H Q\/zg5 K false x y H Q
def zbo(K:A0):R2:=λx y H Q=>match x,y with
 | .int i,.int j=>Q (.bl (!decide (i=j))) H
 | .str i,.str j=>Q (.bl (!decide (i=j))) H
 | .bl i,.bl j=>Q (.bl (!decide (i=j))) H
 |x,y=>rNe x y H Q\/zg4 K true x y H Q\/zg5 K true x y H Q
def zep(K:A0):R2:=λx y H Q=>match x,y with
 | .int i,.int j=>if i=j then Q (.bl true) H else Q (.bl false) H
 | .str i,.str j=>if i=j then Q (.bl true) H else Q (.bl false) H
 | .bl i,.bl j=>if i=j then Q (.bl true) H else Q (.bl false) H
 |x,y=>zad K x y H Q
def zeo(K:A0):R2:=λx y H Q=>match x,y with
 | .int i,.int j=>if ¬i=j then Q (.bl true) H else Q (.bl false) H
 | .str i,.str j=>if ¬i=j then Q (.bl true) H else Q (.bl false) H
 | .bl i,.bl j=>if ¬i=j then Q (.bl true) H else Q (.bl false) H
 |x,y=>zbo K x y H Q
def zfQ(hu:X.A.units+100<cLine):OpR X (compareOp .Eq) (zad X.K):=(op_eq.or ((zev (by lia)).or (zcL hu))).wk λx y H Q h=>by
 unfold zad at h
 split at h<;>first|exact h|exact .inl ⟨rfl,by simpa using h⟩
def zhY(hu:X.A.units+100<cLine):OpR X (compareOp .NotEq) (zbo X.K):=(op_ne.or ((zeu (by lia)).or (zcK hu))).wk λx y H Q h=>by
 unfold zbo at h
 split at h<;>first|exact h|exact .inl ⟨rfl,by simpa using h⟩
def qd(hu:X.A.units+100<cLine):OpR X (compareOp .Eq) (zep X.K):=(zfQ hu).wk λx y H Q h=>by
 unfold zep at h
 split at h<;>first|exact h|exact zcU (Q:=Q) h
def wl(hu:X.A.units+100<cLine):OpR X (compareOp .NotEq) (zeo X.K):=(zhY hu).wk λx y H Q h=>by
 unfold zeo at h
 split at h<;>first|exact h|exact zdE (Q:=Q) h
def Room.units1{k:Nat}{A:Ao}(r:Room k A):A.units+100<cLine:=by have:=r.un;lia
noncomputable def zhy:V->Option Value
 | .ty n=>some (.type n)
 | .ref a=>some (.ref a)
 |_=>none
def zB:bootBuiltins "len"=some (.builtin "len"):=by decide+kernel
def zgz:bootBuiltins "abs"=some (.builtin "abs"):=by decide+kernel
def zO:bootBuiltins "isinstance"=some (.builtin "isinstance"):=by decide+kernel
def zgy:bootBuiltins "max"=some (.builtin "max"):=by decide+kernel
def zeT:bootBuiltins "sorted"=some (.builtin "sorted"):=by decide+kernel
def zi2:bootBuiltins "int"=some (.type "int"):=by decide+kernel
def qK:bootBuiltins "list"=some (.type "list"):=by decide+kernel
def wv:bootBuiltins "tuple"=some (.type "tuple"):=by decide+kernel
def zhC:bootBuiltins "bool"=some (.type "bool"):=by decide+kernel
def WM:bootBuiltins "ValueError"=some (.type "ValueError"):=by decide+kernel
def Jg:kitOne K (.type "int") (.type "int")=some true:=by rfl
def Qe:kitOne K (.type "int") (.type "bool")=some false:=by rfl
def Zk:kitOne K (.type "bool") (.type "bool")=some true:=by rfl
def Jf:kitOne K (.type "str") (.type "str")=some true:=by rfl
def zbM:kitOne K (.type "tuple") (.type "tuple")=some true:=by rfl
def ziS:IxR X (rIx X.K):=ziR
def zC:CallR X (.builtin "len") (λxs H Q=>lq xs λx=>∃n,zi9 X.K x H n/\Q (.int n) H):=λp6 s σ H xs us Q I r h=>let⟨x,e,n,h⟩:=zfY h;zgu p6 s σ H xs us Q I r ⟨x,n,e,h⟩
def zfX{xs:Ap}{P:Int->Prop}(h:lq xs λv=>iq v P):∃i,xs=[.int i]/\P i:=by
 let⟨v,rfl,h⟩:=zfY h;let⟨i,rfl,h⟩:=Qg h;exact⟨i,rfl,h⟩
def zgA:CallR X (.builtin "abs") (λxs H Q=>lq xs λv=>iq v λi=>Q (.int (if i<0 then -i else i)) H):=λp6 s σ H xs us Q I r h=>zgv p6 s σ H xs us Q I r (zfX h)
end
abbrev bmV:List Value:=[.type "ValueError",.type "Exception",.type "BaseException",.type "object"]
structure XC(K:A0)(C:Addr):Prop where
 q:PySem.W.excIn K C bmV "ValueError.__new__"=true
def zh6{C:Addr}{h₀:Heap}(X:K.In h₀)(x:XC K C):∃bm N nm q bs hdct sn sub ab col dd k0 k1 k2 k3 k5 mN,h₀.get? C=some (excClassObj nm q C N bs bm hdct sn sub ab col dd k0 k1 k2 k3 k5 "ValueError.__new__")/\h₀.Ns N mN/\mN "__init__"=none/\OwnTail h₀ bmV bm:=by
 have q:=x.q;unfold PySem.W.excIn at q
 split at q
 .rename_i dd cd sl ho
  split at q
  .rename_i C' bm k0 k1 k2 k3 n k5 hm hs;simp only[bQ,bL,Bool.not_eq_true']at q;let⟨⟨⟨⟨⟨rfl,rfl⟩,hdel⟩,ht⟩,hok⟩,hni⟩:=q;let⟨nm,bs,mro,ns,qn,hd,sn,sub,ab,col,del⟩:=cd;dsimp only at hm hdel hok hni;subst hm hdel;have hsl:sl=#[k0,k1,k2,k3,some (.builtin "ValueError.__new__"),k5]:=by
    let⟨l⟩:=sl;simp only at hs;rw[hs]
   subst hsl;exact⟨bm,ns,nm,qn,bs,hd,sn,sub,ab,col,dd,k0,k1,k2,k3,k5,_,X _ _ ho,.of_isNs (PySem.W.isNs_of_in X hok),PySem.W.nsMap_none_of_in X hok hni,PySem.W.tail_of_in X ht⟩
  .cases q
 .cases q
section
variable{X:Cx}{G:GK}{x n:Str}{np cpos pos hpos:Pos}{e₀:Expr}{es:List Expr}{t:TA}
def tRaise(X:Cx)(x:Str)(G:GK)(t:TA):TS:=λ_ σ H=>∃C,X.mg x=some (.ref C)/\XC X.K C/\t σ H λvs H1=>szl vs (G (.ref C) σ H1)
def qA(B:Bod X)(hc:X.calm=true)(ha:PA (X.exg G) (e₀::es) t)(hg:Gl X x:=by rfl)(hdb:(x == ("__debug__":Str))=false:=by decide)(he:starEach (e₀::es) X.env=(false,eval e₀ X.env)::starEach es X.env:=by rfl)(hpl:(backTo cpos (starEach es X.env)).any (·.1)=false:=by rfl) :
  PS (X.exg G) (.Raise (some (.Call (.Name x np) (e₀::es) [] cpos)) none pos) (tRaise X x G t):=by
 intro p6 s σ H D I h;let⟨C,hm,xc,h⟩:=h;let⟨tl,N,nm,q,bs,hdct,sn,sub,ab,col,dd,k0,k1,k2,k3,k5,mN,hC,hN,hni,T⟩:=zh6 I.ok.mod.kin xc;refine wpAny_Raise_call_subT (C:=C) (nm:=nm) (q:=q) (N:=N) (bs:=bs) (bm:=tl) (hdct:=hdct) (sn:=sn) (sub:=sub) (ab:=ab) (col:=col) (dd:=dd) (k0:=k0) (k1:=k1) (k2:=k2) (k3:=k3) (k5:=k5)
  F.excBase_ValueError (mN:=mN) (T.hasType F.excBase_ValueError.hasBase) (I.ok.hd hc) (by rw[he];show(false||(backTo cpos (starEach es X.env)).any (·.1))=false;rw[hpl];rfl) hni (xh I hg hm ⟨rfl,?_⟩ hdb)
 have hA:=ha cpos p6 s σ H _ I h;rw[he]at hA ⊢;refine Calls.evalArgs_plain (thn hA λus s2 ⟨vs,H2,I2,r,g⟩=>?_);let⟨hl,g⟩:=zcj g;exact⟨rfl,by rw[<- r.length];exact hl,I2.bk _ _ hC,hN.keeps I2.bk,T.keeps I2.bk,λh' a hm=>zcc B I2.unwish hm g⟩
end
noncomputable def Qi(a:Addr)(cls:Am):HO:=.ext λh=>∃o vs,h.get? a=some o/\o.cls=cls/\o.dict=none/\o.data=.fields vs
def Exc.obj{g h:Heap}{pn:A3}{a:Addr}(x:Exc g h H pn a cls):∃o vs,h.get? a=some o/\o.cls=cls/\o.dict=none/\o.data=.fields vs:=by
 let⟨oe,vs,_,_,_,h1,h2,h3,h4,_⟩:=x.ex;exact⟨oe,vs,h1,h2,h3,h4⟩
section
variable{X:Cx}{p6:A3}{σ:St}{H:Hp}{s:An}
def Inv.track{a:Addr}{u:HO}(I:Inv X p6 σ H s)(Ha:H a=none)(ga:X.s₀.heap.get? a=none)(hrec:∃o vs,s.heap.get? a=some o/\o.data=.fields vs)(pa:∀p∈X.pn++p6,p.1≠a)(new:ObjOk X.prog X.w (upd H a u) s.heap a u):Inv X p6 σ (upd H a u) s:=by
 let⟨o,vs,ho,hd⟩:=hrec;have neL:X.env.locals≠a:=λz=>by
  let⟨m,⟨o',es,ep,ho',hd',_⟩,_⟩:=I.loc;rw[z,ho]at ho';cases ho';rw[hd']at hd;cases hd
 have neC:∀x c,X.env.cells.lookup x=some c->c≠a:=λx c e z=>by
  let⟨v,o',ho',hd'⟩:=I.cell x c e;rw[z,ho]at ho';cases ho';rw[hd']at hd;cases hd
 have keep:∀b v,H b=some v->upd H a u b=some v:=λb v e=>by
  rw[pF (pG e Ha)];exact e
 refine⟨I.ok,I.os,I.bare,⟨I.base.keep,I.base.slot,λb o' e n hx=>?_,I.base.there,λb xs e=>keep b _ (I.base.tups b xs e),λb o' v e=>keep b _ (I.base.frzs b o' v e),λb ps e=>?_⟩,I.loc,I.cell,?_,λx c e=>?_,λp hp=>?_,λb v e=>?_,I.len⟩
 .have:b≠a:=λz=>by rw[z,ga]at e;cases e
  rw[pF this];exact I.base.free b o' e n hx
 .obtain⟨more,q⟩:=I.base.tbls b ps e;exact⟨more,keep b _ q⟩
 .rw[pF neL];exact I.free
 .rw[pF (neC x c e)];exact I.freeC x c e
 .obtain⟨e,n,ne,nf,d⟩:=I.pin p hp;exact⟨e,by rw[pF (pa p hp)];exact n,ne,nf,d⟩
 .by_cases hb:b=a
  .subst hb;rw[pE]at e;cases e;exact new
  .rw[pF hb]at e;exact(I.hok b v e).stay (λ_ _ _ q=>q) (λc q=>keep c _ q) λc xs q=>keep c _ q
def zhs{a:Addr}{h:Heap}(x:∃o vs,h.get? a=some o/\o.cls=cls/\o.dict=none/\o.data=.fields vs){H:Hp}:ObjOk P w H h a (Qi a cls):=by
 refine⟨x,let⟨o,_,e,_⟩:=x;⟨o,e⟩,λh1 h2 p k=>?_⟩;let⟨o,vs,e,r⟩:=p;exact⟨o,vs,k o e,r⟩
def X5{M:Model}{A:Ao}{E:A4}{a:Addr}(I:Inv X p6 σ H s)(x:Exc X.s₀.heap s.heap H (X.pn++p6) a cls)(hQ:∀s',Inv X p6 σ H s'->Exc X.s₀.heap s'.heap H (X.pn++p6) a cls->Q () s'):wpAny M A (setFlight (.ref a) none) Q E s:=by
 let⟨⟨oe,vs,T,oT,ts,h1,h2,h3,h4,h5,h6,h7,h8,h9,h10,h11,h12⟩,ga,Ha,pa⟩:=x;have h3s:3<ts.size:=(bR.mp h9).1;refine wpAny_setFlight_none h1 h4 h5 h7 h8 h3s ?_;have hT:=bY (Obj.mapFields (·.setIfInBounds 3 Value.none)) h7 (cn (bB h8 _));have other:∀b,b≠T->(s.heap.update T (Obj.mapFields (·.setIfInBounds 3 Value.none))).get? b=s.heap.get? b:=λb hb=>bz _ _ (ba hb);refine hQ _ (I.stepx (ch:=[T]) (λb hb=>?_) (λb hb=>?_) (λb o _ hc q=>(other b (λz=>hc (by simp[z]))).trans q) (λb o hc q=>⟨o.slots,(other b (λz=>hc (by simp[z]))).trans q⟩) λb hb=>?_)
  ⟨⟨oe,vs,T,_,_,(other a (ba h6)).trans h1,h2,h3,h4,h5,h6,hT,bB h8 _,by simp[h3s],h10,h11,h12⟩,ga,Ha,pa⟩
 .obtain rfl:b=T:=by simpa using hb
  exact⟨h10,h11,h12⟩
 .obtain rfl:b=T:=by simpa using hb
  exact⟨oT,ts,h7,h8⟩
 .obtain rfl:b=T:=by simpa using hb
  exact⟨_,hT⟩
end
noncomputable abbrev Cx.suite(X:Cx)(pn:A3)(a:Addr):Cx:={X with pn:=pn,A:=X.A.mark (some (.ref a)),calm:=false,xe:=λ_ _=>False}
noncomputable abbrev Cx.pinned(X:Cx)(pn:A3):Cx:={X with pn:=pn}
section
variable{X:Cx}{p6:A3}{σ:St}{H:Hp}{s:An}
def Inv.topn(I:Inv X p6 σ H s):Inv (X.pinned (X.pn++p6)) [] σ H s :=
 ⟨⟨I.ok.mod,I.ok.kind,I.ok.glob,I.ok.blt,I.ok.above,I.ok.inj,I.ok.has,I.ok.cab,I.ok.hd,I.ok.frames,I.ok.stk,I.ok.exf,I.ok.bs,I.ok.bsz,I.ok.noex,I.ok.exfs,I.ok.funs,I.ok.frf⟩,
  I.os,I.bare,I.base,I.loc,I.cell,I.free,I.freeC,λp hp=>I.pin p (by rwa[cc]at hp),I.hok,I.len⟩
def Inv.ofpn(I:Inv (X.pinned (X.pn++p6)) [] σ H s):Inv X p6 σ H s :=
 ⟨⟨I.ok.mod,I.ok.kind,I.ok.glob,I.ok.blt,I.ok.above,I.ok.inj,I.ok.has,I.ok.cab,I.ok.hd,I.ok.frames,I.ok.stk,I.ok.exf,I.ok.bs,I.ok.bsz,I.ok.noex,I.ok.exfs,I.ok.funs,I.ok.frf⟩,
  I.os,I.bare,I.base,I.loc,I.cell,I.free,I.freeC,λp hp=>I.pin p (by rw[cc];exact hp),I.hok,I.len⟩
def Inv.tosuite{pn:A3}{a:Addr}(I:Inv (X.pinned pn) [] σ H s):Inv (X.suite pn a) [] σ H s :=
 ⟨⟨I.ok.mod,I.ok.kind,I.ok.glob,I.ok.blt,I.ok.above,I.ok.inj,I.ok.has,I.ok.cab,λh=>Bool.noConfusion h,I.ok.frames,I.ok.stk,I.ok.exf,I.ok.bs,I.ok.bsz,I.ok.noex,I.ok.exfs,I.ok.funs,I.ok.frf⟩,
  I.os,I.bare,I.base,I.loc,I.cell,I.free,I.freeC,I.pin,I.hok,I.len⟩
def Inv.ofsuite{pn:A3}{a:Addr}(hd:X.calm=true->X.A.handled=none)(I:Inv (X.suite pn a) [] σ H s):Inv (X.pinned pn) [] σ H s :=
 ⟨⟨I.ok.mod,I.ok.kind,I.ok.glob,I.ok.blt,I.ok.above,I.ok.inj,I.ok.has,I.ok.cab,hd,I.ok.frames,I.ok.stk,I.ok.exf,I.ok.bs,I.ok.bsz,I.ok.noex,I.ok.exfs,I.ok.funs,I.ok.frf⟩,
  I.os,I.bare,I.base,I.loc,I.cell,I.free,I.freeC,I.pin,I.hok,I.len⟩
def vW{M:Model}{A:Ao}{E:A4}{i:Nat}{n:Str}{pos:Pos}(I:Inv X p6 σ H s)(hN:X.N.Nodup)(hi:X.N[i]?=some n)(hlo:X.env.kindOf n=some .local)(hQ:∀s',Inv X p6 (σ.set i none) H s'->Q () s'):wpAny M A (do bindName X.env n .none;unbindBehindTheSuite X.env n pos) Q E s:=by
 let⟨m,hn,hl⟩:=id I.loc;have hcls:(X.env.scope.kind == .class||(X.env.scope.kind == .module&&X.env.locals != X.env.globals))=false:=by rw[I.ok.kind];rfl
 refine wpAny_nameGoes_keeps hlo hn hcls λh' v hn' hs=>?_;have iσ:i<σ.length:=by rw[I.len];exact(aa.mp hi).1
 let⟨oL,_,_,hoL,_⟩:=id hn;have cne:=I.cne;refine hQ _ ⟨I.ok,I.os,I.bare,⟨λb o e n hb hx=>?_,λb o e n hb hx=>?_,I.base.free,λb o e hx=>?_,I.base.tups,I.base.frzs,I.base.tbls⟩,⟨_,hn',λj y v' e1 e2 e3=>?_⟩,λy c e=>?_,I.free,I.freeC,λp hp=>?_,λb ob e=>?_,by simpa using I.len⟩
 .exact(hs.2 b (aQ (aH (aB e) I.ok.above))).trans (I.base.keep b o e n hb hx)
 .obtain⟨sl,e1⟩:=I.base.slot b o e n hb hx;exact⟨sl,(hs.2 b (aQ (aH (aB e) I.ok.above))).trans e1⟩
 .obtain⟨o',e1⟩:=I.base.there b o e hx;exact⟨o',(hs.2 b (aQ (aH (aB e) I.ok.above))).trans e1⟩
 .by_cases hj:j=i
  .subst hj;rw[aN iσ]at e2;cases e2
  .rw[aW (ba hj)]at e2;let⟨u',r',q⟩:=hl j y v' e1 e2 e3;refine⟨u',r',?_⟩;rcases q with⟨k,e⟩|⟨k,c,e,z⟩
   .refine .inl ⟨k,?_⟩;have:y≠n:=λe=>hj (XM hN e1 (e ▸ hi));simp[this,e]
   .exact .inr ⟨k,c,e,z.sameBut hs (cne y c e)⟩
 .obtain⟨w',z⟩:=I.cell y c e;exact⟨w',z.sameBut hs (cne y c e)⟩
 .obtain⟨e,n,ne,nf,d⟩:=I.pin p hp;exact⟨(hs.2 p.1 ne).trans e,n,ne,nf,d⟩
 .refine(I.hok b ob e).stay (λc w' hc q=>(hs.2 c ?_).trans q) (λ_ q=>q) λ_ _ q=>q;rintro rfl;rcases hc with z|hc
  .rw[<- z]at e;rw[I.free]at e;cases e
  .rw[I.free]at hc;cases hc
end
def Jh{M:Model}{A:Ao}{E:A4}{e C D:Addr}{b:Bool}{Q:Bool->Shared->Prop}(X:K.In s.heap)(he:s.heap.get? e=some oe)(hcls:oe.cls=.ref C)(k1:kitCls K (.ref C) (.ref D)=some b)(k2:subIn K (.ref D) (.type "BaseException")=some true)(hq:Q b s):wpAny M A (excMatches (.ref e) (.ref D)) Q E s:=by
 let⟨L1,L2,L3⟩:=PySem.W.kit_cls (M:=M) X k1;have L4:=gd (M:=M) X k2;have f:=tc_notTuple;let⟨hp,g,d,tk,os⟩:=s;unfold excMatches
 repeat (first|(with_reducible refine wpAny_loadPart_at he ?_;rw[hcls])|with_reducible refine L1.at ?_|with_reducible refine L2.at ?_|with_reducible refine L3.at ?_|with_reducible refine L4.at ?_|wp_step)
 cases b
 .wp_walk
  exact hq
 .wp_walk
  exact hq
section
variable{X:Cx}{G:GK}{x n:Str}{np pos hpos:Pos}{i:Nat}{body suite:List Stmt}{b₀:Stmt}{tb:List (Addr×Obj)->GK->TS}{th:List (Addr×Obj)->Addr->TS}
def tTryAs(X:Cx)(i:Nat)(x:Str)(tb:List (Addr×Obj)->GK->TS)(th:List (Addr×Obj)->Addr->TS):TS:=λD σ H=>∃Dc,X.mg x=some (.ref Dc)/\subIn X.K (.ref Dc) (.type "BaseException")=some true /\
 ∀pn,tb pn (λcls σ' H'=>∃C,cls=.ref C/\kitCls X.K (.ref C) (.ref Dc)=some true/\∀a,H' a=none ->
  th pn a {nx:=λσ2 H2=>D.nx (σ2.set i none) H2,rt:=D.rt,bk:=λσ2 H2=>D.bk (σ2.set i none) H2,ct:=λσ2 H2=>D.ct (σ2.set i none) H2} (σ'.set i (some (.ref a))) (upd H' a (Qi a (.ref C)))) D σ H
theorem QO(B:Bod X)(hc:X.calm=true)(hN:X.N.Nodup)(hi:X.N[i]?=some n)(hlo:X.env.kindOf n=some .local)(hb:∀pn G',PSs ((X.pinned pn).exg G') body (tb pn G'))(hs:∀pn a,PSs (X.suite pn a) (b₀::suite) (th pn a))(hg:Gl X x:=by rfl)(hdb:(x == ("__debug__":Str))=false:=by decide) :
  PS (X.exg G) (.Try body [.ExceptHandler (some (.Name x np)) (some n) (b₀::suite) hpos] [] [] pos) (tTryAs X i x tb th):=by
 intro p6 s σ H D I h;let⟨Dc,hm,hsub,h⟩:=h;have I1:=I.unwish.topn;refine wpAny_Try_except (aV (hb (X.pn++p6) _ [] s σ H D (I1.wish _) (h (X.pn++p6))) (λf s1 q=>?_) λe s1 q=>?_)
 .cases f with
  |next =>
   let⟨σ',H',J,q⟩:=q;exact cE ⟨σ',H',J.unwish.ofpn.wish _,q⟩
  |brk=>let⟨σ',H',J,q⟩:=q;exact⟨σ',H',J.unwish.ofpn.wish _,q⟩
  |cont=>let⟨σ',H',J,q⟩:=q;exact⟨σ',H',J.unwish.ofpn.wish _,q⟩
  |ret u=>let⟨v,σ',H',J,r,q⟩:=q;exact⟨v,σ',H',J.unwish.ofpn.wish _,r,q⟩
 .refine aV (show wpAny _ _ _ _ _ _ from q) (λ_ s2 q2=>aV q2 (λ_ s3 q3=>?_) λ_ _ z=>z.elim) λ_ _ z=>z.elim;let⟨a,cls,σ',H',rfl,J,xx,C,rfl,hk,hth⟩:=q3;have J2:Inv (X.suite (X.pn++p6) a) [] σ' H' s3:=J.tosuite;let⟨oe,vs,he,hcls,_,_⟩:=xx.obj;refine wpAny_handleBy_cons (codeAny_handlers_test (xh J2 hg hm (Jh J2.kIn he hcls hk hsub ?_) hdb)) (by intro z;cases z);refine codeAny_handlers_suite_as ?_;refine X5 J2 (xx.less λp hp=>by rwa[cc]at hp) λs4 J4 x4=>?_;have J5:=J4.track (u:=Qi a (.ref C)) x4.Ha x4.ga (let⟨o,vs,e,_,_,d⟩:=x4.obj;⟨o,vs,e,d⟩) x4.pa (zhs x4.obj);refine ZI (X:=X.suite (X.pn++p6) a) (v:=.ref a) J5 hN hi (Or.inl hlo) rfl (λs5 J6=>?_) (Or.inr hlo);refine aV (hs (X.pn++p6) a [] s5 _ _ _ J6 (hth a xx.Ha)) (λf s6 q6=>?_) λ_ _ z=>False.elim z;cases f with
  |next =>
   let⟨σ7,H7,J7,q7⟩:=q6;exact vW (X:=X.suite (X.pn++p6) a) J7 hN hi hlo λs8 J8=>⟨_,H7,(J8.ofsuite I.ok.hd).ofpn.wish _,q7⟩
  |brk =>
   let⟨σ7,H7,J7,q7⟩:=q6;exact vW (X:=X.suite (X.pn++p6) a) J7 hN hi hlo λs8 J8=>⟨_,H7,(J8.ofsuite I.ok.hd).ofpn.wish _,q7⟩
  |cont =>
   let⟨σ7,H7,J7,q7⟩:=q6;exact vW (X:=X.suite (X.pn++p6) a) J7 hN hi hlo λs8 J8=>⟨_,H7,(J8.ofsuite I.ok.hd).ofpn.wish _,q7⟩
  |ret u =>
   let⟨v,σ7,H7,J7,r7,q7⟩:=q6;exact vW (X:=X.suite (X.pn++p6) a) J7 hN hi hlo λs8 J8=>⟨v,_,H7,(J8.ofsuite I.ok.hd).ofpn.wish _,r7,q7⟩
end
structure FA(K:A0)(mg:A5)(x:Str)(st:Stmt)(ps:A9):Prop where
 ex:∃f fd,Fun K x x st f fd/\mg x=some (.ref f)/\Binds K fd ps []
def FA.cal{st:Stmt}{k:Nat}(h:FA K mg x st ps)(ok:∀{f fd},Fun K x x st f fd->FnOk P w K mg base (CXr P w) k f fd ps sp) :
  Cal P w K mg base x k ps [] sp:=by
 let⟨f,fd,F,m,b⟩:=h.ex;exact⟨f,fd,[],ok F,m,F.kp,b,.nil⟩
def fa_mk{h:Heap}{st:Stmt}{f:Addr}{oc:Am}{od an:Ab}{osl:Af}{kV doc pm cdv ct:Am}(X:K.In h)(G:h.Ns mainGlobals mg)(a:nsIn K mainGlobals x=some (some (.ref f)))(l:K.lookup f=some ⟨oc,od,.func (fnOf x x (qt st) (qg st) (zf st) .none kV doc pm an cdv ct),osl⟩)(c:codeIn K cdv x=true)(k:keepIn K (.ref f)=true)(hb:∀(kV doc pm:Am)(an:Ab)(cdv ct:Am)(us:A8),us.length=ps.length->bindArgs (fnOf x x (qt st) (qg st) (zf st) .none kV doc pm an cdv ct) ⟨us,[]⟩=pure (ps.zip us)):FA K mg x st ps :=
 ⟨f,_,wJ l c k,mg_of X G a,(wJ l c k).binds hb⟩
def zeM{e:Am}{s':An}(h:CXr P w [] H s (λ_ _ _=>False) e s'):False:=by
 let⟨_,_,_,_,_,_,_,_,_,z⟩:=h;exact z
end L2
namespace L2
open PySem PySem.Spec PySem.Calls PyProof.Rows
variable{K:A0}{C:Addr}{st:Stmt}{ps:A9}
structure XI(K:A0)(C:Addr):Prop where
 ga:findIn K (.ref C) "__getattribute__"=some (some (.builtin "BaseException.__getattribute__"))
 gt:findIn K (.ref C) "__getattr__"=some none
 cl:findIn K (.ref C) "__class__"=some (some (.builtin "object.__class__"))
 hd:hasDictIn K C=true
 gn:specialIn K (.builtin "object.__class__") "__get__"=some (some (.builtin "getset_descriptor.__get__"))
 tk:takesIn K (.builtin "object.__class__")=some true
 mo:mroIn K C (.type "object")=some true
 mb:subIn K (.ref C) (.type "BaseException")=some true
section
variable{prog:Ag}{w:World}{A:Ao}{E:A4}{s:An}{K:A0}{a C:Addr}{o:Obj}{vs:Ae}
def zbS{hp:Heap}(hx:hp.get? a=some o)(hc:o.cls=.ref C)(hd:o.dict=none)(hv:o.data=.fields vs):PySem.W.InstAt hp a o C none:=by
 refine⟨hx,hc,?_,?_⟩
 .obtain⟨c,d,dt,sl⟩:=o;simp only at hv;subst hv
  rfl
 .rw[hd]
  trivial
def zeL{Q:Option Value->Shared->Prop}(X:K.In s.heap)(f:XI K C)(hx:s.heap.get? a=some o)(hc:o.cls=.ref C)(hd:o.dict=none)(hv:o.data=.fields vs)(h:Q (some (.ref C)) {s with toks:=s.toks+1}):wpAny (model prog w) A (getAttr? (.ref a) "__class__") Q E s:=by
 have I:=zbS hx hc hd hv;have hf:PySem.W.findObj K C none "__class__"=some (.bind (.builtin "getset_descriptor.__get__") (.builtin "object.__class__")):=by
   let⟨cd,hcd,_⟩:=gy f.hd;simp[PySem.W.findObj,hcd,f.cl,f.gn,f.tk]
 let⟨hh,g,d,t,os⟩:=s;have T0:=I.type (M:=model prog w);have T1:=looks_findIn (M:=model prog w) X f.ga;have T2:=PySem.W.looks_find (M:=model prog w) X I hf;have T3:=looks_findIn (M:=model prog w) X f.gt;have T4:=gd (M:=model prog w) X f.mb;have f3:=F.attr_ValueError.ga.bind (.ref a);unfold getAttr? getAttrBy? getAttrBy;refine ac (wpAny_mkText (ac (gv (dH (ac (T0.at (ac (T1.at ?_))))))));dsimp only;have nga:(onTheHeap (Value.ref C)&&Value.builtin "BaseException.__getattribute__" == Value.builtin "object.__getattribute__")=false:=by
  have z:(Value.builtin "BaseException.__getattribute__" == Value.builtin "object.__getattribute__")=false:=by decide+kernel
  rw[z,cD]
 rw[nga,ao aD];unfold getAttrByItsOwn
 repeat (any_goals (first|assumption|with_reducible refine T0.at ?_|with_reducible refine T3.at ?_|with_reducible refine T1.at ?_|wp_step))
 refine codeAny_call_builtin F.attr_ValueError.ga.plain F.entry_bexc_ga ?_;have hk:builtinKind "BaseException.__getattribute__"=some .slot:=by decide+kernel
 have hsp:splitId "BaseException.__getattribute__"=some ("BaseException","__getattribute__"):=by decide+kernel
 have hav:=F.args_bexc_ga (.ref a) (Value.str (Str.ofString "__class__") t);simp only[checkBuiltinCall,hk,hsp];refine ac ?_;unfold isInstance
 repeat (first|with_reducible refine T2.at ?_|with_reducible refine T0.at ?_|with_reducible refine T4.at ?_|wp_step)
 refine PySem.W.class_get (s:=⟨hh,g,d,t+1,os⟩) (ox:=o) (od:=none) X I f.mo ?_;refine aw ?_;refine PySem.W.handed_on rfl ?_;exact aw h
def zf6{vs:Ae}(f:XI K C):PySem.W.KitX K (.ref a) (.ref C) (λh=>∃o vs,h.get? a=some o/\o.cls=.ref C/\o.dict=none/\o.data=.fields vs) where
 ty:=λM h _ ⟨o,vs,e,c,d,v⟩=>(zbS e c d v).type
 it:=λ_ _ X _=>by
  let⟨cd,hcd,_⟩:=gy f.hd;unfold PySem.W.clsIn at hcd
  split at hcd
  .rename_i c' d' cd' sl' ho;intro A' Q' E' s' k q;unfold isType loadHead;exact ac (wpAny_loadPart (k _ _ (X _ _ ho)) (aw q))
  .cases hcd
 ne:=λh tp dd pf n sl X htp=>by
  let⟨cd,hcd,_⟩:=gy f.hd;refine Bool.eq_false_iff.mpr λq=>?_;have e:C=tp:=Value.ref.inj (bL.mp q);subst e;unfold PySem.W.clsIn at hcd
  split at hcd
  .rename_i ho;have z:=(X _ _ ho).symm.trans htp;cases z
  .cases hcd
 ca:=λX ⟨o,vs,e,c,d,v⟩ k=>zeL X f e c d v k
end
inductive TyX(K:A0)(H:Hp):V->Value->Prop where
 |old {x:V} {t:Am} (h:TyOf K H x t):TyX K H x t
 |exc {a C:Addr} (h:H a=some (Qi a (.ref C))) (f:XI K C):TyX K H (.ref a) (.ref C)
noncomputable def zbZ:List V->Option A8
 |[]=>some []
 | c::r=>match zhy c,zbZ r with
  |some u,some us=>some (u::us)
  |_,_=>none
def zdV{c:V}{u v:Am}(h:zhy c=some u)(r:RelV c v):v=u:=by
 cases c with
 |ty n=>cases r;exact aT h
 |ref a=>cases r;exact aT h
 |_=>cases h
theorem zbY:∀{cs:Ap}{us vs:A8},zbZ cs=some us->Vals cs vs->vs=us
 |[],_,_,h,.nil=>aT h
 |c::r,us,v::vs,h,.cons rc rr=>by
  unfold zbZ at h
  split at h
  .rename_i u us' h1 h2;cases h;rw[zdV h1 rc,zbY h2 rr]
  .cases h
theorem ziK{X:Cx}{p6:A3}{σ:St}{H:Hp}{s:An}{x:V}{u t:Am}(I:Inv X p6 σ H s)(rx:RelV x u)(ty:TyX X.K H x t) :
  ∃Hx:Heap->Prop,PySem.W.KitX X.K u t Hx/\Hx s.heap/\u≠.builtin "__main__.__loader__#opaque":=by
 cases ty with
 | @exc a C ea f =>
  cases (show u=Value.ref a from rx);let⟨p,_⟩:=(show ObjOk X.prog X.w H s.heap a (Qi a (.ref C))from I.hok a _ ea);exact⟨_,zf6 (vs:=#[]) f,p,λz=>nomatch z⟩
 |old ty =>
  cases ty with
  |non=>cases (show u=Value.none from rx);exact⟨_,PySem.W.kitx_none,True.intro,λz=>nomatch z⟩
  |bl y=>cases (show u=Value.bool y from rx);exact⟨_,PySem.W.kitx_bool,True.intro,λz=>nomatch z⟩
  |int i=>let⟨t,q⟩:=(show ∃t,u=Value.int i t from rx);cases q;exact⟨_,PySem.W.kitx_int,True.intro,λz=>nomatch z⟩
  |str y=>let⟨t,q⟩:=(show ∃t,u=Value.str y t from rx);cases q;exact⟨_,PySem.W.kitx_str,True.intro,λz=>nomatch z⟩
  |flt y=>let⟨t,q⟩:=(show ∃t,u=Value.float y t from rx);cases q;exact⟨_,PySem.W.kitx_float,True.intro,λz=>nomatch z⟩
  | @lst a xs ea =>
   cases (show u=Value.ref a from rx);let⟨_,_,n,_,h1⟩:=(show ObjOk X.prog X.w H s.heap a (.lst xs)from I.hok a _ ea);exact⟨_,PySem.W.kitx_list,⟨_,h1,rfl⟩,λz=>nomatch z⟩
  | @frz a ob xs ea =>
   cases (show u=Value.ref a from rx);let⟨_,_,_,n,_,h1⟩:=(show ObjOk X.prog X.w H s.heap a (.frz ob (.lst xs))from I.hok a _ ea);exact⟨_,PySem.W.kitx_list,⟨_,h1,rfl⟩,λz=>nomatch z⟩
  | @tup a xs ea =>
   cases (show u=Value.ref a from rx);let⟨_,_,_,p⟩:=(show ObjOk X.prog X.w H s.heap a (.tup xs)from I.hok a _ ea);let⟨o,h1,h2,_⟩:=p;exact⟨_,PySem.W.kitx_tuple,⟨o,h1,h2⟩,λz=>nomatch z⟩
  | @dK a pi ea =>
   cases (show u=Value.ref a from rx);let⟨_,_,vs,_,p⟩:=(show ObjOk X.prog X.w H s.heap a (.dK pi)from I.hok a _ ea);let⟨o,es,ep,h1,h2,_⟩:=p;exact⟨_,PySem.W.kitx_dict,⟨o,h1,h2.1⟩,λz=>nomatch z⟩
  | @dT a pi ea =>
   cases (show u=Value.ref a from rx);let⟨_,_,xs,_,o,es,ep,h1,h2,_⟩:=(show ObjOk X.prog X.w H s.heap a (.dT pi)from I.hok a _ ea);exact⟨_,PySem.W.kitx_dict,⟨o,h1,h2.1⟩,λz=>nomatch z⟩
  | @ins a C dx fs ea cl ha hn htk hm =>
   cases (show u=Value.ref a from rx);let⟨mA,O,_⟩:=JQ I.hok ea;let⟨od,J,_⟩:=O.look;exact⟨_,PySem.W.kitx_own (cl.get _) cl.hd ha hn htk hm,J,λz=>nomatch z⟩
def zac(K:A0):List V->Hp->VK->Prop:=λxs H Q=>∃x c t b,xs=[x,c]/\TyX K H x t/\((∃u,zhy c=some u/\kitOne K t u=some b)\/(∃p cs us,c=.ref p/\H p=some (.tup cs)/\zbZ cs=some us/\kitAny K t us=some b))/\Q (.bl b) H
def jr{X:Cx}:CallR X (.builtin "isinstance") (zac X.K):=by
 intro p6 s σ H xs us Q I r h;let⟨x,c,t,b,rfl,ty,hc,q⟩:=h;let⟨v,v2,rfl,rx,rc⟩:=r.two;let⟨Hx,Z,p,nx⟩:=ziK I rx ty;rcases hc with⟨u,hu,e⟩|⟨pt,cs,us,rfl,hp,hu,e⟩
 .obtain rfl:=zdV hu rc;exact PySem.W.kia_one Z I.kIn p e nx λtk=>⟨.bl b,H,I.tok tk,rfl,q⟩
 .cases rc;let⟨_,pf,rv,o,h1,h2,n,h3⟩:=(show ObjOk X.prog X.w H s.heap pt (.tup cs)from I.hok pt _ hp);obtain rfl:=zbY hu rv;let⟨cl,dd,dt,sl⟩:=o;simp only at h2 h3;subst h2 h3;exact PySem.W.kia_tup Z I.kIn p h1 e nx λtk=>⟨.bl b,H,I.tok tk,rfl,q⟩
def kitCls_of{t:Am}{D:Addr}{b:Bool}(h1:hasDictIn K D=true)(h2:PySem.W.typeIn K (.ref D)=some (.type "type"))(h3:subIn K t (.ref D)=some b):kitCls K t (.ref D)=some b:=by
 let⟨cd,hcd,_⟩:=gy h1;simp[kitCls,hcd,h2,h3]
structure FK(K:A0)(C:Addr)(qual:Str)(st:Stmt)(ps:A9):Prop where
 ex:∃f fd,Fun K "__init__" qual st f fd/\Mk K C f/\Binds K fd ps []
structure FM(K:A0)(C:Addr)(m qual:Str)(st:Stmt)(ps:A9):Prop where
 ex:∃f fd,Fun K m qual st f fd/\Meth K C m f/\Binds K fd ps []
def FK.cal{P:Ag}{w:World}{mg:A5}{base:Heap}{x:Str}{qual:Str}{k:Nat}{sp:Sp}(h:FK K C qual st ps)(gl:mg x=some (.ref C))(ok:∀{f fd},Fun K "__init__" qual st f fd->FnOk P w K mg base (CXr P w) k f fd ps sp):KCal P w K mg base x C k ps [] sp:=by
 let⟨f,fd,F,m,b⟩:=h.ex;exact⟨gl,f,fd,[],ok F,m,b,.nil⟩
def FM.cal{P:Ag}{w:World}{mg:A5}{base:Heap}{m qual:Str}{k:Nat}{sp:Sp}(h:FM K C m qual st ps)(cl:Cls K C)(ok:∀{f fd},Fun K m qual st f fd->FnOk P w K mg base (CXr P w) k f fd ps sp):MCal P w K mg base C m k ps [] sp:=by
 let⟨f,fd,F,mm,b⟩:=h.ex;exact⟨cl,f,fd,[],ok F,mm,b,.nil⟩
def fk_mk{qual:Str}{f:Addr}{oc:Am}{od an:Ab}{osl:Af}{kV doc pm cdv ct:Am}(mk:makesIn K C=true)(kc:keepIn K (.ref C)=true)(a:findIn K (.ref C) "__init__"=some (some (.ref f)))(i:isFn K (.ref f)=true)(l:K.lookup f=some ⟨oc,od,.func (fnOf "__init__" qual (qt st) (qg st) (zf st) .none kV doc pm an cdv ct),osl⟩)(c:codeIn K cdv qual=true)(k:keepIn K (.ref f)=true)(hb:∀(kV doc pm:Am)(an:Ab)(cdv ct:Am)(us:A8),us.length=ps.length->bindArgs (fnOf "__init__" qual (qt st) (qg st) (zf st) .none kV doc pm an cdv ct) ⟨us,[]⟩=pure (ps.zip us)):FK K C qual st ps :=
 ⟨f,_,wJ l c k,⟨mk,a,i,kc⟩,(wJ l c k).binds hb⟩
def fm_mk{m qual:Str}{f:Addr}{oc:Am}{od an:Ab}{osl:Af}{kV doc pm cdv ct:Am}(a:findIn K (.ref C) m=some (some (.ref f)))(i:isFn K (.ref f)=true)(l:K.lookup f=some ⟨oc,od,.func (fnOf m qual (qt st) (qg st) (zf st) .none kV doc pm an cdv ct),osl⟩)(c:codeIn K cdv qual=true)(k:keepIn K (.ref f)=true)(hb:∀(kV doc pm:Am)(an:Ab)(cdv ct:Am)(us:A8),us.length=ps.length->bindArgs (fnOf m qual (qt st) (qg st) (zf st) .none kV doc pm an cdv ct) ⟨us,[]⟩=pure (ps.zip us)):FM K C m qual st ps :=
 ⟨f,_,wJ l c k,⟨a,i,k⟩,(wJ l c k).binds hb⟩
structure WI(K:A0)(C:Addr):Prop where
 c:findIn K (.ref C) "__class__"=some (some (.builtin "object.__class__"))
 m:mroIn K C (.type "object")=some true
 g:specialIn K (.builtin "object.__class__") "__get__"=some (some (.builtin "getset_descriptor.__get__"))
 t:takesIn K (.builtin "object.__class__")=some true
def WI.ty{H:Hp}{a C dx:Addr}{fs:Ar}(f:WI K C)(cl:Cls K C)(h:H a=some (.ins C dx fs)):TyX K H (.ref a) (.ref C):=.old (.ins h cl f.c f.g f.t f.m)
section
variable{prog:Ag}{w:World}{A:Ao}{E:A4}{s:An}
end
section
variable{X:Cx}{a e:Expr}{ta:TA}{te:TE}{pos p kp:Pos}
def jZ:SlR X (zir X.K):=zgV
def qY:CallR X (.type "list") (λxs H Q=>∃p ys,xs=[.ref p]/\(SqL X.K H p ys\/SqT X.K H p ys)/\∀l,H l=none->Q (.ref l) (upd H l (.lst ys))):=zaG
end
section
variable{X:Cx}{v v1 v2:Expr}{es:List Expr}{te:TE}{pos p:Pos}
def zib(t u:TS):TS:=λD σ H=>∃M:St->Hp->Prop,t {D with nx:=M} σ H/\∀σ' H',M σ' H'->u D σ' H'
def zI{st:Stmt}{rest:List Stmt}{t u:TS}(h1:PS X st t)(h2:PSs X rest u):PSs X (st::rest) (zib t u):=by
 intro p6 s σ H D I ⟨M,ht,hu⟩;refine fe (thn (h1 p6 s σ H _ I ht) λf s1 q=>?_);cases f with
 |next=>exact let⟨σ',H',I',q⟩:=q;h2 p6 s1 σ' H' D I' (hu σ' H' q)
 |_=>exact q
def zhP(t u:TS):TS:=λD σ H=>tSeq t u D σ H
def zh{st:Stmt}{rest:List Stmt}{t u:TS}(h1:PS X st t)(h2:PSs X rest u):PSs X (st::rest) (zhP t u):=show PSs X (st::rest) (tSeq t u)from zg h1 h2
structure Nx(N:St->Hp->Prop)(u:TS)(D:Ends):Prop where
 h:∀σ H,u D σ H->N σ H
def nxt{t u:TS}{D:Ends}{σ:St}{H:Hp}(k:∀N,Nx N u D->t {D with nx:=N} σ H):zhP t u D σ H:=k (u D) ⟨λ_ _ h=>h⟩
def useN{N:St->Hp->Prop}{u:TS}{D:Ends}{σ:St}{H:Hp}(n:Nx N u D)(q:u D σ H):N σ H:=n.h σ H q
def cut{t u:TS}{D:Ends}{σ:St}{H:Hp}(M:St->Hp->Prop)(h1:t {D with nx:=M} σ H)(h2:∀σ' H',M σ' H'->u D σ' H'):zib t u D σ H:=⟨M,h1,h2⟩
end
section
variable{X:Cx}{k:Nat}{x m:Str}{p pos apos:Pos}{e o:Expr}{es:List Expr}{ta:TE}{t:TA}
def passF:zdh (CXr X.prog X.w) X (λ_ _ _=>False):=λ_ _ _ _ _ _ _ h=>let⟨_,_,_,_,_,_,_,_,_,z⟩:=h;z.elim
def tClN(X:Cx)(k:Nat)(x:Str)(t:TA):TE:=λσ H Q=>∃ps dvs sp,Cal X.prog X.w X.K X.mg X.base x k ps dvs sp/\t σ H λvs H1=>sp (vs++dvs) H1 Q (λ_ _ _=>False)
def vA(hr:Room k X.A)(ha:PA X (e::es) t)(hg:Gl X x:=by rfl)(hdb:(x == ("__debug__":Str))=false:=by decide)(he:starEach (e::es) X.env=(false,eval e X.env)::starEach es X.env:=by rfl)(hpl:(backTo pos (starEach es X.env)).any (·.1)=false:=by rfl) :
  PE X (.Call (.Name x p) (e::es) [] pos) (tClN X k x t):=by
 intro p6 s σ H Q I h;let⟨ps,dvs,sp,⟨f,fd,ds,F,hm,hk,hb,hd⟩,h⟩:=h;refine bK (xh I hg hm ?_ hdb);refine dX (h₀:=X.base) I.ok.mod.kin hk (vZ (ha pos p6 s σ H _ I h) λus s1 vs H1 I1 r q=>⟨I1.kIn,?_⟩) he hpl;exact zfp F hr hb hd passF I1 r q
def tMkN(X:Cx)(k:Nat)(x:Str)(t:TA):TE:=λσ H Q=>∃C ps dvs sp,KCal X.prog X.w X.K X.mg X.base x C k ps dvs sp/\t σ H λvs H1=>∀y dx,H1 y=none->H1 dx=none->dx≠y ->
 sp (.ref y::(vs++dvs)) (upd (upd H1 dx (.own y)) y (.ins C dx [])) (λv H2=>v=.non/\Q (.ref y) H2) (λ_ _ _=>False)
def zfH(hr:Room (k+1) X.A)(ha:PA X (e::es) t)(hg:Gl X x:=by rfl)(hdb:(x == ("__debug__":Str))=false:=by decide)(he:starEach (e::es) X.env=(false,eval e X.env)::starEach es X.env:=by rfl)(hpl:(backTo pos (starEach es X.env)).any (·.1)=false:=by rfl) :
  PE X (.Call (.Name x p) (e::es) [] pos) (tMkN X k x t):=by
 intro p6 s σ H Q I h;let⟨C,ps,dvs,sp,⟨hm,f,fd,ds,F,M,hb,hd⟩,h⟩:=h;refine bK (xh I hg hm ?_ hdb);refine dX (h₀:=X.base) I.ok.mod.kin M.kp (vZ (ha pos p6 s σ H _ I h) λus s1 vs H1 I1 r q=>⟨I1.kIn,?_⟩) he hpl;exact zfo M F hr hb hd passF I1 r q
def tMthN(X:Cx)(k:Nat)(m:Str)(ta:TE)(t:TA):TE:=λσ H Q=>ta σ H λy H1=>∃a C dx fs ps dvs sp,y=.ref a/\H1 a=some (.ins C dx fs)/\fs.lookup m=none /\
 MCal X.prog X.w X.K X.mg X.base C m k ps dvs sp/\t σ H1 λvs H2=>sp (.ref a::(vs++dvs)) H2 Q (λ_ _ _=>False)
def zfF{pl:Sem Bool}(hr:Room k X.A)(he:PE X o ta)(ht:eval (.Call (.Attribute o m apos) [] [] pos) X.env=(do
   let ov <- eval o X.env
   standAt apos.atName
   let(f,first) <- holding [ov] (getMethod ov m pl)
   callWith pos f first (backTo pos (starEach [] X.env)) (backToKw pos (keywordEach [] X.env))):=by rfl) :
  PE X (.Call (.Attribute o m apos) [] [] pos) (tMthN X k m ta tNil):=by
 intro p6 s σ H Q I h;refine eK (pl:=pl) (thn (he p6 s σ H _ I h) λu s1 hz=>?_) ht;let⟨x,H1,I1,rx,a,C,dx,fs,ps,dvs,sp,ex,ea,l,⟨c,f,fd,ds,F,hm,hb,hd⟩,q⟩:=hz;subst ex;obtain rfl:u=Value.ref a:=rx;refine ZB I1 ea c hm l ?_;exact gf (first:=[.ref a]) I1.kIn hm.kp (zfp (us:=[.ref a]) (vs:=[.ref a]) F hr hb hd passF I1 (.cons rfl .nil) q)
end
noncomputable def je(cells:List (Str×Addr)):List (Str×NameKind)->List (Str×Addr)->List (Str×Addr)
 |[],cs=>cs
 |(n,k)::r,cs=>if k=.free then je cells r ((n,(cells.lookup n).getD 0)::cs)else je cells r cs
def zeO(cells:List (Str×Addr))(ns:List (Str×NameKind)):Prop:=∀y∈ns,y.2=.free->∃c,cells.lookup y.1=some c
def Zo{scope:Scope}{env:Env}(h:zeO env.cells scope.names):closureFor scope env=pure (je env.cells scope.names []):=by
 simp only[closureFor];have key:∀(ns:List (Str×NameKind))(cs:List (Str×Addr)),zeO env.cells ns ->
   (forIn ns cs λx r=>if (x.2 == NameKind.free)=true then do let c <- cellOf env x.1;pure (ForInStep.yield ((x.1,c)::r))else pure (ForInStep.yield r):Sem (List (Str×Addr)))=pure (je env.cells ns cs):=by
  intro ns
  induction ns with
  |nil=>intro cs _;rfl
  |cons y r ih =>
   intro cs hc;let⟨n,k⟩:=y;have hr:zeO env.cells r:=λz hz=>hc z (aF _ hz);rw[fN];by_cases hk:k=.free
   .subst hk;let⟨c,e⟩:=hc (n,.free) bt rfl;have e':cellOf env n=pure c:=by unfold cellOf;simp only at e;rw[e]
    simp only[beq_self_eq_true,dC,e',pure_bind];rw[ih _ hr];simp only at e;simp[je,e]
   .have hb:(k == NameKind.free)=false:=by simpa using hk
    simp only[hb,c9,dJ,pure_bind];rw[ih _ hr];simp[je,hk]
 have:=key scope.names [] h
 first
  |exact this
  |(simp only[bind_pure]at *;exact this)
theorem ZE{cells:List (Str×Addr)}{x:Str}{c:Addr}:∀{ns:List (Str×NameKind)}{cs:List (Str×Addr)},zeO cells ns->(∀c,cs.lookup x=some c->cells.lookup x=some c)->(je cells ns cs).lookup x=some c->cells.lookup x=some c
 |[],_,_,hs,h=>hs c h
 |(n,k)::r,cs,hc,hs,h=>by
  have hr:zeO cells r:=λz hz=>hc z (aF _ hz);unfold je at h
  split at h
  .rename_i hk;let⟨d,e⟩:=hc (n,k) bt hk;refine ZE hr (λc' hc'=>?_) h;rw[cF]at hc'
   split at hc'
   .rename_i hx;have hx:x=n:=by simpa using hx
    subst hx;simp only at e;rw[e]at hc' ⊢;exact hc'
   .exact hs c' hc'
  .exact ZE hr hs h
theorem vN{cells:List (Str×Addr)}{x:Str}:∀{ns:List (Str×NameKind)}{cs:List (Str×Addr)},(∃c,cs.lookup x=some c)->∃c,(je cells ns cs).lookup x=some c
 |[],_,h=>h
 |(n,k)::r,cs,h=>by
  unfold je
  split
  .refine vN ?_;rw[cF]
   split
   .exact⟨_,rfl⟩
   .exact h
  .exact vN h
theorem ZD{cells:List (Str×Addr)}{x:Str}:∀{ns:List (Str×NameKind)}{cs:List (Str×Addr)},(x,NameKind.free)∈ns->∃c,(je cells ns cs).lookup x=some c
 |[],_,h=>by simp at h
 |(n,k)::r,cs,h=>by
  unfold je;rcases aC.mp h with h|h
  .cases h;rw[aq rfl];exact vN ⟨(cells.lookup x).getD 0,by rw[cF];simp⟩
  .split<;>exact ZD h
noncomputable def zfu(scope osc:Scope):Scope :=
 {scope with names:=scope.names.map λ(n,k)=>if (k == .free&&osc.kind == .function&&osc.names.lookup n == some .cell)then(n,.cell)else(n,k)}
def zcD{scope osc:Scope}{x:Str}(hcell:∀y∈scope.names,y.2≠.cell)(h:(zfu scope osc).names.lookup x=some .cell\/(zfu scope osc).names.lookup x=some .free):(x,NameKind.free)∈scope.names:=by
 have key:∀k,(k=.cell\/k=.free)->(zfu scope osc).names.lookup x=some k->(x,NameKind.free)∈scope.names:=λk hk hl=>by
  have hm:=bM hl;let⟨⟨n,k'⟩,hm',e⟩:=bb.mp hm;simp only at e
  split at e
  .rename_i hc;simp only[bQ,bL]at hc;cases e;rw[<- hc.1.1];exact hm'
  .cases e;rcases hk with rfl|rfl
   .exact absurd rfl (hcell _ hm')
   .exact hm'
 rcases h with h|h
 .exact key _ (.inl rfl) h
 .exact key _ (.inr rfl) h
noncomputable def cxC(X:Cx)(N:A9)(scope:Scope)(s:An)(H:Hp)(fp:Ac)(p6:A3):Cx where
 prog:=X.prog
 w:=X.w
 K:=X.K
 mg:=X.mg
 base:=X.base
 A:=X.A
 N:=N
 s₀:=s
 H₀:=H
 env:=compEnvC scope (je X.env.cells scope.names []) s.heap.objs.size X.env
 outer:=X.stack
 stack:=X.stack
 ex:=fp
 fn:=λ_=>false
 calm:=X.calm
 pn:=X.pn++p6
 xe:=λ_ _=>False
noncomputable def stC(nv:Nat)(caps:Aj)(σ:St):St:=List.replicate nv none++caps.map λk=>(σ[k]?).getD none
structure CompOk(osc scope:Scope)(ON:A9)(vars:A9)(caps:Aj):Prop where
 kind:scope.kind=.function
 cell:∀y∈scope.names,y.2≠.cell
 loc:∀y∈scope.names,y.2=.local->scope.names.lookup y.1=some .local
 free:∀y∈scope.names,y.2=.free->osc.names.lookup y.1=some .cell\/osc.names.lookup y.1=some .free
 caps:∀k∈caps,k<ON.length/\scope.names.lookup (ON.getD k Str.empty)=some .free
noncomputable def zdU(osc scope:Scope)(ON:A9)(caps:Aj):Bool :=
 scope.kind == .function&&scope.names.all (λy=>y.2 != .cell)&&scope.names.all (λy=>y.2 != .local||scope.names.lookup y.1 == some .local) &&
 scope.names.all (λy=>y.2 != .free||(osc.names.lookup y.1 == some .cell||osc.names.lookup y.1 == some .free))&&caps.all λk=>decide (k<ON.length)&&scope.names.lookup (ON.getD k Str.empty) == some .free
def zbW{osc scope:Scope}{ON vars:A9}{caps:Aj}(h:zdU osc scope ON caps=true):CompOk osc scope ON vars caps:=by
 simp only[zdU,bQ,bI,bL,bne_iff_ne,Bool.or_eq_true,dg]at h;let⟨⟨⟨⟨h1,h2⟩,h3⟩,h4⟩,h5⟩:=h;refine⟨h1,h2,λy hy e=>(h3 y hy).resolve_left (λz=>z e),λy hy e=>(h4 y hy).resolve_left (λz=>z e),λk hk=>h5 k hk⟩
theorem Xw{osc:Scope}{x:Str}:∀{ns:List (Str×NameKind)},ns.lookup x=some .free ->
  (ns.map λ(n,k)=>if (k == NameKind.free&&osc.kind == .function&&osc.names.lookup n == some .cell)then(n,NameKind.cell)else(n,k)).lookup x=some .cell \/
  (ns.map λ(n,k)=>if (k == NameKind.free&&osc.kind == .function&&osc.names.lookup n == some .cell)then(n,NameKind.cell)else(n,k)).lookup x=some .free
 |[],h=>by simp at h
 |(n,k)::r,h=>by
  have ih:=@Xw osc x r;rw[bJ];show List.lookup x ((if (k == NameKind.free&&osc.kind == .function&&osc.names.lookup n == some .cell)=true then(n,NameKind.cell)else(n,k))::_)=_\/List.lookup x ((if (k == NameKind.free&&osc.kind == .function&&osc.names.lookup n == some .cell)=true then(n,NameKind.cell)else(n,k))::_)=_
  cases hx:x == n with
  |true =>
   simp only[cF,hx]at h;cases h
   split
   .exact .inl (by simp[cF,hx])
   .exact .inr (by simp[cF,hx])
  |false =>
   simp only[cF,hx]at h
   split<;>(simp only[cF,hx];exact ih h)
section
variable{X:Cx}{p6:A3}{σ:St}{H:Hp}{s:An}{fp:Ac}{N vars:A9}{caps:Aj}{scope osc:Scope}
theorem zgf(I:Inv X p6 σ H s)(hosc:X.env.scope=osc)(C:CompOk osc scope X.N vars caps)(hN:N=vars++caps.map λk=>X.N.getD k Str.empty)(hf:∀b∈fp,Q0 X p6 H b)(hfo:∀b∈fp,∃o,s.heap.get? b=some o){h':Heap}{tk:Nat}{mm:A5}(hns:h'.Ns s.heap.objs.size mm)(hk:∀b o,s.heap.get? b=some o->h'.get? b=some o) :
  Inv (cxC X N scope s H fp p6) [] (stC vars.length caps σ) H {s with heap:=h',toks:=tk}:=by
 have hkf:∀y∈scope.names,y.2=.free->X.env.kindOf y.1=some .cell\/X.env.kindOf y.1=some .free:=λy hy e=>by
  have z:=C.free y hy e;rw[<- hosc]at z;exact z
 have hcl:zeO X.env.cells scope.names:=λy hy e=>I.ok.has y.1 (hkf y hy e);have get:∀x c,(je X.env.cells scope.names []).lookup x=some c->X.env.cells.lookup x=some c:=λx c h=>ZE hcl (λc h=>by simp at h) h;refine⟨⟨I.ok.mod,C.kind,I.ok.glob,I.ok.blt,ar _,λx y c h1 h2=>I.ok.inj x y c (get x c h1) (get y c h2),λx hx=>ZD (zcD (osc:=X.env.scope) C.cell hx),λ_ _ h _=>Bool.noConfusion h,I.ok.hd,I.ok.frames,.inl rfl,
   λb hb=>⟨?_,λx c h=>(hf b hb).2.2.2.2.1 x c (get x c h)⟩,I.bs,aR I.ok.bsz I.sz,λb o e hb=>?_,λb hb z=>(aC.mp (I.stkSub b z)).elim (hf b hb).2.1 (hf b hb).2.2.1,I.stack,I.stkFree⟩,
  rfl,I.bare,Un.kept hk,⟨_,hns,λi x v e1 e2 e3=>?_⟩,λx c h=>?_,I.hok.fresh (ar _),λx c h=>I.freeC x c (get x c h),λp hp=>?_,I.hok.kept hk,?_⟩
 .obtain⟨o,e⟩:=hfo b hb;exact aQ (aB e)
 .rcases(hf b hb).2.2.2.1 with z|z
  .exact I.ok.noex b o e z
  .exact absurd (aH (aB (I.ok.bs b o e).1) z) (cQ _)
 .have hi:¬i<vars.length:=λhi=>by
   unfold stC at e2;rw[aS (by simpa using hi),fz]at e2
   split at e2<;>cases e2
  have e1':(vars++caps.map λk=>X.N.getD k Str.empty)[i]?=some x:=by rw[<- hN];exact e1
  unfold stC at e2;rw[aM (by simpa using hi),bx,ai]at e2;rw[aM (by lia),ai]at e1';cases ek:caps[i-vars.length]? with
  |none=>rw[ek]at e2;cases e2
  |some k =>
   rw[ek]at e1' e2;let⟨hkl,hlk⟩:=C.caps k (ah ek);have ex:X.N.getD k Str.empty=x:=by simpa using e1'
   have es:σ[k]?.getD none=some v:=by simpa using e2
   have es':σ[k]?=some (some v):=by
    cases q:σ[k]? with
    |none=>rw[q]at es;cases es
    |some z=>rw[q]at es;simp only[bH]at es;rw[es]
   have eN:X.N[k]?=some x:=by
    rw[<- ex,ay,af hkl];rfl
   rw[ex]at hlk;have hm:(x,NameKind.free)∈scope.names:=bM hlk;have hkx:=hkf _ hm rfl;let⟨m,_,hl⟩:=I.loc;let⟨u,r,L⟩:=hl k x v eN es' (hkx.elim (λz=>.inr (.inl z)) λz=>.inr (.inr z));refine⟨u,r,.inr ⟨Xw (osc:=X.env.scope) hlk,?_⟩⟩;let⟨c',ec⟩:=ZD (cells:=X.env.cells) (cs:=[]) hm;rcases L with⟨z,_⟩|⟨_,c,ec2,o,ho,hd⟩
   .rcases hkx with y|y<;>(simp only at y;rw[y]at z;cases z)
   .have z:=get x c' ec;rw[ec2]at z;obtain rfl:c=c':=aT z;exact⟨c,ec,o,hk _ _ ho,hd⟩
 .obtain⟨v,o,ho,hd⟩:=I.cell x c (get x c h);exact⟨v,o,hk _ _ ho,hd⟩
 .have hp':p∈X.pn++p6:=by simpa[cxC]using hp
  let⟨e,n,ne,nf,d⟩:=I.pin p hp';exact⟨hk _ _ e,n,aQ (aB e),λz=>(aC.mp (I.stkSub _ z)).elim ne nf,d⟩
 .show(stC vars.length caps σ).length=N.length
  rw[hN];simp[stC]
def zcW{σ':St}{H':Hp}{s':An}(I:Inv X p6 σ H s)(hf:∀b∈fp,Q0 X p6 H b)(I':Inv (cxC X N scope s H fp p6) [] σ' H' s'):Inv X p6 σ H' s' :=
 I.call' (ch:=fp) I'.os I'.base I'.hok I'.bare λb hb=>⟨(hf b hb).2.2.2.1,(hf b hb).2.1,(hf b hb).2.2.2.2.1,(hf b hb).2.2.2.2.2⟩
end
section
variable{prog:Ag}{w:World}{A:Ao}{R:Result->Shared->Prop}{s:An}
abbrev NoX:Value->Shared->Prop:=λ_ _=>False
theorem zeN{elt target iter:Expr}{ifs:List Expr}{scope:Scope}{pos:Pos}{it ph:Am}{env:Env}(I:Nat->Shared->Prop)(turn:∀n s,I n s->wpAny (model prog w) A (pyNext it) (λr s₁=>match r with
   |none=>R (.ok .next) s₁
   |some v=>wpAny (model prog w) A (letOwnedTupleGo target it v) (λ_ s₁'=>wpAny (model prog w) A (assign target env v) (λ_ s₂ =>
     wpAny (model prog w) A (forIn ifs true λc r=>if r=true then do let ok <- isTrue c env (eval c env);pure (ForInStep.yield ok)else pure (ForInStep.yield r)) (λok s₃ =>
      if ok=true then wpAny (model prog w) A (eval elt env) (λx s₄ =>
       wpAny (model prog w) A (call (.builtin "list.append") [ph,x]) (λ_ s₅=>∃m,m<n/\I m s₅) NoX s₄) NoX s₃
      else ∃m,m<n/\I m s₃) NoX s₂) NoX s₁') NoX s₁) NoX s)(n:Nat)(h:I n s) :
  codeAny (model prog w) A (.compLoop (.ListComp elt [⟨target,iter,ifs,0⟩] scope pos) 0 it ph env) R s:=by
 refine codeAny_loop rfl I (λn s hI=>?_) n h;show wpAny _ A ((compTurn (.ListComp elt [⟨target,iter,ifs,0⟩] scope pos) 0 it ph env).onRaise (λx=>do noteFrame x env;theTreesLotGoes x)) _ _ s
 refine wpAny_noted ?_;rw[compTurn_list];refine ac (gk (ac (aV (turn n s hI) (λr s₁ h₁=>?_) λ_ _ h'=>h'.elim)));cases r with
 |none=>exact aw h₁
 |some v =>
  refine ac (aV h₁ (λ_ s₁' h₁'=>?_) λ_ _ h'=>h'.elim);refine ac (aV h₁' (λ_ s₂ h₂=>ac (aV h₂ (λok s₃ h₃=>?_) λ_ _ h'=>h'.elim)) λ_ _ h'=>h'.elim);cases ok with
  |false=>exact aw ⟨rfl,h₃⟩
  |true =>
   exact ac (ac (aV h₃ (λx s₄ h₄=>ac (aV h₄ (λ_ s₅ h₅=>aw (aw ⟨rfl,h₅⟩)) λ_ _ h'=>h'.elim)) λ_ _ h'=>h'.elim))
end
def zgH(X:Cx)(ifs:List Expr)(t:TT):Prop :=
 ∀(p6:A3)(s:An)(σ:St)(H:Hp)(Q:Bool->Hp->Prop),Inv X p6 σ H s->t σ H Q ->
  wpAny (model X.prog X.w) X.A (forIn ifs true λc r=>if r=true then do let ok <- isTrue c X.env (eval c X.env);pure (ForInStep.yield ok)else pure (ForInStep.yield r)) (TP X p6 σ Q) X.xe s
def tYes:TT:=λ_ H Q=>Q true H
def z8{X:Cx}:zgH X [] tYes:=λ_ _ _ H _ I h=>wpAny_tests_nil ⟨H,I,h⟩
def zaf{X:Cx}{c:Expr}{t:TT}(h:PT X c t):zgH X [c] t:=λp6 s σ H Q I hw=>wpAny_tests_one (h p6 s σ H Q I hw)
abbrev CB(α:Type):=Shared->Hp->List Addr->List (Addr×Obj)->α
def tLc(wi:TI)(nv:Nat)(caps:Aj)(g:CB TG)(tt:CB TT)(te:CB TE):TE:=λσ H Q=>wi σ H λJ H1=>∀(s3:An)(H3:Hp)(fp:Ac)(pns:A3) ph,H1 ph=none ->
 ∃W:Nat->Nat->St->Hp->Prop,(∃m,W 0 m (stC nv caps σ) (upd H1 ph (.lst [])))/\∀i m σ' H',W i m σ' H' ->
  (J.stop i H'/\Q (.ref ph) H')\/(J.go i H'/\∃N:St->Hp->Prop,(∀σ'' H'',N σ'' H''->∃m',m'<m/\W (i+1) m' σ'' H'')/\∀x H'',J.yld i H' x H''->g s3 H3 fp pns x σ' H'' λσ2 H2=>tt s3 H3 fp pns σ2 H2 λb H5 =>
   if b=true then te s3 H3 fp pns σ2 H5 λy H4=>∃ys,H4 ph=some (.lst ys)/\ys.length<sizeLine/\N σ2 (upd H4 ph (.lst (ys++[y])))else N σ2 H5)
section
variable{X:Cx}{elt target iter:Expr}{ifs:List Expr}{scope osc:Scope}{pos:Pos}{wi:TI}{g:CB TG}{tt:CB TT}{te:CB TE}{N vars:A9}{caps:Aj}
theorem X8{p6:A3}{σ:St}{H2:Hp}{s2:An}{it:Addr}{fp:Ac}{tn:Nat->Heap->Prop}{J:It}{Q:VK}{RR:Value->Addr->Result->Shared->Prop}{E:A4}(hosc:X.env.scope=osc)(C:CompOk osc scope X.N vars caps)(hN:N=vars++caps.map λk=>X.N.getD k Str.empty)(hc:X.calm=true)(hg:∀s H fp p6,PG (cxC X N scope s H fp p6) target (g s H fp p6))(ht:∀s H fp p6,zgH (cxC X N scope s H fp p6) ifs (tt s H fp p6))(he:∀s H fp p6,PE (cxC X N scope s H fp p6) elt (te s H fp p6))(I2:Inv X p6 σ H2 s2)(T:Turn X.prog X.w X.K target J fp it tn)(st2:tn 0 s2.heap)(hf:∀b∈fp,Q0 X p6 H2 b)(h:∀(s3:An)(H3:Hp)(fp:Ac)(pns:A3) ph,H2 ph=none->∃W:Nat->Nat->St->Hp->Prop,(∃m,W 0 m (stC vars.length caps σ) (upd H2 ph (.lst [])))/\∀i m σ' H',W i m σ' H' ->
   (J.stop i H'/\Q (.ref ph) H')\/(J.go i H'/\∃N:St->Hp->Prop,(∀σ'' H'',N σ'' H''->∃m',m'<m/\W (i+1) m' σ'' H'')/\∀x H'',J.yld i H' x H''->g s3 H3 fp pns x σ' H'' λσ2 H2=>tt s3 H3 fp pns σ2 H2 λb H5 =>
    if b=true then te s3 H3 fp pns σ2 H5 λy H4=>∃ys,H4 ph=some (.lst ys)/\ys.length<sizeLine/\N σ2 (upd H4 ph (.lst (ys++[y])))else N σ2 H5))(hRR:∀ph C s' H' m,Inv X p6 σ H' s'->Q (.ref ph) H'->s'.heap.Ns C m->H' C=none->C≠X.env.locals->X.s₀.heap.objs.size<=C->(∀x c,X.env.cells.lookup x=some c->c≠C)->(∀p∈X.pn++p6,p.1≠C)->RR (.ref ph) C (.ok .next) s') :
  wpAny (model X.prog X.w) X.A (newList []) (λph s₃=>wpAny (model X.prog X.w) X.A (newFunctionEnv scope X.env.globals (je X.env.cells scope.names []) [] X.env.qual none .none (some X.env)) (λcenv s₄ =>
   codeAny (model X.prog X.w) X.A (.compStart (.ListComp elt [⟨target,iter,ifs,0⟩] scope pos) 0 (.ref it) ph {cenv with scope:=relabel scope X.env}) (RR ph cenv.locals) s₄) E s₃) E s2:=by
 refine bO (wpAny_newFunctionEnv C.cell (by intro y hy;simp at hy) (λh₁ hns₁ hsb₁=>?_) C.kind);let⟨W,⟨m0,w0⟩,turn⟩:=h {s2 with heap:=s2.heap.push {cls:=.type "list",dict:=none,data:=.seq ([]:A8).toArray} } (upd H2 s2.heap.objs.size (.lst [])) fp p6 s2.heap.objs.size I2.fresh;have I3:Inv X p6 σ (upd H2 s2.heap.objs.size (.lst [])) {s2 with heap:=s2.heap.push {cls:=.type "list",dict:=none,data:=.seq ([]:A8).toArray} }:=I2.lnew (pf:=[]) (t':=s2.toks) .nil (by decide);dsimp only at hns₁ hsb₁ ⊢;have hfo:∀b∈fp,∃o,s2.heap.get? b=some o:=λb hb=>let⟨o,e,_⟩:=T.obj _ _ st2 b hb;⟨o,e⟩
 have hf3:∀b∈fp,Q0 X p6 (upd H2 s2.heap.objs.size (.lst [])) b:=λb hb=>by
  refine⟨?_,(hf b hb).2⟩;let⟨o,e⟩:=hfo b hb;rw[pF (aQ (aB e))];exact(hf b hb).1
 generalize hs3:({s2 with heap:=s2.heap.push {cls:=.type "list",dict:=none,data:=.seq ([]:A8).toArray} }:An)=s3 at I3 turn;have eh:s2.heap.push {cls:=.type "list",dict:=none,data:=.seq ([]:A8).toArray}=s3.heap:=by rw[<- hs3]
 have old:∀b o,s2.heap.get? b=some o->s3.heap.get? b=some o:=λb o e=>by rw[<- eh];exact aj _ e
 rw[eh]at hns₁ hsb₁ ⊢;have es:({s2 with heap:=h₁,toks:=s2.toks+([]:List (Str×Value)).length}:An)={s3 with heap:=h₁,toks:=s2.toks}:=by rw[<- hs3];rfl
 rw[es];generalize hH3:upd H2 s2.heap.objs.size (.lst [])=H3 at *;have hk:∀b o,s3.heap.get? b=some o->h₁.get? b=some o:=λb o e=>hsb₁.extBut b o (aQ (aB e)) (aj _ e);have I4:Inv (cxC X N scope s3 H3 fp p6) [] (stC vars.length caps σ) H3 {s3 with heap:=h₁,toks:=s2.toks}:=zgf I3 hosc C hN hf3 (λb hb=>let⟨o,e⟩:=hfo b hb;⟨o,old b o e⟩) hns₁ hk;have st4:tn 0 h₁:=T.keep _ _ _ st2 λb hb o e=>hk b o (old b o e);have stat:∀{H':Hp},(∀b∈fp,H' b=none)->∀b∈fp,Q0 (cxC X N scope s3 H3 fp p6) [] H' b:=λhn b hb =>
  ⟨hn b hb,(I4.ok.exf b hb).1,I4.ok.exfs b hb,.inl hb,(I4.ok.exf b hb).2,λp hp=>(hf b hb).2.2.2.2.2 p (by simpa[cxC]using hp)⟩
 have loop:∀s4:Shared,s4={s3 with heap:=h₁,toks:=s2.toks} ->
   codeAny (model X.prog X.w) X.A (.compLoop (.ListComp elt [⟨target,iter,ifs,0⟩] scope pos) 0 (.ref it) (.ref s2.heap.objs.size) (cxC X N scope s3 H3 fp p6).env) (RR (.ref s2.heap.objs.size) s3.heap.objs.size) s4:=by
  rintro s4 rfl;refine zeN (λn s'=>∃i σ' H',Inv (cxC X N scope s3 H3 fp p6) [] σ' H' s'/\tn i s'.heap/\(∀b∈fp,H' b=none)/\W i n σ' H') ?_ m0 ⟨0,_,H3,I4,st4,λb hb=>(hf3 b hb).1,w0⟩;rintro n s5 ⟨i,σ5,H5,I5,st5,fr5,w5⟩;rcases turn i n σ5 H5 w5 with⟨stop,qn⟩|⟨go,NN,hNN,step⟩
  .refine thn (T.done (cxC X N scope s3 H3 fp p6) rfl rfl rfl hc i [] s5 σ5 H5 NoX I5 (stat fr5) st5 stop) λr s6 ⟨hr,I6⟩=>?_;subst hr;let⟨m,hn,_⟩:=I6.loc;have hlt:∀b o,s3.heap.get? b=some o->b≠s3.heap.objs.size:=λb o e=>aQ (aB e);let⟨m3,⟨oL,_,_,hoL,_⟩,_⟩:=I3.loc;refine hRR _ _ s6 H5 m (zcW I3 hf3 I6) qn hn I6.free (λz=>hlt _ _ hoL z.symm) I3.sz (λx c ec z=>?_) λp hp z=>hlt _ _ (I3.pin p hp).1 z;let⟨v,o,ho,_⟩:=I3.cell x c ec;exact hlt _ _ ho z
  .refine thn (T.item (cxC X N scope s3 H3 fp p6) rfl rfl rfl hc i [] s5 σ5 H5 NoX I5 (stat fr5) st5 go) λr s6 ⟨u,hr,h6⟩=>?_;subst hr;refine thn h6 λ_ s7 ⟨x,H7,I7,r7,y7,st7,fr7⟩=>?_;have I7':=I7.pinned (stat fr7) (T.obj _ _ st7);have again:∀{σ8:St}{H8:Hp}{s8:An},Inv (cxC X N scope s3 H3 fp p6) ([]++XA fp s7.heap) σ8 H8 s8->NN σ8 H8->∃m,m<n/\∃i σ' H',Inv (cxC X N scope s3 H3 fp p6) [] σ' H' s8/\tn i s8.heap/\(∀b∈fp,H' b=none)/\W i m σ' H':=λ{σ8 H8 s8} I8 n8=>by
    let⟨m',hm,w8⟩:=hNN σ8 H8 n8;refine⟨m',hm,i+1,σ8,H8,I8.unpinned,T.keep _ _ _ st7 λb hb o e=>(I8.pin (b,o) (aX _ (aX _ (wH hb e)))).1,λb hb=>?_,w8⟩;let⟨o,e,d⟩:=T.obj _ _ st7 b hb;exact(I8.pin (b,o) (aX _ (aX _ (wH hb e)))).2.1
   refine thn (hg s3 H3 fp p6 _ s7 σ5 H7 x u _ I7' r7 (step x H7 y7)) λ_ s8 ⟨σ8,H8,I8,q8⟩=>?_;refine thn (ht s3 H3 fp p6 _ s8 σ8 H8 _ I8 q8) λb s9 ⟨H9,I9,q9⟩=>?_;cases b with
   |false=>exact again I9 q9
   |true =>
    refine qL (he s3 H3 fp p6 _ s9 σ8 H9 _ I9 q9) λv s10 y H10 I10 r10 qq_=>?_;let⟨ys,ea,hz,q10⟩:=qq_;refine thn (zS (X:=cxC X N scope s3 H3 fp p6) _ s10 σ8 H10 (.ref s2.heap.objs.size) [y] (.ref s2.heap.objs.size) [v] (λ_ H'=>NN σ8 H') I10 rfl (.cons r10 .nil) ⟨_,ys,y,rfl,rfl,ea,hz,q10⟩) λ_ s11 ⟨_,H11,I11,_,q11⟩=>?_;exact again I11 q11
 exact codeAny_compStart_list (loop _ rfl) (T.self X.A 0 _ _ _ st4 (loop _ rfl))
def jk{ON:A9}(hosc:X.env.scope=osc)(hON:X.N=ON)(hB:zdU osc scope ON caps=true)(hN:N=vars++caps.map λk=>ON.getD k Str.empty)(hc:X.calm=true)(hi:PI X target iter wi)(hg:∀s H fp p6,PG (cxC X N scope s H fp p6) target (g s H fp p6))(ht:∀s H fp p6,zgH (cxC X N scope s H fp p6) ifs (tt s H fp p6))(he:∀s H fp p6,PE (cxC X N scope s H fp p6) elt (te s H fp p6))(hs:∀x,foldedSetIterable iter X.env x=pure x:=by intro _;rfl):PE X (.ListComp elt [⟨target,iter,ifs,0⟩] scope pos) (tLc wi vars.length caps g tt te):=by
 subst hON;intro p6 s σ H Q I h;have C:CompOk osc scope X.N vars caps:=zbW hB;have hclos:closureFor scope X.env=pure (je X.env.cells scope.names []):=Zo λy hy e=>I.ok.has y.1 (by have z:=C.free y hy e;rw[<- hosc]at z;exact z);rw[eval_ListComp];refine gu (use:=none) rfl hs hclos C.kind C.loc (thn (hi p6 s σ H _ I h) λv s1 h1=>thn h1 λitv s2 h2=>?_);let⟨it,fp,tn,J,H2,e,I2,T,st2,f2,hw⟩:=h2;subst e;refine X8 (N:=N) (RR:=λph Cc=>compPost (model X.prog X.w) X.A X.xe none (EP X p6 σ Q) ph Cc) hosc C hN hc hg ht he I2 T st2 f2 hw λph Cc s' H' m I' q hn hC hL hsz hcc hpp=>?_;refine⟨m,hn,λh' hs'=>⟨.ref ph,H',?_,rfl,q⟩⟩;exact I'.turned (t':=s'.toks) (it:=Cc) (λb o hb e=>(hs'.2 b hb).trans e) hC (λz=>hL z) (.inr hsz) hcc hpp
def Z7{ON:A9}{i:Nat}{x:Str}{pos' spos:Pos}(hNd:X.N.Nodup)(hix:X.N[i]?=some x)(hx:Loc X.env.scope x)(hosc:X.env.scope=osc)(hON:X.N=ON)(hB:zdU osc scope ON caps=true)(hN:N=vars++caps.map λk=>ON.getD k Str.empty)(hc:X.calm=true)(hi:PI X target iter wi)(hg:∀s H fp p6,PG (cxC X N scope s H fp p6) target (g s H fp p6))(ht:∀s H fp p6,zgH (cxC X N scope s H fp p6) ifs (tt s H fp p6))(he:∀s H fp p6,PE (cxC X N scope s H fp p6) elt (te s H fp p6))(hsw:swapsWith (.ListComp elt [⟨target,iter,ifs,0⟩] scope pos) (some (.Name x pos')) spos.line X.env=pure true:=by rfl)(hf:X.fn x=true\/X.env.scope.names.lookup x=some .local:=by walk_at"p")(hs:∀x,foldedSetIterable iter X.env x=pure x:=by intro _;rfl):PS X (.Assign [.Name x pos'] (.ListComp elt [⟨target,iter,ifs,0⟩] scope pos) spos) (tAsg (tLc wi vars.length caps g tt te) (gName i)):=by
 subst hON;intro p6 s σ H D I h;have C:CompOk osc scope X.N vars caps:=zbW hB;have hclos:closureFor scope X.env=pure (je X.env.cells scope.names []):=Zo λy hy e=>I.ok.has y.1 (by have z:=C.free y hy e;rw[<- hosc]at z;exact z);rw[exec_Assign_Name_used _ _ _ _ hsw];refine ac (gk (ac ?_));show wpAny _ X.A (do let _ <- comprehension (.ListComp elt [⟨target,iter,ifs,0⟩] scope pos) scope X.env _ (newList []) false (eval iter X.env) (some (assign (.Name x pos') X.env))) _ _ s
 refine ac (aV (gu (use:=some (assign (.Name x pos') X.env)) (Q:=λ_ s'=>SP X p6 D .next s') rfl hs hclos C.kind C.loc (thn (hi p6 s σ H _ I h) λv s1 h1=>thn h1 λitv s2 h2=>?_)) (λ_ s' hq=>aw (aw hq)) λ_ _ e=>e);let⟨it,fp,tn,J,H2,e,I2,T,st2,f2,hw⟩:=h2;subst e;refine X8 (N:=N) (Q:=λv H1=>gName i v σ H1 D.nx) (RR:=λph Cc=>compPost (model X.prog X.w) X.A X.xe (some (assign (.Name x pos') X.env)) (λ_ s'=>SP X p6 D .next s') ph Cc) hosc C hN hc hg ht he I2 T st2 f2 hw λph Cc s' H' m I' q hn hC hL hsz hcc hpp=>?_;refine wpAny_assign_Name (WR I' hNd hix hx (v:=.ref ph) rfl (λs3 I3 ⟨a,sb,ha⟩=>?_) hf);have hne:Cc≠a:=λz=>by
  rcases ha with e|e
  .exact hL (z.trans e)
  .exact hcc x a e z.symm
 refine⟨m,hn.sameBut sb hne,λh' hs'=>⟨_,H',?_,q⟩⟩;exact I3.turned (t':=s3.toks) (it:=Cc) (λb o hb e=>(hs'.2 b hb).trans e) hC (λz=>hL z) (.inr hsz) hcc hpp
end
variable{b:Bool}{Q:A4}{i:Nat}{X:Cx}
section
variable{X:Cx}{p6:A3}{σ:St}{H:Hp}{s:An}{h':Heap}{ch:Ac}
def Inv.turnNew{T:Addr}{o:HO}{t':Nat}(I:Inv X p6 σ H s)(hch:∀b∈ch,Q0 X p6 H b)(hT:s.heap.objs.size<=T)(keep:∀b o,b∉ch->s.heap.get? b=some o->h'.get? b=some o)(new:ObjOk X.prog X.w (upd H T o) h' T o):Inv X p6 σ (upd H T o) {s with heap:=h',toks:=t'}:=by
 have hn:H T=none:=I.hok.fresh hT;have lt:∀b u,s.heap.get? b=some u->b≠T:=λb u e=>aQ (aH (aB e) hT);have nch:∀b u,H b=some u->b∉ch:=λb u e z=>by rw[(hch b z).1]at e;cases e
 refine I.step (g':=s.gens) (d':=s.drawn) (ch:=ch) (λb hb=>⟨(hch b hb).2.2.2.1,(hch b hb).2.1,(hch b hb).2.2.2.2.1,(hch b hb).2.2.2.2.2⟩) (λb o _ _ hc e _=>keep b o hc e) (λb o _ _ hc e _=>⟨o.slots,keep b o hc e⟩)
  (λb o _ e n=>by rw[pF (lt b o e)];exact n) (λb o hc e=>⟨o,keep b o hc e⟩) (λb xs e=>by rw[pF (pG e hn)];exact e) (λb o u e=>by rw[pF (pG e hn)];exact e)
  (λb ps e=>⟨#[],by rw[pF (pG e hn),e];simp⟩) (λm hm=>?_) (λb u e=>?_) I.bare
 .obtain⟨o,es,ep,ho,r⟩:=hm;exact⟨o,es,ep,keep _ o (λz=>(hch _ z).2.1 rfl) ho,r⟩
 .by_cases hb:b=T
  .subst hb;rw[pE]at e;cases e;exact new
  .rw[pF hb]at e;refine(I.hok b u e).stay (λc v hc q=>keep c v ?_ q) (λc q=>by rw[pF (pG q hn)];exact q) λc xs q=>by rw[pF (pG q hn)];exact q
   rcases hc with z|z
   .rw[z];exact nch b u e
   .exact nch c _ z
def Inv.turnL{t':Nat}(I:Inv X p6 σ H s)(hch:∀b∈ch,Q0 X p6 H b)(keep:∀b o,b∉ch->s.heap.get? b=some o->h'.get? b=some o):Inv X p6 σ H {s with heap:=h',toks:=t'}:=by
 have nch:∀b u,H b=some u->b∉ch:=λb u e z=>by rw[(hch b z).1]at e;cases e
 refine I.step (g':=s.gens) (d':=s.drawn) (ch:=ch) (λb hb=>⟨(hch b hb).2.2.2.1,(hch b hb).2.1,(hch b hb).2.2.2.2.1,(hch b hb).2.2.2.2.2⟩) (λb o _ _ hc e _=>keep b o hc e) (λb o _ _ hc e _=>⟨o.slots,keep b o hc e⟩)
  (λ_ _ _ _ n=>n) (λb o hc e=>⟨o,keep b o hc e⟩) (λ_ _ e=>e) (λ_ _ _ e=>e) (λb ps e=>⟨#[],by rw[e];simp⟩) (λm hm=>?_) (λb u e=>?_) I.bare
 .obtain⟨o,es,ep,ho,r⟩:=hm;exact⟨o,es,ep,keep _ o (λz=>(hch _ z).2.1 rfl) ho,r⟩
 .refine(I.hok b u e).stay (λc v hc q=>keep c v ?_ q) (λ_ q=>q) λ_ _ q=>q;rcases hc with z|z
  .rw[z];exact nch b u e
  .exact nch c _ z
end
noncomputable def Ite(K:A0)(a:Addr):It :=
 ⟨λi H=>∃xs x,SqL K H a xs/\xs[i]?=some x,λi H v H'=>∃t x,H t=none/\v=.ref t/\(∀xs,SqL K H a xs->xs[i]?=some x)/\H'=upd H t (.tup [.int i,x]),λi H=>∃xs,SqL K H a xs/\xs.length<=i⟩
def zd7{P:Ag}{w:World}{K:A0}{elts:List Expr}{x1}{pos:Pos}(a e it:Addr)(hne:e≠it) :
  Turn P w K (.Tuple elts x1 pos) (Ite K a) [e,it] e (λi h=>(∃old,IsEnum h e it i old)/\h.IsListIter it a i) where
 mem:=by simp
 obj:=λi h st b hb=>by
  let⟨⟨old,he⟩,o,ho,c,d⟩:=st;rcases aC.mp hb with rfl|hb
  .exact⟨_,he,λv z=>by cases z⟩
  .obtain rfl:b=it:=by simpa using hb
   exact⟨o,ho,λv z=>by rw[d]at z;cases z⟩
 keep:=λi h h' st k=>by
  let⟨⟨old,he⟩,hi⟩:=st;exact⟨⟨old,k e (by simp) _ he⟩,hi.at λo z=>k it (by simp) o z⟩
 item:=by
  intro X hP hw hK hc i p6 s σ H E I hf st hg;subst hP hw hK;let⟨⟨old,he⟩,hi⟩:=st;let⟨xs,x,hq,hx⟩:=hg;let⟨pf,rv,p,hz⟩:=I.list hq;let⟨u,hu,ru⟩:=rv.get hx;refine wpAny_pyNext_enum_item he hi p.isList (x:=u) (by simpa using hu) hne λh' he' hi' hT hsz hk=>?_;refine⟨_,rfl,?_⟩;have I1:Inv X p6 σ (upd H s.heap.objs.size (.tup [.int i,x])) {s with heap:=h',toks:=s.toks+1}:=I.turnNew hf (ar _) (λb o hb q=>hk b o (λz=>hb (by simp[z])) (λz=>hb (by simp[z])) q)
   ⟨by show 2<=sizeLine;decide,[.int i s.toks,u],.cons ⟨_,rfl⟩ (.cons ru .nil),⟨_,hT,rfl,_,rfl⟩⟩
  have hn:H s.heap.objs.size=none:=I.hok.fresh (ar _);have ne:∀b∈[e,it],b≠s.heap.objs.size:=λb hb=>by
   rcases aC.mp hb with rfl|hb
   .exact aQ (aB he)
   .obtain rfl:b=it:=by simpa using hb
    let⟨o,ho,_⟩:=hi;exact aQ (aB ho)
  have fr:∀b∈[e,it],(upd H s.heap.objs.size (.tup [.int i,x])) b=none:=λb hb=>by rw[pF (ne b hb)];exact(hf b hb).1
  refine wpAny_letOwnedTupleGo_enum he' λh'' he'' hs''=>?_;refine⟨.ref s.heap.objs.size,_,I1.turnL (t':=s.toks+1) (ch:=[e]) (λb hb=>?_) (λb o hb q=>(hs''.2 b (λz=>hb (by simp[z]))).trans q),rfl,
   ⟨s.heap.objs.size,x,hn,rfl,λys hy=>by rw[I.list_inj hy hq];exact hx,rfl⟩,⟨⟨u,?_⟩,hi'.extBut hs''.extBut (ba hne)⟩,fr⟩
  .obtain rfl:b=e:=by simpa using hb
   exact⟨fr b (by simp),(hf b (by simp)).2⟩
  .exact he''
 done:=by
  intro X hP hw hK hc i p6 s σ H E I hf st hg;subst hP hw hK;let⟨⟨old,he⟩,hi⟩:=st;let⟨xs,hq,hx⟩:=hg;let⟨pf,rv,p,hz⟩:=I.list hq;have hl:=rv.length;exact wpAny_pyNext_enum_end (I.ok.hd hc) he hi p.isList (by simp;lia) λh' eb=>⟨rfl,I.turnL (t':=s.toks) hf λb o hb q=>eb b o (λz=>hb (by simp[z])) q⟩
 self:=λ_ _ _ _ _ st h=>by
  let⟨⟨old,he⟩,_⟩:=st;exact wpAny_pyIter_enum he h
def zaQ:bootBuiltins "enumerate"=some (.type "enumerate"):=by decide+kernel
def zi1:bootBuiltins "zip"=some (.type "zip"):=by decide+kernel
def iEnum(X:Cx)(ta:TA):TI:=λσ H R=>X.mg "enumerate"=none/\ta σ H λvs H1=>∃a xs,vs=[.ref a]/\H1 a=some (.lst xs)/\R (Ite X.K a) H1
def jh{a:Expr}{elts:List Expr}{x1}{tp p pos:Pos}{ta:TA}(ha:PA X [a] ta)(hg:Gl X "enumerate":=by rfl)(hs:starEach [a] X.env=(false,eval a X.env)::starEach [] X.env:=by rfl)(hpl:(backTo pos (starEach [] X.env)).any (·.1)=false:=by rfl) :
  PI X (.Tuple elts x1 tp) (.Call (.Name "enumerate" p) [a] [] pos) (iEnum X ta):=by
 intro p6 s σ H R I h;refine bK (vI I hg h.1 zaQ ?_);refine bA (vZ (ha pos p6 s σ H _ I h.2) λus s1 vs H1 I1 r1 q1=>?_) hs hpl;let⟨l,xs,rfl,hq,hR⟩:=q1;let⟨u,rfl,rx⟩:=JV r1;cases rx;let⟨hz,pf,n,rv,hl,e⟩:=I1.lstM hq;refine call_enumerate_1 e λh' he hi hsz hk=>wpAny_pyIter_enum he ?_;refine⟨s1.heap.objs.size+1,[s1.heap.objs.size+1,s1.heap.objs.size],_,_,H1,rfl,I1.kept (t':=s1.toks) hk,zd7 l _ _ (Nat.succ_ne_self _),⟨⟨_,he⟩,hi⟩,λb hb=>?_,hR⟩;rcases aC.mp hb with rfl|hb
 .exact I1.fpOk (cS _) (I1.hok.fresh (cS _))
 .obtain rfl:b=s1.heap.objs.size:=by simpa using hb
  exact I1.fpOk (ar _) (I1.hok.fresh (ar _))
def ItAt(b:Bool)(h:Heap)(it a:Addr)(i:Nat):Prop:=if b=true then h.IsListIter it a i else h.IsTupleIter it a i
def SqAt(b:Bool)(h:Heap)(a:Addr)(items:Ae):Prop:=if b=true then h.IsList a items else h.IsTuple a items
noncomputable def QW(b:Bool):String:=if b=true then"list_iterator" else"tuple_iterator"
def ItAt.at'{h h':Heap}{it a:Addr}(x:ItAt b h it a i)(hk:∀o,h.get? it=some o->h'.get? it=some o):ItAt b h' it a i:=by
 cases b<;>exact let⟨o,ho,r⟩:=x;⟨o,hk o ho,r⟩
def ItAt.obj{h:Heap}{it a:Addr}(x:ItAt b h it a i):∃o,h.get? it=some o/\∀v,o.data≠.cell v:=by
 cases b<;>exact let⟨o,ho,_,hd⟩:=x;⟨o,ho,λv z=>by rw[hd]at z;cases z⟩
def SqAt.at'{h h':Heap}{a:Addr}{items:Ae}(x:SqAt b h a items)(hk:∀o,h.get? a=some o->h'.get? a=some o):SqAt b h' a items:=by
 cases b<;>exact let⟨o,ho,r⟩:=x;⟨o,hk o ho,r⟩
section
variable{prog:Ag}{w:World}{A:Ao}{E:A4}{s:An}
def Qb{it t:Addr}{items}{x:Am}(hit:s.heap.IsTupleIter it t i)(ht:s.heap.IsTuple t items)(hx:items[i]?=some x)(hQ:∀h',h'.IsTupleIter it t (i+1)->Heap.SameBut it s.heap h'->Q x {s with heap:=h'}):wpAny (model prog w) A (Builtin.SmallTypes.nextOf (.ref it)) Q E s:=by
 let⟨o,ho,hc,hd⟩:=id hit;let⟨ol,hol,_,nl,hdl⟩:=ht;unfold Builtin.SmallTypes.nextOf;refine ac (cf (name:=Str.ofString "__next__") hit.typeIs cv
  (cX cv hit.typeIs fR ?_ (fG _)))
 show wpAny _ _ (field (.ref it) 0 >>= _) _ _ s
 refine ac (be ho hd (x:=.ref t) rfl ?_);show wpAny _ _ (if (Value.ref t == Value.none)=true then _ else _) _ _ s
 rw[ao (show ¬((Value.ref t == Value.none)=true)from aD)];show wpAny _ _ (field (.ref it) 1 >>= _) _ _ s
 refine ac (be ho hd (x:=.int i 0) rfl ?_);show wpAny _ _ (seqItems? (.ref t) >>= _) _ _ s
 refine ac (bU hol hdl ?_);simp only[aK,hx];refine ac (di ho hd (by simp) (aw ⟨x,rfl,aw (hQ _ ?_ (Heap.SameBut.update ..))⟩));exact⟨_,bY _ ho (cn (bB hd _)),(Obj.cls_mapFields ..).trans hc,by
  rw[bB hd];simp[rawInt]⟩
def QU{it t:Addr}{items}(hh:A.handled=none)(hit:s.heap.IsTupleIter it t i)(ht:s.heap.IsTuple t items)(hx:items[i]?=none)(hE:∀h' e,Heap.ExtBut it s.heap h'->(∃o,h'.get? e=some o/\o.cls=.type "StopIteration")->E (.ref e) {s with heap:=h'}) :
  wpAny (model prog w) A (Builtin.SmallTypes.nextOf (.ref it)) Q E s:=by
 let⟨o,ho,hc,hd⟩:=id hit;let⟨ol,hol,_,nl,hdl⟩:=ht;unfold Builtin.SmallTypes.nextOf;refine ac (cf (name:=Str.ofString "__next__") hit.typeIs cv
  (cX cv hit.typeIs fR ?_ (fG _)))
 show wpAny _ _ (field (.ref it) 0 >>= _) _ _ s
 refine ac (be ho hd (x:=.ref t) rfl ?_);show wpAny _ _ (if (Value.ref t == Value.none)=true then _ else _) _ _ s
 rw[ao (show ¬((Value.ref t == Value.none)=true)from aD)];show wpAny _ _ (field (.ref it) 1 >>= _) _ _ s
 refine ac (be ho hd (x:=.int i 0) rfl ?_);show wpAny _ _ (seqItems? (.ref t) >>= _) _ _ s
 refine ac (bU hol hdl ?_);simp only[aK,hx];refine ac (wpAny_rule (ac (di ho hd (by simp) ?_)));show wpAny _ _ (newExc (.type "StopIteration") [] >>= _) _ _ _
 refine ac ?_;simp only[newExc,newTuple];refine ac (bO ?_ (by size_fits));refine ac (m:=firstArgMember _ _) (wpAny_of_eq (a:=Value.none) (by first|rfl|(simp only[firstArgMember];rfl)) ?_);refine bO ?_ (by size_fits);simp only[raiseNew];refine ac (wpAny_handled ?_)
 first|rw[show A.in1.handled=none from hh] | rw[hh]
 refine ac (aw (wpAny_throw ?_));exact hE _ _ (((Heap.SameBut.update ..).extBut.push _).push _) ⟨_,aI _ rfl,rfl⟩
def vB{it t:Addr}{items}{x:Am}(hit:ItAt b s.heap it t i)(ht:SqAt b s.heap t items)(hx:items[i]?=some x)(hQ:∀h',ItAt b h' it t (i+1)->Heap.SameBut it s.heap h'->Q x {s with heap:=h'}):wpAny (model prog w) A (Builtin.SmallTypes.nextOf (.ref it)) Q E s:=by
 cases b
 .exact Qb hit ht hx hQ
 .exact wpAny_nextOf_list_item hit ht hx hQ
def XN{it t:Addr}{items}(hh:A.handled=none)(hit:ItAt b s.heap it t i)(ht:SqAt b s.heap t items)(hx:items[i]?=none)(hE:∀h' e,Heap.ExtBut it s.heap h'->(∃o,h'.get? e=some o/\o.cls=.type "StopIteration")->E (.ref e) {s with heap:=h'}) :
  wpAny (model prog w) A (Builtin.SmallTypes.nextOf (.ref it)) Q E s:=by
 cases b
 .exact QU hh hit ht hx hE
 .exact wpAny_nextOf_list_end hh hit ht hx hE
def Vb{t:Addr}{items}(ht:SqAt b s.heap t items)(hQ:Q (.ref s.heap.objs.size) {s with heap:=s.heap.push {cls:=.type (QW b),data:=.fields #[.ref t,.int 0 0]} }):wpAny (model prog w) A (pyIter (.ref t)) Q E s:=by
 cases b
 .exact wpAny_pyIter_tuple ht hQ
 .exact wpAny_pyIter_list ht hQ
def zeX{b1 b2:Bool}{z TI TO i1 i2 l1 l2:Addr}{k1 k2:Nat}{xs ys:Ae}{x y a b:Am}(D:ZipApart z TI TO i1 i2 l1 l2)(hz:IsZip s.heap z TI TO .none)(hTI:IsPair s.heap TI (.ref i1) (.ref i2))(hTO:IsPair s.heap TO a b)(h1:ItAt b1 s.heap i1 l1 k1)(h2:ItAt b2 s.heap i2 l2 k2)(hl1:SqAt b1 s.heap l1 xs)(hl2:SqAt b2 s.heap l2 ys)(hx:xs[k1]?=some x)(hy:ys[k2]?=some y)(hQ:∀h',IsZip h' z TI TO (rawInt s.heap.objs.size)->IsPair h' TO x y->ItAt b1 h' i1 l1 (k1+1)->ItAt b2 h' i2 l2 (k2+1)->IsPair h' s.heap.objs.size x y->h'.objs.size=s.heap.objs.size+1 ->
   (∀c o,c≠z->c≠TO->c≠i1->c≠i2->s.heap.get? c=some o->h'.get? c=some o)->Q (.ref s.heap.objs.size) {s with heap:=h'}) :
  wpAny (model prog w) A (Builtin.«zip.__next__» ⟨[.ref z],[]⟩) (λfin s'=>∃v,fin=.done (.ret v)/\Q v s') E s:=by
 show wpAny _ _ (field (.ref z) 2 >>= _) _ _ _
 refine ac (be hz rfl (x:=.bool false) rfl ?_);show wpAny _ _ (field (.ref z) 3 >>= _) _ _ _
 refine ac (be hz rfl (x:=.ref TI) rfl ?_);refine ac (bU hTI rfl ?_);show wpAny _ _ (Builtin.SmallTypes.ownedTupleIsFree (.ref z) >>= _) _ _ _
 refine ac ?_;unfold Builtin.SmallTypes.ownedTupleIsFree;refine ac (be hz rfl (x:=.none) rfl (aw ?_));simp only[dC];refine ac (wpAny_rule ?_);refine ac (be hz rfl (x:=.ref TO) rfl ?_);refine ac (ci hz (by simp) λh₁ hz₁ hs₁=>?_);replace hz₁:IsZip h₁ z TI TO .ellipsis:=hz₁;refine ac ?_;simp only[List.zipIdx_cons,List.zipIdx_nil,fN,List.forIn_nil];refine ac (ac (eH ?_));show wpAny _ _ (Builtin.SmallTypes.nextOf (.ref i1) >>= _) _ _ _
 refine ac (vB (h1.at' λo e=>hs₁.extBut _ _ D.i1z e) (hl1.at' λo e=>hs₁.extBut _ _ D.l1z e) hx λh₂ h1₂ hs₂=>aw ?_);have hTO₂:IsPair h₂ TO a b:=hs₂.extBut _ _ D.TOi1 (hs₁.extBut _ _ D.TOz hTO);refine ac (bU hTO₂ rfl ?_);refine ac (d0 hTO₂ λh₃ hTO₃ hs₃=>?_);replace hTO₃:IsPair h₃ TO x b:=hTO₃;refine ac (wpAny_letGo (aw ?_));refine ac (ac (eH ?_));show wpAny _ _ (Builtin.SmallTypes.nextOf (.ref i2) >>= _) _ _ _
 refine ac (vB (h2.at' λo e=>hs₃.extBut _ _ D.TOi2.symm (hs₂.extBut _ _ D.i12.symm (hs₁.extBut _ _ D.i2z e)))
  (hl2.at' λo e=>hs₃.extBut _ _ D.l2TO (hs₂.extBut _ _ D.l2i1 (hs₁.extBut _ _ D.l2z e))) hy λh₄ h2₄ hs₄=>aw ?_)
 have hTO₄:IsPair h₄ TO x b:=hs₄.extBut _ _ D.TOi2 hTO₃;refine ac (bU hTO₄ rfl ?_);refine ac (d0 hTO₄ λh₅ hTO₅ hs₅=>?_);replace hTO₅:IsPair h₅ TO x y:=hTO₅;refine ac (wpAny_letGo (aw (aw ?_)));refine ac (bU hTO₅ rfl ?_);refine ac (wpAny_newTuple ?_);have hsz:h₅.objs.size=s.heap.objs.size:=by rw[hs₅.1,hs₄.1,hs₃.1,hs₂.1,hs₁.1]
 have hz₅:IsZip h₅ z TI TO .ellipsis:=hs₅.extBut _ _ D.TOz.symm (hs₄.extBut _ _ D.i2z.symm (hs₃.extBut _ _ D.TOz.symm (hs₂.extBut _ _ D.i1z.symm hz₁)));have hk₅:∀c o,c≠z->c≠TO->c≠i1->c≠i2->s.heap.get? c=some o->h₅.get? c=some o:=λc o c1 c2 c3 c4 e =>
  hs₅.extBut _ _ c2 (hs₄.extBut _ _ c4 (hs₃.extBut _ _ c2 (hs₂.extBut _ _ c3 (hs₁.extBut _ _ c1 e))))
 have h1₅:ItAt b1 h₅ i1 l1 (k1+1):=h1₂.at' λo e=>hs₅.extBut _ _ D.TOi1.symm (hs₄.extBut _ _ D.i12 (hs₃.extBut _ _ D.TOi1.symm e));have h2₅:ItAt b2 h₅ i2 l2 (k2+1):=h2₄.at' λo e=>hs₅.extBut _ _ D.TOi2.symm e;have hzlt:z<h₅.objs.size:=aB hz₅;show wpAny _ _ (Builtin.SmallTypes.ownedTupleHandOut (.ref z) (.ref h₅.objs.size) >>= _) _ _ _
 refine ac ?_;unfold Builtin.SmallTypes.ownedTupleHandOut;have hz₆:IsZip (h₅.push {cls:=.type "tuple",data:=.seq #[x,y]}) z TI TO .ellipsis:=aj _ hz₅;refine ac (ci hz₆ (by simp) λh₇ hz₇ hs₇=>?_);replace hz₇:IsZip h₇ z TI TO (rawInt h₅.objs.size):=hz₇;refine ci hz₇ (by simp) λh₈ hz₈ hs₈=>?_;replace hz₈:IsZip h₈ z TI TO (rawInt h₅.objs.size):=hz₈;have up:∀c o,c≠z->h₅.get? c=some o->h₈.get? c=some o:=λc o c1 e=>hs₈.extBut _ _ c1 (hs₇.extBut _ _ c1 (aj _ e));have hT₈:IsPair h₈ h₅.objs.size x y:=hs₈.extBut _ _ (dE hzlt) (hs₇.extBut _ _ (dE hzlt) (aI _ rfl));have hz8:h₈.objs.size=h₅.objs.size+1:=by rw[hs₈.1,hs₇.1,cg]
 rw[hsz]at hz₈ hT₈ hz8;refine aw ⟨_,rfl,?_⟩;show Q (.ref h₅.objs.size) _
 rw[hsz];exact hQ h₈ hz₈ (up _ _ D.TOz hTO₅) (h1₅.at' λo e=>up _ o D.i1z e) (h2₅.at' λo e=>up _ o D.i2z e) hT₈ hz8 λc o c1 c2 c3 c4 e=>up c o c1 (hk₅ c o c1 c2 c3 c4 e)
theorem zgI{b1 b2:Bool}{z TI TO i1 i2 l1 l2:Addr}{k1 k2:Nat}{xs ys:Ae}{a b:Am}{Q:Fin->Shared->Prop}(hh:A.handled=none)(D:ZipApart z TI TO i1 i2 l1 l2)(hz:IsZip s.heap z TI TO .none)(hTI:IsPair s.heap TI (.ref i1) (.ref i2))(hTO:IsPair s.heap TO a b)(h1:ItAt b1 s.heap i1 l1 k1)(h2:ItAt b2 s.heap i2 l2 k2)(hl1:SqAt b1 s.heap l1 xs)(hl2:SqAt b2 s.heap l2 ys)(hend:xs[k1]?=none\/ys[k2]?=none)(hE:∀h' e,(∀c o,c≠z->c≠TO->c≠i1->c≠i2->s.heap.get? c=some o->h'.get? c=some o)->(∃o,h'.get? e=some o/\o.cls=.type "StopIteration")->E (.ref e) {s with heap:=h'}) :
  wpAny (model prog w) A (Builtin.«zip.__next__» ⟨[.ref z],[]⟩) Q E s:=by
 show wpAny _ _ (field (.ref z) 2 >>= _) _ _ _
 refine ac (be hz rfl (x:=.bool false) rfl ?_);show wpAny _ _ (field (.ref z) 3 >>= _) _ _ _
 refine ac (be hz rfl (x:=.ref TI) rfl ?_);refine ac (bU hTI rfl ?_);show wpAny _ _ (Builtin.SmallTypes.ownedTupleIsFree (.ref z) >>= _) _ _ _
 refine ac ?_;unfold Builtin.SmallTypes.ownedTupleIsFree;refine ac (be hz rfl (x:=.none) rfl (aw ?_));simp only[dC];refine ac (wpAny_rule ?_);refine ac (be hz rfl (x:=.ref TO) rfl ?_);refine ac (ci hz (by simp) λh₁ hz₁ hs₁=>?_);replace hz₁:IsZip h₁ z TI TO .ellipsis:=hz₁;refine ac ?_;simp only[List.zipIdx_cons,List.zipIdx_nil,fN,List.forIn_nil];refine ac (ac (eH ?_));show wpAny _ _ (Builtin.SmallTypes.nextOf (.ref i1) >>= _) _ _ _
 cases hx:xs[k1]? with
 |none =>
  refine ac (XN hh (h1.at' λo e=>hs₁.extBut _ _ D.i1z e) (hl1.at' λo e=>hs₁.extBut _ _ D.l1z e) hx λh₂ e hs₂ he=>?_);let⟨oe,hoe,hce⟩:=he;have hz₂:IsZip h₂ z TI TO .ellipsis:=hs₂ _ _ D.i1z.symm hz₁;have hez:e≠z:=λx=>by subst x;rw[hz₂]at hoe;cases hoe;simp at hce
  refine ci hz₂ (by simp) λh₃ _ hs₃=>hE h₃ e (λc o c1 _ c3 _ x=>hs₃.extBut _ _ c1 (hs₂ _ _ c3 (hs₁.extBut _ _ c1 x))) ⟨oe,hs₃.extBut _ _ hez hoe,hce⟩
 |some x =>
  have hy:ys[k2]?=none:=by rcases hend with h|h;rw[hx]at h;cases h;exact h
  refine ac (vB (h1.at' λo e=>hs₁.extBut _ _ D.i1z e) (hl1.at' λo e=>hs₁.extBut _ _ D.l1z e) hx λh₂ h1₂ hs₂=>aw ?_);have hTO₂:IsPair h₂ TO a b:=hs₂.extBut _ _ D.TOi1 (hs₁.extBut _ _ D.TOz hTO);refine ac (bU hTO₂ rfl ?_);refine ac (d0 hTO₂ λh₃ hTO₃ hs₃=>?_);refine ac (wpAny_letGo (aw ?_));refine ac (ac (eH ?_));show wpAny _ _ (Builtin.SmallTypes.nextOf (.ref i2) >>= _) _ _ _
  refine ac (XN hh (h2.at' λo e=>hs₃.extBut _ _ D.TOi2.symm (hs₂.extBut _ _ D.i12.symm (hs₁.extBut _ _ D.i2z e)))
   (hl2.at' λo e=>hs₃.extBut _ _ D.l2TO (hs₂.extBut _ _ D.l2i1 (hs₁.extBut _ _ D.l2z e))) hy λh₄ e hs₄ he=>?_)
  let⟨oe,hoe,hce⟩:=he;have hz₄:IsZip h₄ z TI TO .ellipsis:=hs₄ _ _ D.i2z.symm (hs₃.extBut _ _ D.TOz.symm (hs₂.extBut _ _ D.i1z.symm hz₁));have hez:e≠z:=λx=>by subst x;rw[hz₄]at hoe;cases hoe;simp at hce
  refine ci hz₄ (by simp) λh₅ _ hs₅=>hE h₅ e (λc o c1 c2 c3 c4 x=>hs₅.extBut _ _ c1 (hs₄ _ _ c4 (hs₃.extBut _ _ c2 (hs₂.extBut _ _ c3 (hs₁.extBut _ _ c1 x))))) ⟨oe,hs₅.extBut _ _ hez hoe,hce⟩
noncomputable abbrev zH1(h:Heap)(b1:Bool)(l1:Addr):Heap:=h.push {cls:=.type (QW b1),data:=.fields #[.ref l1,.int 0 0]}
noncomputable abbrev zH2(h:Heap)(b1 b2:Bool)(l1 l2:Addr):Heap:=(zH1 h b1 l1).push {cls:=.type (QW b2),data:=.fields #[.ref l2,.int 0 0]}
noncomputable abbrev zH3(h:Heap)(b1 b2:Bool)(l1 l2:Addr):Heap:=(zH2 h b1 b2 l1 l2).push {cls:=.type "tuple",data:=.seq #[.ref h.objs.size,.ref (zH1 h b1 l1).objs.size]}
noncomputable abbrev zH4(h:Heap)(b1 b2:Bool)(l1 l2:Addr):Heap:=(zH3 h b1 b2 l1 l2).push {cls:=.type "tuple",data:=.seq #[.none,.none]}
noncomputable abbrev zH5(h:Heap)(b1 b2:Bool)(l1 l2:Addr):Heap:=(zH4 h b1 b2 l1 l2).push {cls:=.type "zip",data:=.fields #[.none,.bool false,.bool false,.ref (zH2 h b1 b2 l1 l2).objs.size,.ref (zH3 h b1 b2 l1 l2).objs.size]}
end
def zeA{b1 b2:Bool}(l1 l2:Addr)(xs ys:Ae) :
  Meets (Builtin.«zip.__new__» ⟨[.type "zip",.ref l1,.ref l2],[]⟩) (λ_ R s=>SqAt b1 s.heap l1 xs/\SqAt b2 s.heap l2 ys /\
   R (.ok (.ret (.ref (zH4 s.heap b1 b2 l1 l2).objs.size))) {s with heap:=zH5 s.heap b1 b2 l1 l2}) :=
 .of_wp λprog w A R s h=>by
  let⟨hp,g,d,tk,os⟩:=s;let⟨hl1,hl2,h⟩:=h;have hsub:=sub_zip;have hL1:SqAt b1 (Shared.heap ⟨hp,g,d,tk,os⟩) l1 xs:=hl1;have hL2:SqAt b2 (Shared.heap ⟨hp.push {cls:=.type (QW b1),data:=.fields #[.ref l1,.int 0 0]},g,d,tk,os⟩) l2 ys:=hl2.at' λo e=>aj _ e
  wp_walk using Vb hL1,Vb hL2
  exact⟨_,rfl,h⟩
section
variable{prog:Ag}{w:World}{A:Ao}{E:A4}{s:An}
def ItAt.new{h:Heap}{it l:Addr}(e:h.get? it=some {cls:=.type (QW b),data:=.fields #[.ref l,.int 0 0]}):ItAt b h it l 0:=by
 cases b<;>exact⟨_,e,rfl,rfl⟩
def zgt{b1 b2:Bool}{l1 l2:Addr}{xs ys:Ae}(hl1:SqAt b1 s.heap l1 xs)(hl2:SqAt b2 s.heap l2 ys)(h:∀h',IsZip h' (s.heap.objs.size+4) (s.heap.objs.size+2) (s.heap.objs.size+3) .none->IsPair h' (s.heap.objs.size+2) (.ref s.heap.objs.size) (.ref (s.heap.objs.size+1)) ->
   IsPair h' (s.heap.objs.size+3) .none .none->ItAt b1 h' s.heap.objs.size l1 0->ItAt b2 h' (s.heap.objs.size+1) l2 0->h'.objs.size=s.heap.objs.size+5 ->
   (∀c o,s.heap.get? c=some o->h'.get? c=some o)->Q (.ref (s.heap.objs.size+4)) {s with heap:=h'}) :
  wpAny (model prog w) A (call (.type "zip") [.ref l1,.ref l2]) Q E s:=by
 refine callType_new F.called_zip (by decide) (F.typeCall_zip_2 _ _) (F.newCall_zip_2 _ _) (λobj=>F.args_object_init_3 obj _ _) F.entry_zip_new
  (zeA (b1:=b1) (b2:=b2) l1 l2 xs ys) ⟨hl1,hl2,?_⟩
 have z1:(zH1 s.heap b1 l1).objs.size=s.heap.objs.size+1:=cg ..;have z2:(zH2 s.heap b1 b2 l1 l2).objs.size=s.heap.objs.size+2:=by rw[cg,z1]
 have z3:(zH3 s.heap b1 b2 l1 l2).objs.size=s.heap.objs.size+3:=by rw[cg,z2]
 have z4:(zH4 s.heap b1 b2 l1 l2).objs.size=s.heap.objs.size+4:=by rw[cg,z3]
 have z5:(zH5 s.heap b1 b2 l1 l2).objs.size=s.heap.objs.size+5:=by rw[cg,z4]
 have g5:(zH5 s.heap b1 b2 l1 l2).get? (zH4 s.heap b1 b2 l1 l2).objs.size=some _:=aI _ rfl;have g4:(zH5 s.heap b1 b2 l1 l2).get? (zH3 s.heap b1 b2 l1 l2).objs.size=some _:=aj _ (aI _ rfl);have g3:(zH5 s.heap b1 b2 l1 l2).get? (zH2 s.heap b1 b2 l1 l2).objs.size=some _:=aj _ (aj _ (aI _ rfl));have g2:(zH5 s.heap b1 b2 l1 l2).get? (zH1 s.heap b1 l1).objs.size=some _:=aj _ (aj _ (aj _ (aI _ rfl)));have g1:(zH5 s.heap b1 b2 l1 l2).get? s.heap.objs.size=some _:=aj _ (aj _ (aj _ (aj _ (aI _ rfl))));show _/\_
 rw[z2,z3,z4]at g5;rw[z1,z2]at g3;rw[z3]at g4;rw[z1]at g2;rw[z4];exact⟨⟨_,g5,rfl⟩,h _ g5 g3 g4 (ItAt.new g1) (ItAt.new g2) z5 λc o x =>
  aj _ (aj _ (aj _ (aj _ (aj _ x))))⟩
end
def SqB(b:Bool)(K:A0)(H:Hp)(a:Addr)(xs:Ap):Prop:=if b=true then SqL K H a xs else SqT K H a xs
def Inv.sqB{p6:A3}{σ:St}{H:Hp}{s:An}{a:Addr}{xs:Ap}(I:Inv X p6 σ H s)(h:SqB b X.K H a xs):∃pf:List Value,Vals xs pf/\SqAt b s.heap a pf.toArray:=by
 cases b
 .obtain⟨pf,r,p,_⟩:=I.tuple (show SqT X.K H a xs from h);exact⟨pf,r,p⟩
 .obtain⟨pf,r,p,_⟩:=I.list (show SqL X.K H a xs from h);exact⟨pf,r,p.isList⟩
def Inv.sqB_inj{p6:A3}{σ:St}{H:Hp}{s:An}{a:Addr}{xs ys:Ap}(I:Inv X p6 σ H s)(h1:SqB b X.K H a xs)(h2:SqB b X.K H a ys):xs=ys:=by
 cases b
 .exact I.tuple_inj (show SqT X.K H a xs from h1) (show SqT X.K H a ys from h2)
 .exact I.list_inj (show SqL X.K H a xs from h1) (show SqL X.K H a ys from h2)
noncomputable def Itz(K:A0)(b1 b2:Bool)(a1 a2:Addr):It :=
 ⟨λi H=>∃xs ys x y,SqB b1 K H a1 xs/\SqB b2 K H a2 ys/\xs[i]?=some x/\ys[i]?=some y,
   λi H v H'=>∃t x y,H t=none/\v=.ref t/\(∀xs,SqB b1 K H a1 xs->xs[i]?=some x)/\(∀ys,SqB b2 K H a2 ys->ys[i]?=some y)/\H'=upd H t (.tup [x,y]),
   λi H=>∃xs ys,SqB b1 K H a1 xs/\SqB b2 K H a2 ys/\(xs.length<=i\/ys.length<=i)⟩
def SqB.there{p6:A3}{σ:St}{H:Hp}{s:An}{a:Addr}{xs:Ap}(I:Inv X p6 σ H s)(h:SqB b X.K H a xs):∃o,s.heap.get? a=some o/\(o.cls=.type "list"\/o.cls=.type "tuple")/\∃pf n,o.data=.seq pf n:=by
 let⟨pf,_,p⟩:=I.sqB h;cases b
 .obtain⟨o,e,c,n,d⟩:=p;exact⟨o,e,.inr c,_,n,d⟩
 .obtain⟨o,e,c,n,d⟩:=p;exact⟨o,e,.inl c,_,n,d⟩
def ze2{P:Ag}{w:World}{K:A0}{elts:List Expr}{x1}{pos:Pos}{b1 b2:Bool}(z TI TO i1 i2 l1 l2:Addr)(D:ZipApart z TI TO i1 i2 l1 l2) :
  Turn P w K (.Tuple elts x1 pos) (Itz K b1 b2 l1 l2) [z,TI,TO,i1,i2] z (λi h=>IsZip h z TI TO .none/\IsPair h TI (.ref i1) (.ref i2)/\(∃a b,IsPair h TO a b)/\ItAt b1 h i1 l1 i/\ItAt b2 h i2 l2 i) where
 mem:=by simp
 obj:=λi h st b hb=>by
  let⟨hz,hTI,⟨a,b',hTO⟩,h1,h2⟩:=st;simp only[aC,aJ,aY]at hb;rcases hb with rfl|rfl|rfl|rfl|rfl
  .exact⟨_,hz,λv z=>by cases z⟩
  .exact⟨_,hTI,λv z=>by cases z⟩
  .exact⟨_,hTO,λv z=>by cases z⟩
  .exact h1.obj
  .exact h2.obj
 keep:=λi h h' st k=>by
  let⟨hz,hTI,⟨a,b',hTO⟩,h1,h2⟩:=st;exact⟨k z (by simp) _ hz,k TI (by simp) _ hTI,⟨a,b',k TO (by simp) _ hTO⟩,h1.at' λo e=>k i1 (by simp) o e,h2.at' λo e=>k i2 (by simp) o e⟩
 item:=by
  intro X hP hw hK hc i p6 s σ H E I hf st hg;subst hP hw hK;let⟨hz,hTI,⟨a,b',hTO⟩,h1,h2⟩:=st;let⟨xs,ys,x,y,q1,q2,hx,hy⟩:=hg;let⟨its1,r1,p1⟩:=I.sqB q1;let⟨its2,r2,p2⟩:=I.sqB q2;let⟨u1,hu1,ru1⟩:=r1.get hx;let⟨u2,hu2,ru2⟩:=r2.get hy;have hT:s.TypeIs (.ref z) "zip":=⟨_,hz,rfl⟩;unfold pyNext;refine ac (gv (cf (name:=Str.ofString "__next__") hT dW (cX dW hT F.entry_zip_next
   (zeX D hz hTI hTO h1 h2 p1 p2 (x:=u1) (y:=u2) (by simpa using hu1) (by simpa using hu2) λh' a1 a2 a3 a4 a5 a6 hk=>aw ?_) (F.args_zip_next_1 _))))
  refine⟨_,rfl,?_⟩;have I1:Inv X p6 σ (upd H s.heap.objs.size (.tup [x,y])) {s with heap:=h'}:=I.turnNew (t':=s.toks) hf (ar _) (λb o hb q=>hk b o (λz=>hb (by simp[z])) (λz=>hb (by simp[z])) (λz=>hb (by simp[z])) (λz=>hb (by simp[z])) q)
   ⟨by show 2<=sizeLine;decide,[u1,u2],.cons ru1 (.cons ru2 .nil),⟨_,a5,rfl,_,rfl⟩⟩
  have hn:H s.heap.objs.size=none:=I.hok.fresh (ar _);have ne:∀b∈[z,TI,TO,i1,i2],b≠s.heap.objs.size:=λb hb=>by
   have:∃o,s.heap.get? b=some o:=by
    simp only[aC,aJ,aY]at hb;rcases hb with rfl|rfl|rfl|rfl|rfl
    .exact⟨_,hz⟩
    .exact⟨_,hTI⟩
    .exact⟨_,hTO⟩
    .exact let⟨o,e,_⟩:=h1.obj;⟨o,e⟩
    .exact let⟨o,e,_⟩:=h2.obj;⟨o,e⟩
   let⟨o,e⟩:=this;exact aQ (aB e)
  have fr:∀b∈[z,TI,TO,i1,i2],(upd H s.heap.objs.size (.tup [x,y])) b=none:=λb hb=>by rw[pF (ne b hb)];exact(hf b hb).1
  have hTI':IsPair h' TI (.ref i1) (.ref i2):=hk _ _ D.TIz D.TITO D.TIi1 D.TIi2 hTI;refine wpAny_letOwnedTupleGo_zip a1 λh'' hz'' hs''=>?_;refine⟨.ref s.heap.objs.size,_,I1.turnL (t':=s.toks) (ch:=[z]) (λb hb=>?_) (λb o hb q=>(hs''.2 b (λz=>hb (by simp[z]))).trans q),rfl,
   ⟨s.heap.objs.size,x,y,hn,rfl,λzs hy=>by rw[I.sqB_inj hy q1];exact hx,λzs hz=>by rw[I.sqB_inj hz q2];exact hy,rfl⟩,
   ⟨hz'',hs''.extBut _ _ D.TIz hTI',⟨_,_,hs''.extBut _ _ D.TOz a2⟩,a3.at' λo e=>hs''.extBut _ _ D.i1z e,a4.at' λo e=>hs''.extBut _ _ D.i2z e⟩,fr⟩
  obtain rfl:b=z:=by simpa using hb
  exact⟨fr b (by simp),(hf b (by simp)).2⟩
 done:=by
  intro X hP hw hK hc i p6 s σ H E I hf st hg;subst hP hw hK;let⟨hz,hTI,⟨a,b',hTO⟩,h1,h2⟩:=st;let⟨xs,ys,q1,q2,hx⟩:=hg;let⟨its1,r1,p1⟩:=I.sqB q1;let⟨its2,r2,p2⟩:=I.sqB q2;have e1:=r1.length;have e2:=r2.length;have hT:s.TypeIs (.ref z) "zip":=⟨_,hz,rfl⟩;have hend:its1.toArray[i]?=none\/its2.toArray[i]?=none:=by
   rcases hx with h|h
   .exact .inl (by simp;lia)
   .exact .inr (by simp;lia)
  unfold pyNext;refine ac (gv (cf (name:=Str.ofString "__next__") hT dW
   (cX dW hT F.entry_zip_next (zgI (I.ok.hd hc) D hz hTI hTO h1 h2 p1 p2 hend λh' e hk he=>?_) (F.args_zip_next_1 _))))
  let⟨o,ho,hcl⟩:=he;refine ac (wpAny_isInstance (T:="StopIteration") (b:=true) ⟨o,ho,hcl⟩ isSubtype_stop ?_);exact aw ⟨rfl,I.turnL (t':=s.toks) hf λb o hb q=>hk b o (λz=>hb (by simp[z])) (λz=>hb (by simp[z])) (λz=>hb (by simp[z])) (λz=>hb (by simp[z])) q⟩
 self:=λ_ _ _ _ _ st h=>wpAny_pyIter_zip st.1 h
def zd5(n l1 l2:Nat)(h1:l1<n)(h2:l2<n):ZipApart (n+4) (n+2) (n+3) n (n+1) l1 l2:=by
 constructor<;>(show(_:Nat)≠_)<;>lia
def iZip(X:Cx)(ta:TA):TI:=λσ H R=>X.mg "zip"=none/\ta σ H λvs H1=>∃b1 b2 l1 l2 xs ys,vs=[.ref l1,.ref l2]/\SqB b1 X.K H1 l1 xs/\SqB b2 X.K H1 l2 ys/\R (Itz X.K b1 b2 l1 l2) H1
def zah{a b:Expr}{elts:List Expr}{x1}{tp p pos:Pos}{ta:TA}(ha:PA X [a,b] ta)(hg:Gl X "zip":=by rfl)(hs:starEach [a,b] X.env=(false,eval a X.env)::starEach [b] X.env:=by rfl)(hpl:(backTo pos (starEach [b] X.env)).any (·.1)=false:=by rfl) :
  PI X (.Tuple elts x1 tp) (.Call (.Name "zip" p) [a,b] [] pos) (iZip X ta):=by
 intro p6 s σ H R I h;refine bK (vI I hg h.1 zi1 ?_);refine bA (vZ (ha pos p6 s σ H _ I h.2) λus s1 vs H1 I1 r1 q1=>?_) hs hpl;let⟨b1,b2,l1,l2,xs,ys,rfl,q1,q2,hR⟩:=q1;let⟨u1,u2,rfl,rx,ry⟩:=zhN r1;cases rx;cases ry;let⟨its1,rv1,p1⟩:=I1.sqB q1;let⟨its2,rv2,p2⟩:=I1.sqB q2;let⟨o1,e1,_⟩:=SqB.there I1 q1;let⟨o2,e2,_⟩:=SqB.there I1 q2;have n1:=aB e1;have n2:=aB e2;refine zgt p1 p2 λh' hz hTI hTO h1 h2 hsz hk=>wpAny_pyIter_zip hz ?_;refine⟨s1.heap.objs.size+4,[s1.heap.objs.size+4,s1.heap.objs.size+2,s1.heap.objs.size+3,s1.heap.objs.size,s1.heap.objs.size+1],_,_,H1,rfl,I1.kept (t':=s1.toks) hk,
  ze2 _ _ _ _ _ l1 l2 (zd5 _ _ _ n1 n2),⟨hz,hTI,⟨_,_,hTO⟩,h1,h2⟩,λb hb=>?_,hR⟩
 have ge:s1.heap.objs.size<=b:=by
  simp only[aC,aJ,aY]at hb;rcases hb with rfl|rfl|rfl|rfl|rfl
  .exact dm _ _
  .exact dm _ _
  .exact dm _ _
  .exact ar _
  .exact dm _ _
 exact I1.fpOk ge (I1.hok.fresh ge)
section
variable{K:A0}{σ:St}{H:Hp}
def Vw{a:Addr}{xs:Ap}{DN:St->Hp->Prop}{B:(St->Hp->Prop)->V->St->Hp->Prop}(Pv:Nat->St->Hp->Prop)(h0:Pv 0 σ H)(hl:∀i σ H,i<=xs.length->Pv i σ H->SqL K H a xs)(hs:∀i x t σ H,xs[i]?=some x->H t=none->Pv i σ H->B (Pv (i+1)) (.ref t) σ (upd H t (.tup [.int i,x])))(hd:∀σ H,Pv xs.length σ H->DN σ H) :
  ∃W:Nat->Nat->St->Hp->Prop,(∃m,W 0 m σ H)/\∀i m σ H,W i m σ H ->
   ((Ite K a).stop i H/\DN σ H)\/((Ite K a).go i H/\∃N:St->Hp->Prop,(∀σ' H',N σ' H'->∃m',m'<m/\W (i+1) m' σ' H')/\∀x H',(Ite K a).yld i H x H'->B N x σ H'):=by
 refine⟨λi m σ H=>m=xs.length-i/\i<=xs.length/\Pv i σ H,⟨xs.length,by simp,ck _,h0⟩,?_⟩;rintro i m σ H ⟨rfl,hi,p⟩;have q:=hl i σ H hi p;by_cases hlt:i<xs.length
 .refine .inr ⟨⟨xs,xs[i],q,by simp[hlt]⟩,Pv (i+1),λσ' H' p'=>⟨xs.length-(i+1),by lia,rfl,hlt,p'⟩,λv H' y=>?_⟩;let⟨t,x,ht,rfl,hx,rfl⟩:=y;exact hs i x t σ _ (hx xs q) ht p
 .have e:i=xs.length:=by lia
  subst e;exact .inl ⟨⟨xs,q,ar _⟩,hd σ H p⟩
def zdJ{b1 b2:Bool}{a1 a2:Addr}{xs ys:Ap}{DN:St->Hp->Prop}{B:(St->Hp->Prop)->V->St->Hp->Prop}(Pv:Nat->St->Hp->Prop)(h0:Pv 0 σ H)(hl:∀i σ H,i<=min xs.length ys.length->Pv i σ H->SqB b1 K H a1 xs/\SqB b2 K H a2 ys)(hs:∀i x y t σ H,xs[i]?=some x->ys[i]?=some y->H t=none->Pv i σ H->B (Pv (i+1)) (.ref t) σ (upd H t (.tup [x,y])))(hd:∀σ H,Pv (min xs.length ys.length) σ H->DN σ H) :
  ∃W:Nat->Nat->St->Hp->Prop,(∃m,W 0 m σ H)/\∀i m σ H,W i m σ H ->
   ((Itz K b1 b2 a1 a2).stop i H/\DN σ H)\/((Itz K b1 b2 a1 a2).go i H/\∃N:St->Hp->Prop,(∀σ' H',N σ' H'->∃m',m'<m/\W (i+1) m' σ' H')/\∀x H',(Itz K b1 b2 a1 a2).yld i H x H'->B N x σ H'):=by
 refine⟨λi m σ H=>m=min xs.length ys.length-i/\i<=min xs.length ys.length/\Pv i σ H,⟨min xs.length ys.length,by simp,ck _,h0⟩,?_⟩;rintro i m σ H ⟨rfl,hi,p⟩;let⟨q1,q2⟩:=hl i σ H hi p;by_cases hlt:i<min xs.length ys.length
 .have l1:i<xs.length:=by lia
  have l2:i<ys.length:=by lia
  refine .inr ⟨⟨xs,ys,xs[i],ys[i],q1,q2,by simp[l1],by simp[l2]⟩,Pv (i+1),λσ' H' p'=>⟨min xs.length ys.length-(i+1),by lia,rfl,hlt,p'⟩,λv H' y=>?_⟩;let⟨t,x,y,ht,rfl,hx,hy,rfl⟩:=y;exact hs i x y t σ _ (hx xs q1) (hy ys q2) ht p
 .have e:i=min xs.length ys.length:=by lia
  subst e;exact .inl ⟨⟨xs,ys,q1,q2,by lia⟩,hd σ H p⟩
end
section
variable{X:Cx}{N:A9}{scope:Scope}{s:An}{H:Hp}{fp:Ac}{p6:A3}
theorem cxC_K:(cxC X N scope s H fp p6).K=X.K:=rfl
theorem cxC_mg:(cxC X N scope s H fp p6).mg=X.mg:=rfl
theorem cxC_prog:(cxC X N scope s H fp p6).prog=X.prog:=rfl
theorem cxC_w:(cxC X N scope s H fp p6).w=X.w:=rfl
theorem cxC_base:(cxC X N scope s H fp p6).base=X.base:=rfl
end
structure BCal(P:Ag)(w:World)(K:A0)(mg:A5)(base:Heap)(x m:Str)(k:Nat)(ps:A9)(dvs:Ap)(sp:Sp):Prop where
 ex:∃C f fd ds,mg x=some (.ref C)/\specialIn K (.ref C) "__getattribute__"=some (some (.builtin "type.__getattribute__"))/\readsIn K C (.type "type")=true /\
  findCls K (.ref C) (.type "type") m=some (.val (.ref f))/\handedIn (.ref f)=true/\FnOk P w K mg base (CXr P w) k f fd ps sp/\keepIn K (.ref f)=true/\Binds K fd ps ds/\Vals dvs ds
def BCal.mono{P:Ag}{w:World}{K:A0}{mg:A5}{base:Heap}{x m:Str}{j k:Nat}{ps:A9}{dvs:Ap}{sp:Sp}(c:BCal P w K mg base x m j ps dvs sp)(h:j<=k:=by decide):BCal P w K mg base x m k ps dvs sp:=by
 let⟨C,f,fd,ds,a,b,c,d,e,g,r⟩:=c.ex;exact⟨C,f,fd,ds,a,b,c,d,e,g.mono h,r⟩
section
variable{X:Cx}{G:GK}{k:Nat}{x m:Str}{p pos apos:Pos}{e:Expr}{es:List Expr}{t:TA}
def tBase(X:Cx)(k:Nat)(x m:Str)(G:GK)(t:TA):TE:=λσ H Q=>∃ps dvs sp,BCal X.prog X.w X.K X.mg X.base x m k ps dvs sp/\t σ H λvs H1=>sp (vs++dvs) H1 Q (λcls _ H'=>G cls σ H')
def vV{pl:Sem Bool}(B:Bod X)(hr:Room k X.A)(ha:PA (X.exg G) (e::es) t)(hg:Gl X x:=by rfl)(hdb:(x == ("__debug__":Str))=false:=by decide)(hst:starEach (e::es) X.env=(false,eval e X.env)::starEach es X.env:=by rfl)(hpl:(backTo pos (starEach es X.env)).any (·.1)=false:=by rfl)(ht:eval (.Call (.Attribute (.Name x p) m apos) (e::es) [] pos) X.env=(do
   let ov <- eval (.Name x p) X.env
   standAt apos.atName
   let(f,first) <- holding [ov] (getMethod ov m pl)
   callWith pos f first (backTo pos (starEach (e::es) X.env)) (backToKw pos (keywordEach [] X.env))):=by rfl) :
  PE (X.exg G) (.Call (.Attribute (.Name x p) m apos) (e::es) [] pos) (tBase X k x m G t):=by
 intro p6 s σ H Q I h;let⟨ps,dvs,sp,⟨C,f,fd,ds,hm,hga,hrd,hfc,hhd,F,hk,hb,hd⟩,h⟩:=h;refine eK (pl:=pl) (xh I hg hm ?_ hdb) ht;refine PySem.W.method_cls I.kIn hga (PySem.W.cls_value I.kIn hrd hfc hhd ?_);have I0:=I.tok (s.toks+1);refine dX (first:=[]) (h₀:=X.base) I.ok.mod.kin hk (vZ (ha pos p6 _ σ H _ I0 h) λus s1 vs H1 I1 r q=>⟨I1.kIn,?_⟩) hst hpl;exact JM B F hr hb hd I1 r q
end
structure FB(K:A0)(mg:A5)(x m qual:Str)(st:Stmt)(ps:A9):Prop where
 ex:∃C f fd,mg x=some (.ref C)/\specialIn K (.ref C) "__getattribute__"=some (some (.builtin "type.__getattribute__"))/\readsIn K C (.type "type")=true /\
  findCls K (.ref C) (.type "type") m=some (.val (.ref f))/\Fun K m qual st f fd/\keepIn K (.ref f)=true/\Binds K fd ps []
def FB.cal{P:Ag}{w:World}{K:A0}{mg:A5}{base:Heap}{x m qual:Str}{st:Stmt}{ps:A9}{k:Nat}{sp:Sp}(h:FB K mg x m qual st ps)(ok:∀{f fd},Fun K m qual st f fd->FnOk P w K mg base (CXr P w) k f fd ps sp):BCal P w K mg base x m k ps [] sp:=by
 let⟨C,f,fd,a,b,c,d,F,kp,bi⟩:=h.ex;exact⟨C,f,fd,[],a,b,c,d,rfl,ok F,kp,bi,.nil⟩
def fb_mk{K:A0}{mg:A5}{C:Addr}{x m qual:Str}{st:Stmt}{ps:A9}{f:Addr}{oc:Am}{od an:Ab}{osl:Af}{kV doc pm cdv ct:Am}(gl:mg x=some (.ref C))(ga:specialIn K (.ref C) "__getattribute__"=some (some (.builtin "type.__getattribute__")))(rd:readsIn K C (.type "type")=true)(fc:findCls K (.ref C) (.type "type") m=some (.val (.ref f)))(l:K.lookup f=some ⟨oc,od,.func (fnOf m qual (qt st) (qg st) (zf st) .none kV doc pm an cdv ct),osl⟩)(c:codeIn K cdv qual=true)(k:keepIn K (.ref f)=true)(hb:∀(kV doc pm:Am)(an:Ab)(cdv ct:Am)(us:A8),us.length=ps.length->bindArgs (fnOf m qual (qt st) (qg st) (zf st) .none kV doc pm an cdv ct) ⟨us,[]⟩=pure (ps.zip us)):FB K mg x m qual st ps :=
 ⟨C,f,_,gl,ga,rd,fc,wJ l c k,k,(wJ l c k).binds hb⟩
section
variable{X:Cx}{a b:Expr}{ta:TA}{p pos lp lpos:Pos}
noncomputable def rgL(lo:Int)(n:Nat):List V:=(List.range n).map λ(i:Nat)=>V.int (lo+(i:Int))
def zcf{lo:Int}{n:Nat}{ph:Ae}(h:ItemsOf (λi v=>∃t,v=.int (lo+i*1) t) ph n):Vals (rgL lo n) ph.toList:=by
 have key:∀(k:Nat)(l:A8)(m:Nat),l.length=m->(∀i v,l[i]?=some v->∃t,v=Value.int (lo+((k+i:Nat):Int)) t)->Vals ((List.range' k m).map λ(i:Nat)=>V.int (lo+(i:Int))) l:=by
  intro k l
  induction l generalizing k with
  |nil=>intro m hm _;simp at hm;subst hm;exact .nil
  |cons x r ih =>
   intro m hm hv;let⟨m,rfl⟩:∃m',m=m'+1:=⟨r.length,by simpa using hm.symm⟩;rw[List.range'_succ,bJ];refine .cons ?_ (ih (k+1) m (by simpa using hm) λi v e=>?_)
   .obtain⟨t,e⟩:=hv 0 x rfl;exact⟨t,by simpa using e⟩
   .obtain⟨t,e'⟩:=hv (i+1) v (by simpa using e);exact⟨t,by rw[e'];congr 2;lia⟩
 have:=key 0 ph.toList n (by simpa using h.1) λi v e=>by
  let⟨t,e'⟩:=h.2 i v (by simpa using e);exact⟨t,by rw[e'];simp⟩
 rw[rgL,List.range_eq_range'];exact this
def tRg1(X:Cx)(ta:TA):TE:=λσ H Q=>X.mg "range"=none/\ta σ H λvs H1=>lq vs λv=>iq v λj=>∀p,H1 p=none->Q (.ref p) (upd H1 p (.rng 0 j))
def ziy(ha:PA X [a] ta)(hg:Gl X "range":=by rfl)(hs:starEach [a] X.env=[(false,eval a X.env)]:=by rfl):PE X (.Call (.Name "range" p) [a] [] pos) (tRg1 X ta):=by
 intro p6 s σ H Q I h;refine Call_ (vI I hg h.1 boot_range (bA (vZ (ha pos p6 s σ H _ I h.2) λus s1 vs H1 I1 r1 q1=>?_) hs rfl));let⟨j,e,q⟩:=zfX q1;subst e;cases r1 with
 |cons r rr =>
  cases rr;let⟨t,rfl⟩:=r;exact call_range_1 ⟨.ref _,_,I1.laid (o:=.rng 0 j) (λb o e=>aj _ e) (ar _) ⟨_,_,_,aI _ rfl⟩,rfl,q _ I1.fresh⟩
def zcA{lo:Int}{n:Nat}:(rgL lo n).length=n:=by simp[rgL]
def zgx(hc:X.calm=true):CallR X (.type "list") (λxs H Q=>∃p lo hi,xs=[.ref p]/\H p=some (.rng lo hi)/\(-(2^62)<=lo/\lo<2^62/\-(2^62)<=hi/\hi<2^62/\(hi-lo).toNat<=1000)/\∀l,H l=none->Q (.ref l) (upd H l (.lst (rgL lo (hi-lo).toNat)))):=by
 intro p6 s σ H xs us Q I r h;let⟨p,lo,hi,rfl,hq,⟨h1,h2,h3,h4,h5⟩,q⟩:=h;let⟨u,rfl,rx⟩:=JV r;cases rx;let⟨t,u,v,e⟩:=I.hok p _ hq;refine call_list_range (n:=(hi-lo).toNat) (I.ok.hd hc) e (small_one h1 h2 h3 h4) (by rw[rangeSize_one];split<;>lia) (by lia) λh' tk acc' c' hk hS hit=>?_;exact⟨.ref _,_,I.laid (o:=.lst (rgL lo (hi-lo).toNat)) (t':=tk) hk (ar _) ⟨by rw[zcA];exact bV (zm h5),acc'.toList,c',zcf hit,by simpa using hS⟩,rfl,q _ I.fresh⟩
end
end L2
namespace L2
open PySem PySem.Spec PyProof.Rows
noncomputable def Itd(lo:Int)(n:Nat):It:=⟨λi _=>i<n,λi H x H'=>H'=H/\x=.int (lo-i),λi _=>n<=i⟩
def zd8{P:Ag}{w:World}{K:A0}{tg:Expr}(it:Addr)(lo:Int)(n:Nat):Turn P w K tg (Itd lo n) [it] it (λi h=>IsRangeIter h it (lo+(i:Nat)*(-1)) ((n:Int)-(i:Nat)) (-1)) where
 mem:=by simp
 obj:=λi h st b hb=>by
  have e:b=it:=by simpa using hb
  subst e;exact⟨_,st,λv z=>by
   have z':Data.fields _=Data.cell v:=z;cases z'⟩
 keep:=λi h h' st k=>k it (by simp) _ st
 item:=by
  intro X hP hw hK hc i p6 s σ H E I hf st hg;subst hP hw hK;let⟨f0,f1,f2,f3,f4,f5⟩:=hf it (by simp);have W:=Walks.range (prog:=X.prog) (w:=X.w) (I.ok.hd hc) it lo (-1) n;refine W.item i s _ _ hg st λv h' tk hv st' kk=>?_;let⟨t,rfl⟩:=hv;have I1:Inv X p6 σ H {s with heap:=h',toks:=tk}:=I.turned (λb o hb e=>kk b o (by simpa using hb) e) f0 f1 f3 f4 f5;refine⟨_,rfl,zdH (s:={s with heap:=h',toks:=tk}) (n:="range_iterator") st' rfl rfl (by decide) ⟨.int (lo-i),H,I1,⟨t,?_⟩,⟨rfl,rfl⟩,st',λb hb=>(hf b hb).1⟩⟩
  congr 1;lia
 done:=by
  intro X hP hw hK hc i p6 s σ H E I hf st hg;subst hP hw hK;let⟨f0,f1,f2,f3,f4,f5⟩:=hf it (by simp);exact wpAny_pyNext_range_end (I.ok.hd hc) st (by have:n<=i:=hg;lia) λh' eb=>⟨rfl,I.turned (t':=s.toks) (λb o hb e=>eb b o hb e) f0 f1 f3 f4 f5⟩
 self:=λ_ _ _ _ _ st h=>wpAny_pyIter_rangeiter st h
def vy(a b:Int):Builtin.Range.rangeSize a b (-1)=((a-b).toNat:Int):=by
 unfold Builtin.Range.rangeSize;rw[ao (by decide),show(- (-1:Int))=1 from rfl,Int.ediv_one]
 split<;>lia
def zcr{a b:Int}(ha:-(2^62)<=a)(ha':a<2^62)(hb:-(2^62)<=b)(hb':b<2^62):Builtin.Range.small a b (-1)=true:=by
 unfold Builtin.Range.small;rw[vy];simp only[Builtin.Range.rangeFitsLong,bQ,Bool.or_eq_true,dg,bL,show ¬((-1:Int)>0) by decide,dJ]
 lia
section
variable{X:Cx}{tg:Expr}
def zht{p6:A3}{σ:St}{H:Hp}{s:An}{R:It->Hp->Prop}{E:A4}{lo hi:Int}{t u v:Tok}{tk:Nat}(I:Inv X p6 σ H s)(h1:-(2^62)<=lo)(h2:lo<2^62)(h3:-(2^62)<=hi)(h4:hi<2^62)(q:R (Itd lo (lo-hi).toNat) H):wpAny (model X.prog X.w) X.A (pyIter (.ref s.heap.objs.size)) (PIE X p6 σ tg R) E {s with heap:=s.heap.push {cls:=.type "range",data:=.fields #[.int lo t,.int hi u,.int (-1) v]},toks:=tk}:=by
 refine wpAny_pyIter_range (IsRange.new ..) (zcr h1 h2 h3 h4) ?_;have I1:Inv X p6 σ H {s with heap:=s.heap.push {cls:=.type "range",data:=.fields #[.int lo t,.int hi u,.int (-1) v]},toks:=tk}:=I.kept λb o e=>aj _ e;refine⟨(s.heap.push {cls:=.type "range",data:=.fields #[.int lo t,.int hi u,.int (-1) v]}).objs.size,[(s.heap.push {cls:=.type "range",data:=.fields #[.int lo t,.int hi u,.int (-1) v]}).objs.size],_,_,H,rfl,
  I1.kept (t':=tk) λb o e=>aj _ e,zd8 _ lo (lo-hi).toNat,?_,λb hb=>?_,q⟩
 .have e1:lo+((0:Nat):Int)*(-1)=lo:=by simp
  have e2:(((lo-hi).toNat:Nat):Int)-((0:Nat):Int)=Builtin.Range.rangeSize lo hi (-1):=by rw[vy];lia
  show IsRangeIter _ _ (lo+((0:Nat):Int)*(-1)) ((((lo-hi).toNat:Nat):Int)-((0:Nat):Int)) (-1)
  rw[e1,e2];exact aI _ rfl
 .have e:b=(s.heap.push {cls:=.type "range",data:=.fields #[.int lo t,.int hi u,.int (-1) v]}).objs.size:=by simpa using hb
  subst e;exact I1.fpOk (ar _) (I1.hok.fresh (ar _))
def iRng3(X:Cx)(ta:TA):TI:=λσ H R=>X.mg "range"=none/\ta σ H λvs H1=>∃i j:Int,vs=[.int i,.int j,.int (-1)]/\(-1000<=i/\i<1000/\-1000<=j/\j<1000)/\R (Itd i (i-j).toNat) H1
theorem zix{a b c:Expr}{ta:TA}{p pos:Pos}(ha:PA X [a,b,c] ta)(hg:Gl X "range":=by rfl)(hs:starEach [a,b,c] X.env=[(false,eval a X.env),(false,eval b X.env),(false,eval c X.env)]:=by rfl)(hs2:starEach [b,c] X.env=[(false,eval b X.env),(false,eval c X.env)]:=by rfl) :
  PI X tg (.Call (.Name "range" p) [a,b,c] [] pos) (iRng3 X ta):=by
 intro p6 s σ H R I h;refine Call_ (vI I hg h.1 boot_range (bA (vZ (ha pos p6 s σ H _ I h.2) λus s1 vs H1 I1 r1 q1=>?_) (by rw[hs,hs2]) (by rw[hs2];rfl)));let⟨i,j,e,⟨q1,q2,q3,q4⟩,q⟩:=q1;subst e;cases r1 with
 |cons r rr =>
  cases rr with
  |cons r' rr =>
   cases rr with
   |cons r'' rr =>
    cases rr;let⟨t,rfl⟩:=r;let⟨t',rfl⟩:=r';let⟨t'',rfl⟩:=r'';exact call_range_3 (by decide) (zht I1 (by lia) (by lia) (by lia) (by lia) q) (Or.inl (fC (by lia)))
def zjx{K:A0}{σ:St}{H:Hp}{lo:Int}{n:Nat}{DN:St->Hp->Prop}{B:(St->Hp->Prop)->V->St->Hp->Prop}(Pv:Nat->St->Hp->Prop)(h0:Pv 0 σ H)(hs:∀i σ H,i<n->Pv i σ H->B (Pv (i+1)) (.int (lo-i)) σ H)(hd:∀σ H,Pv n σ H->DN σ H) :
  ∃W:Nat->Nat->St->Hp->Prop,(∃m,W 0 m σ H)/\∀i m σ H,W i m σ H ->
   ((Itd lo n).stop i H/\DN σ H)\/((Itd lo n).go i H/\∃N:St->Hp->Prop,(∀σ' H',N σ' H'->∃m',m'<m/\W (i+1) m' σ' H')/\∀x H',(Itd lo n).yld i H x H'->B N x σ H'):=by
 refine⟨λi m σ H=>m=n-i/\i<=n/\Pv i σ H,⟨n,by simp,ck _,h0⟩,?_⟩;rintro i m σ H ⟨rfl,hi,p⟩;by_cases hlt:i<n
 .refine .inr ⟨hlt,Pv (i+1),λσ' H' p'=>⟨n-(i+1),by lia,rfl,hlt,p'⟩,λx H' y=>?_⟩;let⟨e,y⟩:=y;subst e y;exact hs i σ _ hlt p
 .have e:i=n:=by lia
  subst e;exact .inl ⟨ar _,hd σ H p⟩
end
section
variable{X:Cx}{tg:Expr}
end
end L2
namespace L2
open PySem PySem.Spec PySem.Calls PyProof.Rows
variable{st:Stmt}
theorem ZG:∀{us:A8}{ns:A7},IntsAre us ns->Vals (ns.map V.int) us
 |_,_,.nil=>.nil
 |_,_,.cons n t h=>.cons ⟨t,rfl⟩ (ZG h)
section
variable{X:Cx}
def zeU:CallR X (.builtin "sorted") (λxs H Q=>∃p,∃ns:List Int,xs=[.ref p]/\SqL X.K H p (ns.map V.int)/\ns.length<64 /\
  ∀(ms:A7) l,ms.Perm ns->ms.Pairwise (·<=·)->H l=none->Q (.ref l) (upd H l (.lst (ms.map V.int)))):=by
 intro p6 s σ H xs us Q I r h;let⟨p,ns,rfl,hp,h64,q⟩:=h;let⟨u,rfl,rx⟩:=JV r;cases rx;let⟨pf,rv,hl,hz⟩:=I.list hp;have hlen:pf.length=ns.length:=by have:=rv.length;rw[ae]at this;exact this.symm
 refine sorted_ints hl.isList (zcX rv) (by lia) λout ms a1 a2 a3=>?_;let⟨e,he⟩:=sortedAll_at s.heap pf out;exact⟨.ref _,_,I.laid (a:=s.heap.objs.size+1) (o:=.lst (ms.map V.int)) (t':=s.toks) (λb o h=>sortedAll_old h) (cS _) ⟨by rw[ae,a2.length_eq];exact bV (zm (by lia)),out.toList,e,ZG a1,by simpa using he⟩,rfl,q ms _ a2 a3 (I.hok.fresh (cS _))⟩
end
structure FunD(K:A0)(x qual:Str)(st:Stmt)(f:Addr)(fd:FuncData):Prop where
 ex:∃(oc:Am)(od:Ab)(dV kV doc pm:Am)(an:Ab)(cdv ct:Am)(osl:Af),
  fd=fnOf x qual (qt st) (qg st) (zf st) dV kV doc pm an cdv ct/\K.lookup f=some ⟨oc,od,.func fd,osl⟩/\codeIn K cdv qual=true
 kp:keepIn K (.ref f)=true
section
variable{P:Ag}{w:World}{K:A0}{mg:A5}{base:Heap}
def FunD.okx{x qual:Str}{f:Addr}{fd:FuncData}{N ps:A9}{k:Nat}{sp:Sp}(F:FunD K x qual st f fd)(S:FnScope N ps (zf st))(len:∀vs H Q E,sp vs H Q E->vs.length=ps.length)(hbody:∀(cdv:Am)(A:Ao)(outer:List Env)(s:An)(H:Hp)(vs:Ap)(Q:VK)(E:XK),Room k (A.deeper (envOfC qual (zf st) s.heap.objs.size f cdv))->sp vs H Q E ->
   ∃t,PSs ((cxR P w K mg base N qual (zf st) f cdv A outer s H E).exg λcls _ H'=>E cls none H') (qg st) t/\t {nx:=λ_ H'=>Q .non H',rt:=Q} (start N vs) H):FnOk P w K mg base (CXr P w) (k+1) f fd ps sp:=by
 let⟨oc,od,dV,kV,doc,pm,an,cdv,ct,osl,rfl,lk,hcd⟩:=F.ex;refine zgn lk hcd S len λA outer s H vs Q E hr hsp=>?_;let⟨t,h,q⟩:=hbody cdv A outer s H vs Q E hr hsp;refine⟨t,λp6 s σ H' D I hw=>?_,q⟩;refine aV (h p6 s σ H' D (I.wish _) hw) (λ_ _ z=>z.unwish) λe s' z=>?_;refine ac (aV (show wpAny _ _ _ _ _ _ from z) (λ_ s1 y1=>aV y1 (λ_ s'' y=>?_) λ_ _ y=>y.elim) λ_ _ y=>y.elim);let⟨a,cls,σ2,H2,rfl,J,xx,g⟩:=y;exact⟨a,cls,H2,rfl,J.os,J.bare,J.base,J.hok,xx.less (λp hp=>absurd hp (by simp)),g⟩
structure FD(K:A0)(mg:A5)(x:Str)(st:Stmt)(ps:A9)(dvs:Ap):Prop where
 ex:∃f fd ds,FunD K x x st f fd/\mg x=some (.ref f)/\Binds K fd ps []/\Binds K fd ps ds/\Vals dvs ds
def FD.cal{x:Str}{ps:A9}{dvs:Ap}{k:Nat}{sp:Sp}(h:FD K mg x st ps dvs)(ok:∀{f fd},FunD K x x st f fd->FnOk P w K mg base (CXr P w) k f fd ps sp) :
  Cal P w K mg base x k ps [] sp:=by
 let⟨f,fd,_,F,m,b,_⟩:=h.ex;exact⟨f,fd,[],ok F,m,F.kp,b,.nil⟩
def FD.cald{x:Str}{ps:A9}{dvs:Ap}{k:Nat}{sp:Sp}(h:FD K mg x st ps dvs)(ok:∀{f fd},FunD K x x st f fd->FnOk P w K mg base (CXr P w) k f fd ps sp) :
  Cal P w K mg base x k ps dvs sp:=by
 let⟨f,fd,ds,F,m,_,b,v⟩:=h.ex;exact⟨f,fd,ds,ok F,m,F.kp,b,v⟩
def zjy{h:Heap}{x:Str}{ps:A9}{dvs:Ap}{f dT:Addr}{oc toc:Am}{od an tod:Ab}{osl tsl:Af}{items:Ae}{tn:Nat}{kV doc pm cdv ct:Am}(X:K.In h)(G:h.Ns mainGlobals mg)(a:nsIn K mainGlobals x=some (some (.ref f)))(l:K.lookup f=some ⟨oc,od,.func (fnOf x x (qt st) (qg st) (zf st) (.ref dT) kV doc pm an cdv ct),osl⟩)(c:codeIn K cdv x=true)(k:keepIn K (.ref f)=true)(lt:K.lookup dT=some ⟨toc,tod,.seq items tn,tsl⟩)(hv:Vals dvs items.toList)(hb:∀(s:An)(us:A8),K.In s.heap->us.length=ps.length->BindsTo s (fnOf x x (qt st) (qg st) (zf st) (.ref dT) kV doc pm an cdv ct) ⟨us,[]⟩ (ps.zip us))(hd:∀(s:An)(us:A8),K.In s.heap->(us++items.toList).length=ps.length->BindsTo s (fnOf x x (qt st) (qg st) (zf st) (.ref dT) kV doc pm an cdv ct) ⟨us,[]⟩ (ps.zip (us++items.toList))):FD K mg x st ps dvs :=
 ⟨f,_,items.toList,⟨⟨oc,od,.ref dT,kV,doc,pm,an,cdv,ct,osl,rfl,l,c⟩,k⟩,mg_of X G a,(λs us hK hl=>by rw[cc]at hl ⊢;exact hb s us hK hl),hd,hv⟩
end
section
variable{prog:Ag}{w:World}{A:Ao}{E:A4}{s:An}{R:Result->Shared->Prop}
end
section
variable{X:Cx}{a:Expr}{ta:TA}{p p2 pos pos2:Pos}
end
section
variable{X:Cx}
end
end L2
namespace L2
open PySem PySem.Spec PyProof.Rows
variable{H:Hp}{v:V}{pi:As}{b l:Addr}{i:Nat}
inductive D where
 |non|bl (b:Bool)|int (i:Int)|str (x:Str)|lst (xs:List D)|tup (xs:List D)|ob (C:Addr) (fs:List (Str×D))
inductive Rep(H:Hp)(p:A6):V->D->Prop where
 |non:Rep H p .non .non
 |bl {b:Bool}:Rep H p (.bl b) (.bl b)
 |int {i:Int}:Rep H p (.int i) (.int i)
 |str {x:Str}:Rep H p (.str x) (.str x)
 |lst {l:Addr} {vs:Ap} {ds:List D}:p l->H l=some (.lst vs)->vs.length=ds.length->(∀(i:Nat) v d,vs[i]?=some v->ds[i]?=some d->Rep H p v d)->Rep H p (.ref l) (.lst ds)
 |tup {l:Addr} {vs:Ap} {ds:List D}:p l->H l=some (.tup vs)->vs.length=ds.length->(∀(i:Nat) v d,vs[i]?=some v->ds[i]?=some d->Rep H p v d)->Rep H p (.ref l) (.tup ds)
 |ob {l C dx:Addr} {fs:Ar} {ds:List (Str×D)}:p l->H l=some (.ins C dx fs)->fs.map (·.1)=ds.map (·.1)->(∀(i:Nat) f g,fs[i]?=some f->ds[i]?=some g->Rep H p f.2 g.2)->Rep H p (.ref l) (.ob C ds)
def Rep.keep{H H':Hp}{p q:A6}(s:∀b o,p b->H b=some o->q b/\H' b=some o){d:D}(h:Rep H p v d):Rep H' q v d:=by
 induction h with
 |non=>exact .non
 |bl=>exact .bl
 |int=>exact .int
 |str=>exact .str
 |lst pl hl e _ ih=>exact .lst (s _ _ pl hl).1 (s _ _ pl hl).2 e ih
 |tup pl hl e _ ih=>exact .tup (s _ _ pl hl).1 (s _ _ pl hl).2 e ih
 |ob pl hl e _ ih=>exact .ob (s _ _ pl hl).1 (s _ _ pl hl).2 e ih
structure Reps(H:Hp)(p:A6)(vs:Ap)(ds:List D):Prop where
 len:vs.length=ds.length
 g:∀(i:Nat) v d,vs[i]?=some v->ds[i]?=some d->Rep H p v d
section
variable{H H':Hp}{p q:A6}{vs us:Ap}{ds es:List D}{v:V}{d:D}
def Reps.keep(s:∀b o,p b->H b=some o->q b/\H' b=some o)(h:Reps H p vs ds):Reps H' q vs ds:=⟨h.len,λi v d a b=>(h.g i v d a b).keep s⟩
def Reps.nil:Reps H p [] []:=⟨rfl,λi v d h=>by simp at h⟩
theorem Reps.cons(h:Rep H p v d)(k:Reps H p vs ds):Reps H p (v::vs) (d::ds):=⟨by simp[k.len],λi u e a b=>by
 cases i with
 |zero =>
  have a:v=u:=by simpa using a
  have b:d=e:=by simpa using b
  rw[<- a,<- b];exact h
 |succ i=>exact k.g i u e (by simpa using a) (by simpa using b)⟩
def Reps.one(h:Rep H p v d):Reps H p [v] [d]:=.cons h .nil
def Reps.append(h:Reps H p vs ds)(k:Reps H p us es):Reps H p (vs++us) (ds++es):=by
 refine⟨by rw[av,av,h.len,k.len],λi v r e1 e2=>?_⟩;by_cases hi:i<vs.length
 .rw[aS hi]at e1;rw[aS (by rw[<- h.len];exact hi)]at e2;exact h.g i v r e1 e2
 .rw[aM (by lia)]at e1;rw[aM (by rw[<- h.len];lia),<- h.len]at e2;exact k.g _ v r e1 e2
def Reps.at(h:Reps H p vs ds)(e:vs[i]?=some v):∃d,ds[i]?=some d/\Rep H p v d:=by
 have hi:=(aa.mp e).1;have e2:ds[i]?=some (ds[i]'(by rw[<- h.len];exact hi)):=af _;exact⟨_,e2,h.g i v _ e e2⟩
def Reps.of(h:Reps H p vs ds)(e:ds[i]?=some d):∃v,vs[i]?=some v/\Rep H p v d:=by
 have hi:=(aa.mp e).1;have e2:vs[i]?=some (vs[i]'(by rw[h.len];exact hi)):=af _;exact⟨_,e2,h.g i _ d e2 e⟩
def Reps.take(h:Reps H p vs ds)(n:Nat):Reps H p (vs.take n) (ds.take n):=⟨by rw[aE,aE,h.len],λi v d a b=>by
 rw[gF]at a b;by_cases hn:i<n
 .rw[aq hn]at a b;exact h.g i v d a b
 .rw[ao hn]at a;cases a⟩
def Reps.drop(h:Reps H p vs ds)(n:Nat):Reps H p (vs.drop n) (ds.drop n):=⟨by rw[b6,b6,h.len],λi v d a b=>by
 rw[fZ]at a b;exact h.g _ v d a b⟩
def Reps.reverse(h:Reps H p vs ds):Reps H p vs.reverse ds.reverse:=⟨by rw[cP,cP,h.len],λi v d a b=>by
 have hi:i<vs.length:=by have:=(aa.mp a).1;rw[cP]at this;exact this
 rw[fQ hi]at a;rw[fQ (by rw[<- h.len];exact hi),<- h.len]at b;exact h.g _ v d a b⟩
def Reps.mk'(h:Reps H p vs ds)(pl:p l)(e:H l=some (.lst vs)):Rep H p (.ref l) (.lst ds):=.lst pl e h.len h.g
def Reps.mkT(h:Reps H p vs ds)(pl:p l)(e:H l=some (.tup vs)):Rep H p (.ref l) (.tup ds):=.tup pl e h.len h.g
def Rep.lst'(h:Rep H p v (.lst ds)):∃l us,v=.ref l/\p l/\H l=some (.lst us)/\Reps H p us ds:=by
 cases h with|lst a b c e=>exact⟨_,_,rfl,a,b,c,e⟩
def Rep.tup'(h:Rep H p v (.tup ds)):∃l us,v=.ref l/\p l/\H l=some (.tup us)/\Reps H p us ds:=by
 cases h with|tup a b c e=>exact⟨_,_,rfl,a,b,c,e⟩
theorem Zz{f:Str}:∀{fs:Ar}{gs:List (Str×D)},fs.map (·.1)=gs.map (·.1)->(∀(i:Nat) x y,fs[i]?=some x->gs[i]?=some y->Rep H p x.2 y.2) ->
  (∀d,gs.lookup f=some d->∃u,fs.lookup f=some u/\Rep H p u d)/\(gs.lookup f=none->fs.lookup f=none)
 |[],[],_,_=>⟨λd h=>by simp at h,λ_=>rfl⟩
 |[],_::_,e,_=>by simp at e
 |_::_,[],e,_=>by simp at e
 |(a,u)::fs,(b,c)::gs,e,r=>by
  have e1:a=b:=by simpa using(List.cons.inj e).1
  subst e1;have ih:=Zz (f:=f) (fs:=fs) (gs:=gs) (List.cons.inj e).2 λi x y hx hy=>r (i+1) x y (by simpa using hx) (by simpa using hy);by_cases hf:f=a
  .have hb:(f == a)=true:=bL.mpr hf;refine⟨λd h=>?_,λh=>?_⟩
   .simp only[List.lookup,hb]at h ⊢;cases h;exact⟨_,rfl,r 0 (a,u) (a,c) rfl rfl⟩
   .simp only[List.lookup,hb]at h;cases h
  .have hb:(f == a)=false:=bj.mpr hf;simp only[List.lookup,hb];exact ih
def Rep.ob'{C:Addr}{gs:List (Str×D)}(h:Rep H p v (.ob C gs)):∃l dx fs,v=.ref l/\p l/\H l=some (.ins C dx fs)/\(∀f d,gs.lookup f=some d->∃u,fs.lookup f=some u/\Rep H p u d)/\(∀f,gs.lookup f=none->fs.lookup f=none):=by
 cases h with|ob a b c e=>exact⟨_,_,_,rfl,a,b,λf=>(Zz c e).1,λf=>(Zz c e).2⟩
noncomputable abbrev D.ints(ns:A7):D:=.lst (ns.map D.int)
theorem reps_ints:∀{ns:A7},Reps H p (ns.map V.int) (ns.map D.int)
 |[]=>.nil
 |_::_=>.cons .int reps_ints
theorem JO:∀{ns:A7}{vs:Ap},Reps H p vs (ns.map D.int)->vs=ns.map V.int
 |[],[],_=>rfl
 |[],_::_,h=>by have:=h.len;simp at this
 |_::_,[],h=>by have:=h.len;simp at this
 |n::ns,v::vs,h=>by
  have h1:=h.g 0 v (.int n) rfl rfl;have h2:Reps H p vs (ns.map D.int):=⟨by have:=h.len;simpa using this,λi u d a b=>h.g (i+1) u d (by simpa using a) (by simpa using b)⟩;cases h1;rw[bJ,JO h2]
def Rep.ints'{ns:A7}(h:Rep H p v (.ints ns)):∃l,v=.ref l/\p l/\H l=some (.lst (ns.map V.int)):=by
 let⟨l,us,e,a,b,c⟩:=h.lst';rw[JO c]at b;exact⟨l,e,a,b⟩
def qe{ns:A7}(pl:p l)(e:H l=some (.lst (ns.map V.int))):Rep H p (.ref l) (.ints ns):=reps_ints.mk' pl e
end
def Off(ms:Ac):Addr->Prop:=λb=>b∉ms
def Fr(ms:Ac)(H H':Hp):Prop:=∀b o,b∉ms->H b=some o->H' b=some o
section
variable{H H' H2:Hp}{ms ns:Ac}{x:Addr}{o:HO}{v:V}{d:D}{vs:Ap}{ds:List D}
def Fr.refl:Fr ms H H:=λ_ _ _ h=>h
def Fr.trans(a:Fr ms H H')(b:Fr ms H' H2):Fr ms H H2:=λc o n h=>b c o n (a c o n h)
def Fr.more(a:Fr ms H H')(s:∀b,b∈ms->b∈ns):Fr ns H H':=λb o n h=>a b o (λz=>n (s b z)) h
def Same.fr(a:Same H H'):Fr ms H H':=λb o _ h=>a b o h
def qx(h:x∈ms):Fr ms H (upd H x o):=λb u n hb=>by
 rw[pF (λz=>n (by rw[z];exact h))];exact hb
def zc1(h:H x=none):Fr ms H (upd H x o):=(same_upd' h).fr where
 same_upd' {H:Hp} {x:Addr} {o:HO} (h:H x=none):Same H (upd H x o):=λb u hb=>by rw[pF (pG hb h)];exact hb
def Fr.same(a:Fr ms H H')(h:∀m∈ms,H m=none):Same H H':=λb o hb=>a b o (λz=>by rw[h b z]at hb;cases hb) hb
def Rep.fr(h:Rep H (Off ms) v d)(s:Fr ms H H'):Rep H' (Off ms) v d:=h.keep λb o pb hb=>⟨pb,s b o pb hb⟩
def Reps.fr(h:Reps H (Off ms) vs ds)(s:Fr ms H H'):Reps H' (Off ms) vs ds:=h.keep λb o pb hb=>⟨pb,s b o pb hb⟩
def Rep.more(h:Rep H (Off ms) v d)(s:∀b,b∈ns->b∈ms\/H b=none):Rep H (Off ns) v d:=h.keep λb o pb hb=>⟨λz=>(s b z).elim pb (λq=>by rw[q]at hb;cases hb),hb⟩
def Reps.more(h:Reps H (Off ms) vs ds)(s:∀b,b∈ns->b∈ms\/H b=none):Reps H (Off ns) vs ds:=h.keep λb o pb hb=>⟨λz=>(s b z).elim pb (λq=>by rw[q]at hb;cases hb),hb⟩
def Rep.same(h:Rep H (Off ms) v d)(s:Same H H'):Rep H' (Off ms) v d:=h.fr s.fr
def Reps.same(h:Reps H (Off ms) vs ds)(s:Same H H'):Reps H' (Off ms) vs ds:=h.fr s.fr
def Rep.ahead(h:Rep H (Off []) v d)(s:Same H H')(n:∀m∈ms,H m=none):Rep H' (Off ms) v d:=h.keep λb o _ hb=>⟨(λz=>nomatch (n b z).symm.trans hb),s b o hb⟩
def Reps.ahead(h:Reps H (Off []) vs ds)(s:Same H H')(n:∀m∈ms,H m=none):Reps H' (Off ms) vs ds:=h.keep λb o _ hb=>⟨(λz=>nomatch (n b z).symm.trans hb),s b o hb⟩
def Rep.all{p:A6}(h:Rep H p v d):Rep H (Off []) v d:=h.keep λb o _ hb=>⟨(λz=>nomatch z),hb⟩
def Reps.all{p:A6}(h:Reps H p vs ds):Reps H (Off []) vs ds:=h.keep λb o _ hb=>⟨(λz=>nomatch z),hb⟩
end
def fd_small{i j:Int}(h1:0<j)(h2:j<1000000):CFd i j:=fd_ok h1 (aH (show j.natAbs<2^20 by lia) (Nat.pow_le_pow_right (by decide) (by decide)))
def Xz{α:Type}{xs:List α}{k:Int}(h0:0<=k)(h1:k<xs.length):seqIndex? k xs.length=some k.toNat:=by
 unfold seqIndex?;have:¬k<0:=by lia
 simp[this,h0,h1]
def w6{K:A0}{H H':Hp}{xs:Ap}(s:Same H H')(h:SqL K H l xs):SqL K H' l xs:=s.seq h
def zfP{X:Cx}:OpR X (compareOp .NotIn) (rIn X.K true):=zai
noncomputable def del(H:Hp)(x:Addr):Hp:=λb=>if b=x then none else H b
def jW{x:Addr}:Same (del H x) H:=λb o h=>by
 unfold del at h;by_cases e:b=x
 .rw[aq e]at h;cases h
 .rw[ao e]at h;exact h
def zc8{x b:Addr}(h:b≠x):del H x b=H b:=by unfold del;rw[ao h]
def X6{x y:Addr}{o:HO}(h:y≠x):del (upd H y o) x=upd (del H x) y o:=by
 funext b
 by_cases e:b=x
 .subst e;rw[pF (ba h)];unfold del;rw[aq rfl,aq rfl]
 .rw[zc8 e];by_cases e2:b=y
  .subst e2;rw[pE,pE]
  .rw[pF e2,pF e2,zc8 e]
def zc7{x:Addr}{o:HO}:del (upd H x o) x=del H x:=by
 funext b
 unfold del;by_cases e:b=x
 .rw[aq e,aq e]
 .rw[ao e,ao e,pF e]
def zhu{x:Addr}{o:HO}(h:H x=none):del (upd H x o) x=H:=by
 funext b
 unfold del;by_cases e:b=x
 .rw[aq e,e,h]
 .rw[ao e,pF e]
section
variable{K:A0}{H:Hp}{Q:VK}{p:A6}{v:V}{d:D}{ds:List D}{f:Str}
def zg3{C:Addr}{gs:List (Str×D)}{R:V->Prop}(h:Rep H p v (.ob C gs))(c:Cls K C)(n:NoAttr K C f)(e:gs.lookup f=some d)(q:∀u,Rep H p u d->R u) :
  ∃a C dx fs u,v=.ref a/\H a=some (.ins C dx fs)/\Cls K C/\NoAttr K C f/\fs.lookup f=some u/\R u:=by
 let⟨l,dx,fs,rfl,_,a,b,_⟩:=h.ob';let⟨u,e1,r⟩:=b f d e;exact⟨l,C,dx,fs,u,rfl,a,c,n,e1,q u r⟩
def zh5{vs:Ap}{i:Int}(h:Reps H p vs ds)(e:atI ds i=some d):∃u,atI vs i=some u/\Rep H p u d:=by
 unfold atI at e ⊢;rw[h.len];cases z:ixN ds.length i with
 |none=>rw[z]at e;cases e
 |some j=>rw[z]at e;exact h.of (i:=j) e
end
def xq{H H':Hp}{p:A6}{d:D}(h:Rep H p v d)(s:Same H H'):Rep H' p v d:=h.keep λb o pb hb=>⟨pb,s b o hb⟩
section
variable{X:Cx}
def zjm(K:A0):R2:=λx y H Q=>∃p xs i v,x=.ref p/\y=.int i/\SqL K H p xs/\0<=i/\atI xs i=some v/\Q v H
def zgk:zjC X (zjm X.K):=by
 intro p6 s σ H x y v u Q I rx ry h;let⟨p,xs,i,z,rfl,rfl,hq,h0,he,q⟩:=h;cases rx;let⟨t,rfl⟩:=ry;let⟨pf,r,pl,hz⟩:=I.list hq;let⟨j,h1,h2,h3,h4,h5⟩:=JT he;let⟨w,ew,rw'⟩:=r.get h2;have hl:=r.length;have hn:=ZA;have hj:i.toNat=j:=by
  rw[fq h0 h5]at h1;exact aT h1
 exact wpAny_getItem_list pl.isList h0 (by lia) (by rw[hj];simpa using ew) ⟨z,H,I,rw',q⟩
end
inductive Hard:D->Prop where
 |non:Hard .non
 |bl {b:Bool}:Hard (.bl b)
 |int {i:Int}:Hard (.int i)
 |str {x:Str}:Hard (.str x)
 |tup {ds:List D}:(∀(i:Nat) d,ds[i]?=some d->Hard d)->Hard (.tup ds)
def Rep.hard{p q:A6}{d:D}(h:Rep H p v d)(hd:Hard d)(k:∀b xs,p b->H b=some (.tup xs)->q b):Rep H q v d:=by
 induction h with
 |non=>exact .non
 |bl=>exact .bl
 |int=>exact .int
 |str=>exact .str
 |lst pl hl e _ ih=>cases hd
 |tup pl hl e _ ih =>
  cases hd with
  |tup hd=>exact .tup (k _ _ pl hl) hl e λi v d a b=>ih i v d a b (hd i d b)
 |ob pl hl e _ ih=>cases hd
def zfT{as:Ac}(nd:as.Nodup){i j:Nat}(h1:as[i]?=some b)(h2:as[j]?=some b):i=j:=by
 let⟨hi,e1⟩:=aa.mp h1;let⟨hj,e2⟩:=aa.mp h2;have P:=da.mp nd;rcases ee i j with h|h|h
 .exact absurd (e1.trans e2.symm) (P i j hi hj h)
 .exact h
 .exact absurd (e2.trans e1.symm) (P j i hj hi h)
structure NL(H:Hp)(p:A6)(G:Addr)(as:Ac)(xss:List (List D)):Prop where
 out:H G=some (.lst (as.map V.ref))
 len:as.length=xss.length
 nd:as.Nodup
 nG:G∉as
 g:∀(i:Nat) b xs,as[i]?=some b->xss[i]?=some xs->∃vs,H b=some (.lst vs)/\Reps H p vs xs
section
variable{H H':Hp}{p q:A6}{G:Addr}{as:Ac}{xss:List (List D)}
def NL.keep(h:NL H p G as xss)(s:∀b o,(b=G\/b∈as\/p b)->H b=some o->H' b=some o)(sp:∀b,p b->H b≠none->q b):NL H' q G as xss:=by
 refine⟨s _ _ (.inl rfl) h.out,h.len,h.nd,h.nG,λi b xs e1 e2=>?_⟩;let⟨vs,h1,h2⟩:=h.g i b xs e1 e2;exact⟨vs,s _ _ (.inr (.inl (ah e1))) h1,h2.keep λc o pc hc=>⟨sp c pc (by rw[hc];intro z;cases z),s c o (.inr (.inr pc)) hc⟩⟩
def NL.same(h:NL H p G as xss)(s:Same H H'):NL H' p G as xss:=h.keep (λb o _ hb=>s b o hb) λ_ hp _=>hp
def NL.at(h:NL H p G as xss){xs:List D}(e:xss[i]?=some xs):∃b vs,as[i]?=some b/\H b=some (.lst vs)/\Reps H p vs xs:=by
 have hi:=(aa.mp e).1;have e2:as[i]?=some (as[i]'(by rw[h.len];exact hi)):=af _;let⟨vs,h1,h2⟩:=h.g i _ xs e2 e;exact⟨_,vs,e2,h1,h2⟩
def zaq{H:Hp}{p:A6}{G:Addr}(h:H G=some (.lst [])):NL H p G [] []:=⟨h,rfl,gx,by simp,λi b xs e=>by simp at e⟩
def NL.rep(h:NL H p G as xss):Rep H (Off []) (.ref G) (.lst (xss.map D.lst)):=by
 refine .lst (λz=>nomatch z) h.out (by rw[ae,ae,h.len]) λi v d e1 e2=>?_;rw[ai,am]at e1 e2;let⟨b,e1,rfl⟩:=e1;let⟨xs,e2,rfl⟩:=e2;let⟨vs,h1,h2⟩:=h.g i b xs e1 e2;exact h2.all.mk' (λz=>nomatch z) h1
def NL.put{vs:Ap}{ys:List D}(h:NL H p G as xss)(e:as[i]?=some b)(np:¬p b)(r:Reps H p vs ys):NL (upd H b (.lst vs)) p G as (xss.set i ys):=by
 have hb:=ah e;have nG:G≠b:=λz=>h.nG (by rw[z];exact hb);have rk:∀{us:Ap}{zs:List D},Reps H p us zs->Reps (upd H b (.lst vs)) p us zs:=λr=>r.keep λc o pc hc=>⟨pc,by rw[pF (λz=>np (by rw[<- z];exact pc))];exact hc⟩;refine⟨by rw[pF nG];exact h.out,by rw[a7,h.len],h.nd,h.nG,λj c xs e1 e2=>?_⟩;by_cases hj:j=i
 .subst hj;rw[e]at e1;cases e1;have hl:j<xss.length:=by rw[<- h.len];exact(aa.mp e).1
  rw[aN hl]at e2;cases e2;exact⟨vs,pE,rk r⟩
 .rw[aW (ba hj)]at e2;have nc:c≠b:=λz=>by
   subst z;exact hj (zfT h.nd e1 e)
  let⟨us,h1,h2⟩:=h.g j c xs e1 e2;exact⟨us,by rw[pF nc];exact h1,rk h2⟩
def NL.push{vs:Ap}{ys:List D}(h:NL H p G as xss)(hb:H b=some (.lst vs))(nb:b∉as)(nG:b≠G)(np:¬p G)(r:Reps H p vs ys):NL (upd H G (.lst (as.map V.ref++[.ref b]))) p G (as++[b]) (xss++[ys]):=by
 have rk:∀{us:Ap}{zs:List D},Reps H p us zs->Reps (upd H G (.lst (as.map V.ref++[.ref b]))) p us zs:=λr=>r.keep λc o pc hc=>⟨pc,by rw[pF (λz=>np (by rw[<- z];exact pc))];exact hc⟩;refine⟨by rw[pE,aZ];rfl,by simp[h.len],?_,?_,λj c xs e1 e2=>?_⟩
 .rw[nodup_append];refine⟨h.nd,by simp,?_⟩;intro x hx y hy z;rw[ak.mp hy]at z;exact nb (by rw[<- z];exact hx)
 .intro z;rcases ax.mp z with z|z
  .exact h.nG z
  .exact nG (ak.mp z).symm
 .by_cases hj:j<as.length
  .rw[aS hj]at e1;rw[aS (by rw[<- h.len];exact hj)]at e2;let⟨us,h1,h2⟩:=h.g j c xs e1 e2;have nc:c≠G:=λz=>h.nG (by rw[<- z];exact ah e1);exact⟨us,by rw[pF nc];exact h1,rk h2⟩
  .rw[aM (by lia)]at e1;rw[aM (by rw[<- h.len];lia),<- h.len]at e2;have hj0:j-as.length=0:=by have:=(aa.mp e1).1;simp at this;lia
   rw[hj0]at e1 e2;have e1:b=c:=by simpa using e1
   have e2:ys=xs:=by simpa using e2
   subst e1 e2;exact⟨vs,by rw[pF nG];exact hb,rk r⟩
end
def zZ(H:Hp):Addr->Prop:=λb=>∃xs,H b=some (.tup xs)
def NL.tup{H H':Hp}{G:Addr}{as:Ac}{xss:List (List D)}(h:NL H (zZ H) G as xss)(s:∀b o,(b=G\/b∈as\/zZ H b)->H b=some o->H' b=some o):NL H' (zZ H') G as xss :=
 h.keep s λb hb _=>by
  let⟨xs,hx⟩:=hb;exact⟨xs,s b _ (.inr (.inr ⟨xs,hx⟩)) hx⟩
def NL.isl{G:Addr}{as:Ac}{p:A6}{xss:List (List D)}(h:NL H p G as xss)(hb:b∈G::as):∃vs,H b=some (.lst vs):=by
 rcases aC.mp hb with rfl|hb
 .exact⟨_,h.out⟩
 .obtain⟨j,hj⟩:=bF hb;let⟨vs,h1,_⟩:=h.g j b _ hj (af (by rw[<- h.len];exact(aa.mp hj).1));exact⟨vs,h1⟩
def uc{P:Ag}{w:World}{K:A0}{mg:A5}{base:Heap}{x:Str}{k:Nat}{G:List V->Sp->Prop}{ps:A9}{dvs:Ap}{sp:Sp}(c:Cal P w K mg base x k ps dvs sp)(h:G dvs sp):∃ps dvs sp,Cal P w K mg base x k ps dvs sp/\G dvs sp:=⟨ps,dvs,sp,c,h⟩
def un2{K:A0}{t:Addr}{x y:V}{G:V->V->Prop}(h:H t=some (.tup [x,y]))(q:G x y):∃a xs,V.ref t=.ref a/\SqT K H a xs/\xs.length=2/\∃v r,xs=v::r/\∃v' r',r=v'::r'/\r'=[]/\G v v':=⟨t,_,rfl,SqT.of h,rfl,x,_,rfl,y,_,rfl,rfl,q⟩
def ra{K:A0}{a C dx:Addr}{fs:Ar}{f:Str}{G:V->Prop}(h:H a=some (.ins C dx fs))(c:Cls K C)(n:NoAttr K C f)(e:fs.lookup f=some v)(q:G v):∃a' C dx fs v,V.ref a=.ref a'/\H a'=some (.ins C dx fs)/\Cls K C/\NoAttr K C f/\fs.lookup f=some v/\G v:=⟨a,C,dx,fs,v,rfl,h,c,n,e,q⟩
section
variable{prog:Ag}{w:World}{A:Ao}{E:A4}{s:An}
noncomputable abbrev lit(l:Addr):Obj:={cls:=.type (QW true),data:=.fields #[.ref l,.int 0 0]}
end
section
variable{prog:Ag}{w:World}{A:Ao}{E:A4}{s:An}
end
section
variable{X:Cx}{pos pos':Pos}{x:Str}
def zr(i:Nat){e:Expr}{te:TE}(hN:X.N.Nodup)(he:PE X e te)(hi:X.N[i]?=some x:=by rfl)(hx:Loc X.env.scope x:=by exact Or.inl rfl)(hs:swapsWith e (some (.Name x pos')) pos.line X.env=pure false:=by rfl)(hf:Or (X.fn x=true) (X.env.scope.names.lookup x=some .local):=by walk_at"p"):PS X (.Assign [.Name x pos'] e pos) (tAsg te (gName i)):=QP hN hi hx he hs hf
def zX(i:Nat)(hN:X.N.Nodup)(hi:X.N[i]?=some x:=by rfl)(hx:Loc X.env.scope x:=by exact Or.inl rfl)(hf:Or (X.fn x=true) (X.env.scope.names.lookup x=some .local):=by walk_at"p"):PG X (.Name x pos) (gName i):=Z8 hN hi hx hf
def zq{a b:Expr}{ta tb:TE}(ha:PE X a ta)(hb:PE X b tb)(hs:zd4 b:=by intro _ _;rfl):PE X (.Subscript a b pos) (tOp (rIx X.K) ta tb):=zjp ziS ha hb hs
end
section
variable{X:Cx}
end
section
variable{X:Cx}{G:GK}{x y:Str}{np mp pos hpos gpos:Pos}{body su sv:List Stmt}{b₀ c₀:Stmt}{tb:List (Addr×Obj)->GK->TS}{th ti:List (Addr×Obj)->Addr->TS}
end
section
variable{X:Cx}
end
section
variable{X:Cx}
end
section
variable{κ:Type}[DecidableEq κ]
noncomputable def Jo(pi:List (κ×V))(k:κ):Option V:=(pi.find? λkv=>decide (kv.1=k)).map (·.2)
noncomputable def zbq(pi:List (κ×V))(k:κ)(v:V):List (κ×V) :=
 if (pi.any λkv=>decide (kv.1=k))=true then pi.map (λkv=>if kv.1=k then(kv.1,v)else kv)else pi++[(k,v)]
noncomputable def zh3(pi:List (κ×V))(k:κ):List (κ×V):=pi.filter λkv=>decide (kv.1≠k)
def JW{p:κ×V}{r:List (κ×V)}{k:κ}(e:p.1=k):Jo (p::r) k=some p.2:=by simp[Jo,cV,e]
def JX{p:κ×V}{r:List (κ×V)}{k:κ}(e:¬p.1=k):Jo (p::r) k=Jo r k:=by simp[Jo,cV,e]
theorem zaW(k:κ):∀pi:List (κ×V),(pi.any λkv=>decide (kv.1=k))=(Jo pi k).isSome
 |[]=>rfl
 |p::r=>by
  rw[dZ];by_cases e:p.1=k
  .simp only[JW e,bh e,Bool.true_or,Option.isSome_some]
  .rw[JX e,a8 e,Bool.false_or];exact zaW k r
def RelO.isSome_eq{o:Aq}{u:Option Value}(r:RelO o u):o.isSome=u.isSome:=by
 cases o with
 | none=>cases u with
  |none=>rfl
  |some _=>exact(show False from r).elim
 | some _=>cases u with
  |none=>exact(show False from r).elim
  |some _=>rfl
def RelO.getD{o:Aq}{u:Option Value}{d:V}{d':Am}(r:RelO o u)(rd:RelV d d'):RelV (o.getD d) (u.getD d'):=by
 cases o with
 | none=>cases u with
  |none=>exact rd
  |some _=>exact(show False from r).elim
 | some _=>cases u with
  |none=>exact(show False from r).elim
  |some _=>exact r
def KV.val{pi:List (κ×V)}{vs:List (κ×Value)}(r:KV pi vs)(k:κ):RelO (Jo pi k) (valueAt vs k):=by
 unfold KV at r
 induction r with
 |nil=>exact True.intro
 | @cons p q ps qs h t ih =>
  let⟨h1,h2⟩:=h;by_cases e:p.1=k
  .have e':q.1=k:=h1.symm.trans e;have b:valueAt (q::qs) k=some q.2:=by simp[valueAt,cV,e']
   rw[JW e,b];exact h2
  .have e':¬q.1=k:=λz=>e (h1.trans z);have b:valueAt (q::qs) k=valueAt qs k:=by simp[valueAt,cV,e']
   rw[JX e,b];exact ih
def KV.any{pi:List (κ×V)}{vs:List (κ×Value)}(r:KV pi vs)(k:κ):(pi.any λkv=>decide (kv.1=k))=vs.any λkv=>decide (kv.1=k):=by
 unfold KV at r
 induction r with
 |nil=>rfl
 |cons h t ih=>rw[dZ,dZ,ih,h.1]
theorem KV.repl{pi:List (κ×V)}{vs:List (κ×Value)}(r:KV pi vs)(k:κ){y:V}{u:Am}(ry:RelV y u) :
  KV (pi.map λkv=>if kv.1=k then(kv.1,y)else kv) (vs.map λkv=>if kv.1=k then(kv.1,u)else kv):=by
 unfold KV at r ⊢
 induction r with
 |nil=>exact .nil
 | @cons p q ps qs h t ih =>
  rw[bJ,bJ];refine .cons ?_ ih;let⟨h1,h2⟩:=h;by_cases e:p.1=k
  .rw[aq e,aq (h1.symm.trans e)];exact⟨h1,ry⟩
  .rw[ao e,ao (λz=>e (h1.trans z))];exact⟨h1,h2⟩
def KV.put{pi:List (κ×V)}{vs:List (κ×Value)}(r:KV pi vs)(k:κ){y:V}{u:Am}(ry:RelV y u):KV (zbq pi k y) (stored vs k u):=by
 unfold zbq stored;rw[r.any k];by_cases e:(vs.any λkv=>decide (kv.1=k))=true
 .rw[aq e,aq e];exact r.repl k ry
 .rw[ao e,ao e];exact Paired.snoc r ⟨rfl,ry⟩
def KV.drop{pi:List (κ×V)}{vs:List (κ×Value)}(r:KV pi vs)(k:κ):KV (zh3 pi k) (without vs k):=by
 unfold KV at r ⊢;unfold zh3 without
 induction r with
 |nil=>exact .nil
 | @cons p q ps qs h t ih =>
  let⟨h1,h2⟩:=h;rw[List.filter_cons,List.filter_cons];by_cases e:p.1=k
  .have a:¬decide (p.1≠k)=true:=by simp[e]
   have b:¬decide (q.1≠k)=true:=by simp[h1.symm.trans e]
   rw[ao a,ao b];exact ih
  .have e':¬q.1=k:=λz=>e (h1.trans z);have a:decide (p.1≠k)=true:=by simp[e]
   have b:decide (q.1≠k)=true:=by simp[e']
   rw[aq a,aq b];exact .cons ⟨h1,h2⟩ ih
def KV.keys{pi:List (κ×V)}{vs:List (κ×Value)}(r:KV pi vs):pi.map (·.1)=vs.map (·.1):=by
 unfold KV at r
 induction r with
 |nil=>rfl
 |cons h t ih=>rw[bJ,bJ,ih,h.1]
def KV.length{pi:List (κ×V)}{vs:List (κ×Value)}(r:KV pi vs):pi.length=vs.length:=cZ r
end
abbrev KT(H:Hp):List (List Key×V)->List (List Key×Addr×Value)->Prop:=Paired λp q=>p.1=q.1/\H q.2.1=some (.tup (p.1.map kV))/\RelV p.2 q.2.2
def KT.val{xs:List (List Key×Addr×Value)}(r:KT H pi xs)(k:List Key):RelO (Jo pi k) ((atKey xs k).map (·.2)):=by
 induction r with
 |nil=>exact True.intro
 | @cons p q ps qs h t ih =>
  let⟨h1,_,h2⟩:=h;by_cases e:p.1=k
  .have e':q.1=k:=h1.symm.trans e;have b:atKey (q::qs) k=some q.2:=by simp[atKey,cV,e']
   rw[JW e,b];exact h2
  .have e':¬q.1=k:=λz=>e (h1.trans z);have b:atKey (q::qs) k=atKey qs k:=by simp[atKey,cV,e']
   rw[JX e,b];exact ih
theorem KT.repl{xs:List (List Key×Addr×Value)}(r:KT H pi xs)(k:List Key){y:V}{u:Am}(ry:RelV y u) :
  KT H (pi.map λkv=>if kv.1=k then(kv.1,y)else kv) (xs.map (putAt k u)):=by
 induction r with
 |nil=>exact .nil
 | @cons p q ps qs h t ih =>
  rw[bJ,bJ];refine .cons ?_ ih;let⟨h1,h2,h3⟩:=h;unfold putAt;by_cases e:p.1=k
  .rw[aq e,aq (h1.symm.trans e)];exact⟨h1,h2,ry⟩
  .rw[ao e,ao (λz=>e (h1.trans z))];exact⟨h1,h2,h3⟩
def KT.put{xs:List (List Key×Addr×Value)}(r:KT H pi xs)(k:List Key){y:V}{u:Am}(hb:H b=some (.tup (k.map kV)))(ry:RelV y u) :
  KT H (zbq pi k y) (storedH xs k b u):=by
 have e:(pi.any λkv=>decide (kv.1=k))=(atKey xs k).isSome:=by
  rw[zaW,(r.val k).isSome_eq,d8]
 unfold zbq storedH;rw[e];by_cases q:(atKey xs k).isSome=true
 .rw[aq q,aq q];exact r.repl k ry
 .rw[ao q,ao q];exact Paired.snoc r ⟨rfl,hb,ry⟩
def KT.keeps{H H':Hp}{xs:List (List Key×Addr×Value)}(r:KT H pi xs)(ht:∀b ys,H b=some (.tup ys)->H' b=some (.tup ys)):KT H' pi xs :=
 Paired.mapP r λ_ _ z=>⟨z.1,ht _ _ z.2.1,z.2.2⟩
section
variable{P:Ag}{w:World}{H:Hp}{h:Heap}{a:Addr}
end
def DGet(H:Hp)(a:Addr)(y:V)(r:Aq):Prop :=
 (∃pi k,Rd H a (.dK pi)/\y=kV k/\r=Jo pi k)\/∃pi k b,Rd H a (.dT pi)/\y=.ref b/\H b=some (.tup (k.map kV))/\r=Jo pi k
def DPut(H:Hp)(a:Addr)(y v:V)(H':Hp):Prop :=
 (∃pi k,H a=some (.dK pi)/\y=kV k/\pi.length<sizeLine/\H'=upd H a (.dK (zbq pi k v))) \/
 ∃pi k b,H a=some (.dT pi)/\y=.ref b/\H b=some (.tup (k.map kV))/\pi.length<sizeLine/\H'=upd H a (.dT (zbq pi k v))
def DGet.k{a:Addr}{pi:List (Key×V)}{k:Key}(e:H a=some (.dK pi)):DGet H a (kV k) (Jo pi k):=.inl ⟨pi,k,.inl e,rfl,rfl⟩
def DGet.t{a b:Addr}{k:List Key}(e:H a=some (.dT pi))(eb:H b=some (.tup (k.map kV))):DGet H a (.ref b) (Jo pi k):=.inr ⟨pi,k,b,.inl e,rfl,eb,rfl⟩
def DPut.k{a:Addr}{pi:List (Key×V)}{k:Key}(e:H a=some (.dK pi))(hl:pi.length<sizeLine):DPut H a (kV k) v (upd H a (.dK (zbq pi k v))):=.inl ⟨pi,k,e,rfl,hl,rfl⟩
def DPut.t{a b:Addr}{k:List Key}(e:H a=some (.dT pi))(eb:H b=some (.tup (k.map kV)))(hl:pi.length<sizeLine) :
  DPut H a (.ref b) v (upd H a (.dT (zbq pi k v))):=.inr ⟨pi,k,b,e,rfl,eb,hl,rfl⟩
section
variable{X:Cx}{p6:A3}{σ:St}{H:Hp}{s:An}{a:Addr}{y v:V}{u r:Am}{o:Aq}{A:Ao}{E:A4}
def Inv.big(I:Inv X p6 σ H s):sysModules<s.heap.objs.size:=by
 have h:mainGlobals<s.heap.objs.size:=(I.mod.glob.keeps I.bk).lt;exact eB (by decide) h
def zhw{h':Heap}{t':Nat}{ob:HO}(I:Inv X p6 σ H s)(mu:Mut (H a))(hs:Heap.SameBut a s.heap h')(he:∃q,h'.get? a=some q)(new:ObjOk X.prog X.w (upd H a ob) h' a ob) :
  Inv X p6 σ (upd H a ob) {s with heap:=h',toks:=t'} :=
 I.write (x:=a) (e:=a) mu (.inl rfl) (λb q hb z=>(hs.2 b hb).trans z) he new
end
section
variable{X:Cx}{p6:A3}{σ:St}{H:Hp}{s:An}{a:Addr}{pi:List (Key×V)}{k:Key}{u:Am}{A:Ao}{E:A4}
end
def zjD(i:Expr):Prop:=∀ov iv,subscripted i false ov iv=operate [ov,iv] (getItem ov iv)
theorem zgM{prog:Ag}{w:World}{A:Ao}{E:A4}{s:An}{env:Env}{value slice:Expr}{pos:Pos}{T id:String}{Q:A4}(hl:typeLookup (.type T) "__getitem__"=pure (some (.builtin id)))(hs:zjD slice)(h:wpAny (model prog w) A (eval value env) (λo s₁=>wpAny (model prog w) A (eval slice env) (λi s₂=>s₂.TypeIs o T/\wpAny (model prog w) A (getItem o i) Q E s₂) E s₁) E s) :
  wpAny (model prog w) A (eval (.Subscript value slice pos) env) Q E s:=by
 refine Subscript_ (aV h (λo s₁ h₁=>aV h₁ (λi s₂ h₂=>?_) λ_ _ x=>x) λ_ _ x=>x);let⟨hT,h₂⟩:=h₂;unfold subscriptTail;refine ac ?_;rw[getitemInPython_of_ne hT.not_modules];refine ac (wpAny_specialOf hT hl ?_);have fin:wpAny (model prog w) A (subscripted slice false o i) (λr s₃=>wpAny (model prog w) A (letTemporaryGo value o r >>= λ_=>pure r) Q E s₃) E s₂:=by
  rw[hs o i];exact wpAny_operating (aV h₂ (λr s₃ h₃=>ac (wpAny_letTemporaryGo (aw h₃))) λ_ _ x=>x)
 first
  |exact aw (ac fin)
  |exact ac (aw (ac fin))
  |exact ac fin
section
variable{X:Cx}{o i e value:Expr}{pos pos' tpos:Pos}{td ty tv:TE}
end
section
variable{X:Cx}{pos:Pos}
end
section
variable{X:Cx}{p6:A3}{σ:St}{H:Hp}{s:An}{a:Addr}{y d:V}{u r:Am}{o:Aq}{A:Ao}{E:A4}
end
section
variable{X:Cx}{o e f:Expr}{apos cpos:Pos}{td ty tx:TE}
end
section
variable{κ:Type}[DecidableEq κ]
end
end L2
namespace L2
open PySem PySem.Spec PySem.Calls PyProof.Rows
section
variable{X:Cx}
end
end L2
namespace L2
open PySem PySem.Spec PyProof.Rows
variable{items:Ae}
section
variable{prog:Ag}{w:World}{A:Ao}{E:A4}{s:An}{it d:Addr}{i ep:Nat}{es:Array DictEntry}{od:Obj}
end
theorem wj{α β:Type}{F:α->β->Prop}:∀{l₁:List α}{l₂:List β},Paired F l₁ l₂->∀{i:Nat}{x:α}{y:β},l₁[i]?=some x->l₂[i]?=some y->F x y
 |_,_,.nil,_,_,_,h,_=>nomatch h
 |_,_,.cons r t,0,_,_,h,h'=>by cases h;cases h';exact r
 |_,_,.cons r t,i+1,_,_,h,h'=>wj t h h'
section
variable{prog:Ag}{w:World}
structure KItem(prog:Ag)(w:World)(κ:Type)[DecidableEq κ](d:Nat) where
 is:Heap->κ->Value->Prop
 hash:κ->Int
 draws:κ->Nat
 inj:∀{h:Heap}{v:Am}{x y:κ},is h x v->is h y v->x=y
 keeps:∀{h h':Heap}{k:κ}{v:Am}{a:Addr}{o:Obj}{es:Array DictEntry}{ep:Nat},is h k v->h.get? a=some o->o.data=.dict es ep->Heap.SameBut a h h'->is h' k v
 pyHash:∀{A:Ao}{E:A4}{s:An}{k:κ}{v:Am}{Q:Int->Shared->Prop},A.units+d<cLine->is s.heap k v->Q (hash k) {s with toks:=s.toks+draws k}->wpAny (model prog w) A (PySem.pyHash v) Q E s
 eq:∀{A:Ao}{s:An}{x y:κ}{u v:Am},A.units+d<cLine->is s.heap x u->is s.heap y v->SeqAt.EqAt A s u v (decide (x=y))
 quiet:∀{A:Ao}{E:A4}{s:An}{n:Nat}{k:κ}{v:Am}{Q:Bool->Shared->Prop},d<=n->is s.heap k v->Q true s->wpAny (model prog w) A (eqIsQuiet n v) Q E s
noncomputable def oiV:Option Int->V
 |none=>.non
 |some n=>.int n
def zbx(x:Aa):jV (oiV x)=true:=by cases x<;>rfl
def ziF(x y:Aa):eqV (oiV x) (oiV y)=decide (x=y):=by
 cases x with
 |none=>cases y<;>simp[oiV,eqV]
 |some a =>
  cases y with
  |none=>simp[oiV,eqV]
  |some b =>
   show(a == b)=decide (some a=some b)
   by_cases e:a=b<;>simp[e]
def zhe{x y:Aa}{v:Am}(h1:RelV (oiV x) v)(h2:RelV (oiV y) v):x=y:=by
 cases x<;>cases y
 .rfl
 .cases h1;let⟨t,e⟩:=h2;cases e
 .cases h2;let⟨t,e⟩:=h1;cases e
 .obtain⟨t,rfl⟩:=h1;let⟨t,e⟩:=h2;cases e;rfl
noncomputable def zjw:Option Int->Int
 |none=>reduceHash 0xFCA86420
 |some n=>hashInt n
def zby{x:Aa}{v:Am}(h:RelV (oiV x) v):carriedByValue v=true:=by
 cases x with
 |none=>cases h;rfl
 |some n=>let⟨t,rfl⟩:=h;rfl
noncomputable def jE(prog:Ag)(w:World):KItem prog w Aa 0 where
 is:=λ_ k v=>RelV (oiV k) v
 hash:=zjw
 draws:=λ_=>1
 inj:=zhe
 keeps:=λh _ _ _=>h
 pyHash:=by
  intro A E s k v Q hu h q;cases k with
  |none =>
   cases h;exact gc (T:="NoneType") rfl F.slot_NoneType_hash F.entry_NoneType_hash (F.args_NoneType_hash_1 _) (beq_builtin_none _) (.inr (by lia)) (ac (aw (ac (wpAny_mkInt (aw ⟨_,_,rfl,q⟩)))))
  |some n =>
   let⟨t,rfl⟩:=h;exact wpAny_pyHash_int q
 eq:=by
  intro A s x y u v hu h1 h2;rw[<- ziF];exact ZC h1 h2 (zbx x) (zbx y)
 quiet:=by
  intro A E s n k v Q _ h q;rw[eqIsQuiet_byValue _ (zby h)];exact aw q
inductive HashAll(prog:Ag)(w:World)(d:Nat)(hp:Heap):List Value->List (Int×Nat)->Prop
 |nil:HashAll prog w d hp [] []
 |cons {v:Am} {h:Int×Nat} {vs:A8} {hs:List (Int×Nat)}:(∀(A:Ao)(E:A4)(s:An)(Q:Int->Shared->Prop),s.heap=hp->A.units+d<cLine->Q h.1 {s with toks:=s.toks+h.2}->wpAny (model prog w) A (PySem.pyHash v) Q E s)->HashAll prog w d hp vs hs->HashAll prog w d hp (v::vs) (h::hs)
theorem Vu{d:Nat}{hp:Heap}{A:Ao}{E:A4}(hu:A.units+d<cLine):∀{vs:A8}{hs:List (Int×Nat)}{s:An}{b:Array Int}{Q:Array Int->Shared->Prop},HashAll prog w d hp vs hs->s.heap=hp->(∀b',b'.toList=b.toList++hs.map (·.1)->Q b' {s with toks:=s.toks+(hs.map (·.2)).sum}) ->
  wpAny (model prog w) A (forIn vs b λx r=>do let h <- PySem.pyHash x;pure PUnit.unit;pure (ForInStep.yield (r.push h))) Q E s
 |_,_,s,b,Q,.nil,_,h=>aw (h b (by simp))
 |_,_,s,b,Q,.cons (h:=h0) x r,e,h=>by
  rw[fN];refine ac (ac (x A E s _ e hu ?_));refine ac (aw (aw ?_));refine Vu hu r (by exact e) λb' hb=>?_;have:=h b' (by simp[hb]);simpa[dU]using this
def zbR{d:Nat}{a:Addr}{hs:List (Int×Nat)}{A:Ao}{E:A4}{s:An}{Q:Int->Shared->Prop}(hT:IsTup s.heap a items)(all:HashAll prog w d s.heap items.toList hs)(hu:A.units+(d+1)<cLine)(h:Q (reduceHash (Builtin.Tuple.tupleHashOf (hs.map (·.1)))) {s with toks:=s.toks+((hs.map (·.2)).sum+1)}):wpAny (model prog w) A (PySem.pyHash (.ref a)) Q E s:=by
 let⟨o,ho,hc,n,hd⟩:=hT;refine gc (T:="tuple") ⟨_,ho,hc⟩ F.slot_tuple_hash F.entry_tuple_hash (F.args_tuple_hash_1 _) (beq_builtin_none _) (.inr (by lia)) ?_;show wpAny _ _ (Builtin.Tuple.tupleItemsOf (.ref a) >>= _) _ _ s
 refine ac (wpAny_tupleItemsOf ho hd ?_);refine ac ?_;rw[<- gG];refine Vu (d:=d) (by simp only[dM];lia) all rfl λb hb=>?_;show wpAny _ _ (retInt (Builtin.Tuple.tupleHashOf b.toList)) _ _ _
 rw[hb];exact ac (wpAny_mkInt (aw ⟨_,_,rfl,by simpa[dU]using h⟩))
def Va{d:Nat}{a:Addr}{A:Ao}{E:A4}{s:An}{Q:Bool->Shared->Prop}{n:Nat}(hT:IsTup s.heap a items)(all:∀v∈items.toList,∀(A:Ao)(E:A4)(Q:Bool->Shared->Prop),Q true s->wpAny (model prog w) A (eqIsQuiet n v) Q E s)(h:Q true s):wpAny (model prog w) A (eqIsQuiet (n+1) (.ref a)) Q E s:=by
 let⟨o,ho,hc,m,hd⟩:=hT;have hT:s.TypeIs (.ref a) "tuple":=⟨o,ho,hc⟩;unfold eqIsQuiet;refine ac (wpAny_specialOf hT F.slot_tuple_eq.lookup ?_);show wpAny _ _ (isInstance (.ref a) (.type "tuple") >>= _) _ _ s
 refine ac (wpAny_isInstance hT isSubtype_tuple_tuple ?_);simp only[fj,c9,dJ];refine ac (bU ho hd ?_);refine ac ?_;show wpAny _ _ (forIn items _ _) _ _ s
 rw[<- gG];refine wpAny_forIn_list _ (λrest r s'=>r.1=none/\s'=s/\∀v∈rest,v∈items.toList) _ ?_ ?_ _ _ ⟨rfl,rfl,λv hv=>hv⟩
 .rintro v rest r s' ⟨hr,rfl,hall⟩;refine ac (all v (hall v bt) _ _ _ ?_);simp only[fj,c9,dJ];exact aw ⟨rfl,rfl,λu hu'=>hall u (aF _ hu')⟩
 .rintro⟨r1,r2⟩ s' ⟨hr,rfl,_⟩;simp only at hr;subst hr;exact aw h
def X1{h h':Heap}{b a:Addr}{o:Obj}{es:Array DictEntry}{ep:Nat}(x:IsTup h b items)(ho:h.get? a=some o)(hd:o.data=.dict es ep)(hs:Heap.SameBut a h h'):IsTup h' b items:=by
 let⟨o',h1,h2,n,h3⟩:=x;have ne:b≠a:=λz=>by
  subst z;rw[ho]at h1;cases h1;rw[hd]at h3;cases h3
 exact⟨o',(hs.2 b ne).trans h1,h2,n,h3⟩
def vX{h:Heap}{b:Addr}{xs ys:Ae}(x:IsTup h b xs)(y:IsTup h b ys):xs=ys:=by
 let⟨o,h1,_,n,h3⟩:=x;let⟨o',g1,_,m,g3⟩:=y;rw[h1]at g1;cases g1;rw[h3]at g3;injection g3
def zi5{κ:Type}[DecidableEq κ]{xs ys:List κ}:((List.range (min xs.length ys.length)).all (λj=>decide (xs[j]?=ys[j]?))&&xs.length == ys.length)=decide (xs=ys):=by
 by_cases e:xs=ys
 .subst e;simp
 .rw[a8 e];by_cases hl:xs.length=ys.length
  .have:¬(List.range (min xs.length ys.length)).all (λj=>decide (xs[j]?=ys[j]?))=true:=λz=>e (eM λj=>by
    rw[bI]at z;by_cases hj:j<xs.length
    .exact bu (z j (dL.mpr (by lia)))
    .rw[eW (by lia),eW (by lia)])
   simp only[Bool.not_eq_true]at this;rw[this]
   rfl
  .have:(xs.length == ys.length)=false:=bj.mpr hl;rw[this,cD]
section
variable{κ:Type}[DecidableEq κ]{d:Nat}
theorem Zy{F:κ->Value->Prop}(f:∀(x y:κ)(v:Am),F x v->F y v->x=y):∀{xs ys:List κ}{vs:A8},Paired F xs vs->Paired F ys vs->xs=ys
 |_,_,_,.nil,h=>by cases h;rfl
 |_,_,_,.cons a t,h=>by
  cases h with
  |cons b u=>rw[f _ _ _ a b,Zy f t u]
def zbJ{n d e c:Nat}(l:d<=e)(h:n+e<c):n+d<c:=c7 (Nat.add_le_add_left l n) h
def zjv{A:Ao}{e c:Nat}(h:A.units+(e+1)<c):A.in1.units+e<c:=by
 simp only[dM]
 lia
def ze6{n d:Nat}(h:d+1<=n):∃m,n=m+1/\d<=m:=⟨n-1,by lia,by lia⟩
noncomputable def vS(I:KItem prog w κ d):KItem prog w (List κ) (d+1) where
 is:=λh ks v=>∃a items,v=.ref a/\IsTup h a items/\Paired (I.is h) ks items.toList
 hash:=λks=>reduceHash (Builtin.Tuple.tupleHashOf (ks.map I.hash))
 draws:=λks=>(ks.map I.draws).sum+1
 inj:=by
  rintro h v x y ⟨a,items,rfl,h1,h2⟩ ⟨b,items',e,g1,g2⟩;cases e;have:=vX h1 g1;subst this;exact Zy (F:=I.is h) (λ_ _ _ p q=>I.inj p q) h2 g2
 keeps:=by
  rintro h h' k v a o es ep ⟨b,items,rfl,h1,h2⟩ ho hd hs;exact⟨b,items,rfl,X1 h1 ho hd hs,Paired.mapP h2 λp q z=>I.keeps z ho hd hs⟩
 pyHash:=by
  rintro A E s k v Q hu ⟨b,items,rfl,h1,h2⟩ q;have all:∀{ks:List κ}{vs:A8},Paired (I.is s.heap) ks vs->HashAll prog w d s.heap vs (ks.map λk=>(I.hash k,I.draws k)):=by
   intro ks vs p
   induction p with
   |nil=>exact .nil
   |cons z _ ih=>exact .cons (λA E s' Q e hu q=>I.pyHash hu (by rw[e];exact z) q) ih
  refine zbR h1 (all h2) hu ?_;rw[d6,d6];exact q
 eq:=by
  rintro A s x y u v hu ⟨a,xs,rfl,h1,h2⟩ ⟨b,ys,rfl,g1,g2⟩;by_cases e:a=b
  .subst e;have:=vX h1 g1;subst this;rw[Zy (F:=I.is s.heap) (λ_ _ _ p q=>I.inj p q) h2 g2,bh rfl];exact dS _
  .refine cG e ?_;have l1:x.length=xs.size:=by rw[cZ h2,cq]
   have l2:y.length=ys.size:=by rw[cZ g2,cq]
   have:=cR (A:=A) (s:=s) (e:=λj=>decide (x[j]?=y[j]?)) h1 g1 (by lia) (λj hj1 hj2=>by
    let⟨k1,e1⟩:∃k,x[j]?=some k:=⟨x[j]'(by lia),af _⟩;let⟨k2,e2⟩:∃k,y[j]?=some k:=⟨y[j]'(by lia),af _⟩;have p1:=wj h2 e1 (show xs.toList[j]?=some xs[j] by rw[cN,e6 hj1]);have p2:=wj g2 e2 (show ys.toList[j]?=some ys[j] by rw[cN,e6 hj2]);rw[e1,e2,show decide (some k1=some k2)=decide (k1=k2) by simp];exact I.eq (zjv hu) p1 p2)
   rw[<- l1,<- l2,zi5]at this;exact this
 quiet:=by
  rintro A E s n k v Q hn ⟨b,items,rfl,h1,h2⟩ q;let⟨m,rfl,hm⟩:=ze6 hn;refine Va (d:=d) h1 (λv hv A E Q q=>?_) q;let⟨j,hj⟩:=cK.mp hv;have hl:=(aa.mp hj).1;let⟨k1,e1⟩:∃x,k[j]?=some x:=⟨k[j]'(by rw[cZ h2];exact hl),af _⟩;exact I.quiet hm (wj h2 e1 hj) q
end
section
variable{κ1 κ2 κ3 κ4:Type}[DecidableEq κ1][DecidableEq κ2][DecidableEq κ3][DecidableEq κ4]{d1 d2 d3 d4:Nat}
inductive QIs(I1:KItem prog w κ1 d1)(I2:KItem prog w κ2 d2)(I3:KItem prog w κ3 d3)(I4:KItem prog w κ4 d4)(h:Heap)(k:κ1×κ2×κ3×κ4)(v:Am):Prop
 |i (a:Addr) (u1 u2 u3 u4:Am):v=.ref a->IsTup h a #[u1,u2,u3,u4]->I1.is h k.1 u1->I2.is h k.2.1 u2->I3.is h k.2.2.1 u3->I4.is h k.2.2.2 u4->QIs I1 I2 I3 I4 h k v
noncomputable def zfA(I1:KItem prog w κ1 d1)(I2:KItem prog w κ2 d2)(I3:KItem prog w κ3 d3)(I4:KItem prog w κ4 d4)(d:Nat)(l1:d1<=d)(l2:d2<=d)(l3:d3<=d)(l4:d4<=d):KItem prog w (κ1×κ2×κ3×κ4) (d+1) where
 is:=QIs I1 I2 I3 I4
 hash:=λk=>reduceHash (Builtin.Tuple.tupleHashOf [I1.hash k.1,I2.hash k.2.1,I3.hash k.2.2.1,I4.hash k.2.2.2])
 draws:=λk=>[I1.draws k.1,I2.draws k.2.1,I3.draws k.2.2.1,I4.draws k.2.2.2].sum+1
 inj:=by
  rintro h v ⟨x1,x2,x3,x4⟩ ⟨y1,y2,y3,y4⟩ ⟨a,u1,u2,u3,u4,rfl,h1,i1,i2,i3,i4⟩ ⟨b,v1,v2,v3,v4,e,g1,j1,j2,j3,j4⟩;cases e;have:=vX h1 g1;cases this;simp only at i1 i2 i3 i4 j1 j2 j3 j4;rw[I1.inj i1 j1,I2.inj i2 j2,I3.inj i3 j3,I4.inj i4 j4]
 keeps:=by
  rintro h h' k v a o es ep ⟨b,u1,u2,u3,u4,rfl,h1,i1,i2,i3,i4⟩ ho hd hs;exact⟨b,u1,u2,u3,u4,rfl,X1 h1 ho hd hs,I1.keeps i1 ho hd hs,I2.keeps i2 ho hd hs,I3.keeps i3 ho hd hs,I4.keeps i4 ho hd hs⟩
 pyHash:=by
  rintro A E s k v Q hu ⟨b,u1,u2,u3,u4,rfl,h1,i1,i2,i3,i4⟩ q;refine zbR (d:=d) (hs:=[(I1.hash k.1,I1.draws k.1),(I2.hash k.2.1,I2.draws k.2.1),(I3.hash k.2.2.1,I3.draws k.2.2.1),(I4.hash k.2.2.2,I4.draws k.2.2.2)]) h1 ?_ hu q;exact .cons (λA E s' Q e hu q=>I1.pyHash (zbJ l1 hu) (by rw[e];exact i1) q) (.cons (λA E s' Q e hu q=>I2.pyHash (zbJ l2 hu) (by rw[e];exact i2) q) (.cons (λA E s' Q e hu q=>I3.pyHash (zbJ l3 hu) (by rw[e];exact i3) q) (.cons (λA E s' Q e hu q=>I4.pyHash (zbJ l4 hu) (by rw[e];exact i4) q) .nil)))
 eq:=by
  rintro A s ⟨x1,x2,x3,x4⟩ ⟨y1,y2,y3,y4⟩ u v hu ⟨a,u1,u2,u3,u4,rfl,h1,i1,i2,i3,i4⟩ ⟨b,v1,v2,v3,v4,rfl,g1,j1,j2,j3,j4⟩;simp only at i1 i2 i3 i4 j1 j2 j3 j4;by_cases e:a=b
  .subst e;have:=vX h1 g1;cases this;rw[I1.inj i1 j1,I2.inj i2 j2,I3.inj i3 j3,I4.inj i4 j4,bh rfl];exact dS _
  .refine cG e ?_;have hu':=zjv hu;have:=cR (A:=A) (s:=s) (e:=λj=>[decide (x1=y1),decide (x2=y2),decide (x3=y3),decide (x4=y4)].getD j true) h1 g1 (by lia) (λj hj1 hj2=>by
    match j,hj1,hj2 with
    |0,_,_=>exact I1.eq (zbJ l1 hu') i1 j1
    |1,_,_=>exact I2.eq (zbJ l2 hu') i2 j2
    |2,_,_=>exact I3.eq (zbJ l3 hu') i3 j3
    |3,_,_=>exact I4.eq (zbJ l4 hu') i4 j4)
   have z:((List.range (min (#[u1,u2,u3,u4]:Ae).size (#[v1,v2,v3,v4]:Ae).size)).all (λj=>[decide (x1=y1),decide (x2=y2),decide (x3=y3),decide (x4=y4)].getD j true)&&(#[u1,u2,u3,u4]:Ae).size == (#[v1,v2,v3,v4]:Ae).size)=decide ((x1,x2,x3,x4)=(y1,y2,y3,y4)):=by
    show((List.range 4).all _&&true)=_
    rw[show List.range 4=[0,1,2,3]from rfl];simp only[all_cons,List.all_nil,fk,gi,gj,Prod.mk.injEq,Bool.decide_and]
   rw[z]at this;exact this
 quiet:=by
  rintro A E s n k v Q hn ⟨b,u1,u2,u3,u4,rfl,h1,i1,i2,i3,i4⟩ q;let⟨m,rfl,hm⟩:=ze6 hn;refine Va (d:=d) h1 (λv hv A E Q q=>?_) q;have hv:v=u1\/v=u2\/v=u3\/v=u4:=by simpa using hv
  rcases hv with rfl|rfl|rfl|rfl
  .exact I1.quiet (aR l1 hm) i1 q
  .exact I2.quiet (aR l2 hm) i2 q
  .exact I3.quiet (aR l3 hm) i3 q
  .exact I4.quiet (aR l4 hm) i4 q
end
abbrev ShK:=Option Int×List (List Aa)×List Aa×List Aa
noncomputable def js(prog:Ag)(w:World):KItem prog w ShK 3:=zfA (jE prog w) (vS (vS (jE prog w))) (vS (jE prog w)) (vS (jE prog w)) 2 (by decide) (by decide) (by decide) (by decide)
noncomputable def x9(prog:Ag)(w:World):HeapKind prog w ShK where
 is:=λh k a=>(js prog w).is h k (.ref a)
 hash:=(js prog w).hash
 draws:=(js prog w).draws
 room:=λA=>A.units+3<cLine
 inj:=λhx hy=>(js prog w).inj hx hy
 keeps:=λx ho hd hs=>(js prog w).keeps x ho hd hs
 pyHash:=λhu hk h=>(js prog w).pyHash hu hk h
 eqBool:=λhu hx hy h=>(js prog w).eq hu hx hy prog w _ _ h
 quiet:=λhk h=>(js prog w).quiet (by decide) hk h
end
noncomputable def oiD:Option Int->D
 |none=>.non
 |some n=>.int n
noncomputable def shD(k:ShK):D:=.tup [oiD k.1,.tup (k.2.1.map λr=>.tup (r.map oiD)),.tup (k.2.2.1.map oiD),.tup (k.2.2.2.map oiD)]
theorem Vi{α β:Type}{F:α->β->Prop}:∀{xs:List α}{ys:List β},xs.length=ys.length->(∀(i:Nat) x y,xs[i]?=some x->ys[i]?=some y->F x y)->Paired F xs ys
 |[],[],_,_=>.nil
 |[],_::_,h,_=>by simp at h
 |_::_,[],h,_=>by simp at h
 |x::xs,y::ys,h,f=>.cons (f 0 x y rfl rfl) (Vi (by simpa using h) λi a b e1 e2=>f (i+1) a b e1 e2)
section
variable{P:Ag}{w:World}{H:Hp}{h:Heap}{p:A6}
def Qh{x:Aa}{v:V}{u:Am}(r:Rep H p v (oiD x))(e:RelV v u):(jE P w).is h x u:=by
 cases x with
 |none =>
  have r:Rep H p v .non:=r;cases r;exact e
 |some n =>
  have r:Rep H p v (.int n):=r;cases r;exact e
def JL{κ:Type}[DecidableEq κ]{d:Nat}(ok:HOk P w H h){I:KItem P w κ d}{f:κ->D}(hI:∀x v u,Rep H p v (f x)->RelV v u->I.is h x u){xs:List κ}{v:V}{u:Am}(r:Rep H p v (.tup (xs.map f)))(e:RelV v u):(vS I).is h xs u:=by
 let⟨t,us,rfl,_,ht,rr⟩:=Rep.tup' r;let⟨_,pf,vals,isT⟩:=(show ObjOk P w H h t (.tup us)from ok t _ ht);refine⟨t,pf.toArray,e,isT,Vi ?_ λi x y e1 e2=>?_⟩
 .rw[gg,<- vals.length,rr.len,ae]
 .rw[gg]at e2;let⟨v',hv',rv⟩:=rr.of (i:=i) (d:=f x) (by rw[ai,e1];rfl);exact hI x v' y rv (wj vals hv' e2)
theorem zdT{α:Type}{n:Nat}:∀{us:List α},us.length=n+1->∃v w,us=v::w/\w.length=n
 |v::w,h=>⟨v,w,rfl,by simpa using h⟩
def zdx{v:V}{vs:Ap}{us:A8}(h:Vals (v::vs) us):∃u ws,us=u::ws/\RelV v u/\Vals vs ws:=by
 cases h with
 |cons a b=>exact⟨_,_,rfl,a,b⟩
def vU(ok:HOk P w H h){k:ShK}{b:Addr}(r:Rep H p (.ref b) (shD k)):(x9 P w).is h k b:=by
 let⟨t,us,e,_,ht,rr⟩:=Rep.tup' r;cases e;let⟨_,pf,vals,isT⟩:=(show ObjOk P w H h b (.tup us)from ok b _ ht);have g:=rr.g;let⟨v1,w1,rfl,l1⟩:=zdT rr.len;let⟨v2,w2,rfl,l2⟩:=zdT l1;let⟨v3,w3,rfl,l3⟩:=zdT l2;let⟨v4,w4,rfl,l4⟩:=zdT l3;cases b9.mp l4;let⟨u1,z1,rfl,q1,vals⟩:=zdx vals;let⟨u2,z2,rfl,q2,vals⟩:=zdx vals;let⟨u3,z3,rfl,q3,vals⟩:=zdx vals;let⟨u4,z4,rfl,q4,vals⟩:=zdx vals;cases vals;have k1:=Qh (P:=P) (w:=w) (h:=h) (g 0 v1 _ rfl rfl) q1;have k2:=JL ok (I:=vS (jE P w)) (λx v u r e=>JL ok (I:=jE P w) (λx v u r e=>Qh r e) r e) (g 1 v2 _ rfl rfl) q2;have k3:=JL ok (I:=jE P w) (λx v u r e=>Qh r e) (g 2 v3 _ rfl rfl) q3;have k4:=JL ok (I:=jE P w) (λx v u r e=>Qh r e) (g 3 v4 _ rfl rfl) q4;exact⟨b,u1,u2,u3,u4,rfl,isT,k1,k2,k3,k4⟩
end
noncomputable def toV(x:ShK×Addr×Addr):ShK×Addr×Value:=(x.1,x.2.1,.ref x.2.2)
noncomputable def sdO(P:Ag)(w:World)(D:Addr)(xs:List (ShK×Addr×Addr)):HO:=.ext λh=>((D == sysModules)=false/\xs.length<=sizeLine/\(xs.map (·.1)).Nodup)/\∃o es ep,h.get? D=some o/\o.ExactDict/\o.data=.dict es ep/\es.toList=(xs.map toV).map (entryOfKey (x9 P w))
def keysOk(H:Hp)(xs:List (ShK×Addr×Addr)):Prop:=∀x∈xs,∃p:Addr->Prop,Rep H p (.ref x.2.1) (shD x.1)
noncomputable def xK(xs:List (ShK×Addr×Addr))(k:ShK):Option Addr:=(xs.find? λx=>decide (x.1=k)).map (·.2.2)
theorem Qc(k:ShK):∀xs:List (ShK×Addr×Addr),(atKey (xs.map toV) k).map (·.2)=(xK xs k).map Value.ref
 |[]=>rfl
 |x::xs=>by
  have ih:=Qc k xs;unfold atKey xK at ih ⊢;rw[bJ,cV,cV];show Option.map _ (Option.map _ (match decide (x.1=k)with|true=>some (toV x)|false=>_))=_
  by_cases e:x.1=k
  .rw[bh e];rfl
  .rw[a8 e];exact ih
def keysOk.same{H H':Hp}{xs:List (ShK×Addr×Addr)}(h:keysOk H xs)(s:∀b ys,H b=some (.tup ys)->H' b=some (.tup ys))(t:∀x∈xs,∃p:Addr->Prop,Rep H p (.ref x.2.1) (shD x.1)/\∀b o,p b->H b=some o->H' b=some o):keysOk H' xs:=λx hx=>by
 let⟨p,r,k⟩:=t x hx;exact⟨p,r.keep λb o pb hb=>⟨pb,k b o pb hb⟩⟩
def zdo{P:Ag}{w:World}{H:Hp}{h:Heap}{D:Addr}{xs:List (ShK×Addr×Addr)}(ok:HOk P w H h)(e:H D=some (sdO P w D xs))(ks:keysOk H xs):(D == sysModules)=false/\xs.length<=sizeLine/\(xs.map (·.1)).Nodup/\h.DictOfH (x9 P w) D (xs.map toV):=by
 let⟨⟨⟨h1,h2,h3⟩,o,es,ep,g1,g2,g3,g4⟩,_,_⟩:=(show ObjOk P w H h D (sdO P w D xs)from ok D _ e);refine⟨h1,h2,h3,o,es,ep,g1,g2,g3,g4,λx hx=>?_,by rw[d6];exact h3⟩;let⟨y,hy,rfl⟩:=bb.mp hx;let⟨p,r⟩:=ks y hy;exact vU ok r
def zhT{P:Ag}{w:World}{H:Hp}{h:Heap}{D:Addr}{xs:List (ShK×Addr×Addr)}(h1:(D == sysModules)=false)(h2:xs.length<=sizeLine)(h3:(xs.map (·.1)).Nodup)(g:∃o es ep,h.get? D=some o/\o.ExactDict/\o.data=.dict es ep/\es.toList=(xs.map toV).map (entryOfKey (x9 P w))):ObjOk P w H h D (sdO P w D xs):=by
 refine⟨⟨⟨h1,h2,h3⟩,g⟩,?_,?_⟩
 .obtain⟨o,_,_,g1,_⟩:=g;exact⟨o,g1⟩
 .rintro k1 k2 ⟨a,o,es,ep,g1,g2⟩ k;exact⟨a,o,es,ep,k o g1,g2⟩
section
variable{X:Cx}{p6:A3}{σ:St}{H:Hp}{s:An}{D b y:Addr}{A:Ao}{E:A4}{xs:List (ShK×Addr×Addr)}{k:ShK}{p:A6}
def Zs(hu:A.units+100<cLine):(x9 X.prog X.w).room A.in1:=by
 show A.in1.units+3<cLine
 simp only[dM]
 lia
def zjK{Q:A4}(hu:A.units+100<cLine)(I:Inv X p6 σ H s)(e:H D=some (sdO X.prog X.w D xs))(ks:keysOk H xs)(r:Rep H p (.ref b) (shD k))(h:∀s',Inv X p6 σ H s'->Q (.bool (xK xs k).isSome) s'):wpAny (model X.prog X.w) A (compareOp .In (.ref b) (.ref D)) Q E s:=by
 let⟨h1,h2,h3,dd⟩:=zdo I.hok e ks;refine wpAny_in_heap (Zs hu) (vU I.hok r) h1 dd ?_;have q:=bE Option.isSome (Qc k xs);rw[d8,d8]at q;rw[q];exact h _ (I.tok _)
def zjh{Q:A4}(hu:A.units+100<cLine)(I:Inv X p6 σ H s)(e:H D=some (sdO X.prog X.w D xs))(ks:keysOk H xs)(r:Rep H p (.ref b) (shD k))(l:xK xs k=some y)(h:∀s',Inv X p6 σ H s'->Q (.ref y) s'):wpAny (model X.prog X.w) A (getItem (.ref D) (.ref b)) Q E s:=by
 let⟨h1,h2,h3,dd⟩:=zdo I.hok e ks;have q:=Qc k xs;rw[l]at q;let⟨z,hz,e2⟩:=am.mp q;refine wpAny_getItem_heap (Zs hu) (vU I.hok r) dd hz ?_;rw[e2];exact h _ (I.tok _)
def zjg{Q:Ah}(hu:A.units+100<cLine)(I:Inv X p6 σ H s)(e:H D=some (sdO X.prog X.w D xs))(ks:keysOk H xs)(r:Rep H p (.ref b) (shD k))(l:xK xs k=none)(hl:xs.length<sizeLine)(h:∀s',Inv X p6 σ (upd H D (sdO X.prog X.w D (xs++[(k,b,y)]))) s'->Q () s'):wpAny (model X.prog X.w) A (setItem (.ref D) (.ref b) (.ref y)) Q E s:=by
 let⟨h1,h2,h3,dd⟩:=zdo I.hok e ks;have q:=Qc k xs;rw[l]at q;have q:atKey (xs.map toV) k=none:=by simpa using q
 refine wpAny_setItem_heap (hsz:=by rw[ae];exact h2) (Zs hu) (vU I.hok r) dd λh' dd' hs=>h _ ?_;rw[storedH_new q]at dd';let⟨o,es,ep,g1,g2,g3,g4,_,g5⟩:=dd';refine zhw I (by rw[e];exact True.intro) hs ⟨o,g1⟩ (zhT h1 (by simp;lia) ?_ ⟨o,es,ep,g1,g2,g3,?_⟩)
 .have:(xs++[(k,b,y)]).map (·.1)=((xs.map toV++[(k,b,Value.ref y)]).map (·.1)):=by simp[toV]
  rw[this];exact g5
 .rw[g4];simp[toV]
end
def tSIn(P:Ag)(w:World)(ty td:TE):TE:=λσ H Q=>ty σ H λy H1=>td σ H1 λx H2=>∃D b xs k p,x=.ref D/\y=.ref b/\H2 D=some (sdO P w D xs)/\keysOk H2 xs/\Rep H2 p (.ref b) (shD k)/\Q (.bl (xK xs k).isSome) H2
def tSGet(P:Ag)(w:World)(td ty:TE):TE:=λσ H Q=>td σ H λx H1=>ty σ H1 λy H2=>∃D b xs k p z,x=.ref D/\y=.ref b/\H2 D=some (sdO P w D xs)/\keysOk H2 xs/\Rep H2 p (.ref b) (shD k)/\xK xs k=some z/\Q (.ref z) H2
def sSPut(P:Ag)(w:World)(td ty tv:TE):TS:=λN σ H=>tv σ H λv H1=>td σ H1 λx H2=>ty σ H2 λy H3=>∃D b xs k p z,x=.ref D/\y=.ref b/\v=.ref z/\H3 D=some (sdO P w D xs)/\keysOk H3 xs/\Rep H3 p (.ref b) (shD k)/\xK xs k=none/\xs.length<sizeLine/\N.nx σ (upd H3 D (sdO P w D (xs++[(k,b,z)])))
def tSNew(P:Ag)(w:World):TE:=λ_ H Q=>∀p,H p=none->Q (.ref p) (upd H p (sdO P w p []))
section
variable{X:Cx}{o i value:Expr}{pos pos':Pos}{td ty tv:TE}
def ziB(hu:X.A.units+100<cLine)(hi:PE X i ty)(ho:PE X o td):PC X .In i o (tSIn X.prog X.w ty td):=by
 intro p6 s σ H Q I h;refine qL (hi p6 s σ H _ I h) λiv s1 y H1 I1 ry q1=>qL (ho p6 s1 σ H1 _ I1 q1) λu s2 x H2 I2 rx qq_=>?_;let⟨D,b,xs,k,p,ex,ey,e,ks,r,q2⟩:=qq_;subst ex ey;obtain rfl:u=Value.ref D:=rx;obtain rfl:iv=Value.ref b:=ry;exact zjK hu I2 e ks r λs3 I3=>⟨.bl _,H2,I3,rfl,q2⟩
def zg9(hu:X.A.units+100<cLine)(ho:PE X o td)(hi:PE X i ty)(hs:zjD i):PE X (.Subscript o i pos) (tSGet X.prog X.w td ty):=by
 intro p6 s σ H Q I h;refine zgM PySem.F.slot_dict_getitem.lookup hs (qL (ho p6 s σ H _ I h) λu s1 x H1 I1 rx q1=>qL (hi p6 s1 σ H1 _ I1 q1) λiv s2 y H2 I2 ry qq_=>?_);let⟨D,b,xs,k,p,z,ex,ey,e,ks,r,l,q2⟩:=qq_;subst ex ey;obtain rfl:u=Value.ref D:=rx;obtain rfl:iv=Value.ref b:=ry;exact⟨(zdo I2.hok e ks).2.2.2.typeIs,zjh hu I2 e ks r l λs3 I3=>⟨.ref z,H2,I3,rfl,q2⟩⟩
def zg6(hu:X.A.units+100<cLine)(ho:PE X o td)(hi:PE X i ty)(hv:PE X value tv)(hs:swapsWith value (some (.Subscript o i pos')) pos.line X.env=pure false) :
  PS X (.Assign [.Subscript o i pos'] value pos) (sSPut X.prog X.w td ty tv):=by
 intro p6 s σ H N I h;refine wpAny_Assign_Subscript (qL (hv p6 s σ H _ I h) λr s1 v H1 I1 rv q1=>qL (ho p6 s1 σ H1 _ I1 q1) λu s2 x H2 I2 rx q2=>qL (hi p6 s2 σ H2 _ I2 q2) λiv s3 y H3 I3 ry qq_=>?_) hs;let⟨D,b,xs,k,p,z,ex,ey,ez,e,ks,r',l,hl,q3⟩:=qq_;subst ex ey ez;obtain rfl:u=Value.ref D:=rx;obtain rfl:iv=Value.ref b:=ry;obtain rfl:r=Value.ref z:=rv;exact zjg hu I3 e ks r' l hl λs4 I4=>⟨σ,_,I4,q3⟩
def zg8:PE X (.Dict [] [] pos) (tSNew X.prog X.w):=λp6 s σ H Q I h =>
 wpAny_Dict_empty ⟨.ref s.heap.objs.size,_,I.laid (a:=s.heap.objs.size) (o:=sdO X.prog X.w s.heap.objs.size []) (t':=s.toks) (λ_ _ q=>aj _ q) (ar _) (zhT (bj.mpr (ba (aQ I.big))) (ck _) gx ⟨_,#[],0,aI _ rfl,⟨rfl,rfl,rfl⟩,rfl,rfl⟩),rfl,h _ (I.hok.fresh (ar _))⟩
end
section
variable{X:Cx}{G:GK}{x:Str}{np pos hpos:Pos}{body su:List Stmt}{b₀:Stmt}{tb:List (Addr×Obj)->GK->TS}{th:List (Addr×Obj)->Addr->TS}
def zhO(X:Cx)(x:Str)(tb:List (Addr×Obj)->GK->TS)(th:List (Addr×Obj)->Addr->TS):TS:=λD σ H=>∃Dc,X.mg x=some (.ref Dc)/\subIn X.K (.ref Dc) (.type "BaseException")=some true /\
 ∀pn,tb pn (λcls σ' H'=>∃C,cls=.ref C/\kitCls X.K (.ref C) (.ref Dc)=some true/\∀a,H' a=none->th pn a D σ' H') D σ H
theorem ziv(B:Bod X)(hc:X.calm=true)(hb:∀pn G',PSs ((X.pinned pn).exg G') body (tb pn G'))(hs:∀pn a,PSs (X.suite pn a) (b₀::su) (th pn a))(hg:Gl X x:=by rfl)(hdb:(x == ("__debug__":Str))=false:=by decide) :
  PS (X.exg G) (.Try body [.ExceptHandler (some (.Name x np)) none (b₀::su) hpos] [] [] pos) (zhO X x tb th):=by
 intro p6 s σ H D I h;let⟨Dc,hm,hsub,h⟩:=h;have I1:=I.unwish.topn;refine wpAny_Try_except (aV (hb (X.pn++p6) _ [] s σ H D (I1.wish _) (h (X.pn++p6))) (λf s1 q=>?_) λe s1 q=>?_)
 .cases f with
  |next =>
   let⟨σ',H',J,q⟩:=q;exact cE ⟨σ',H',J.unwish.ofpn.wish _,q⟩
  |brk=>let⟨σ',H',J,q⟩:=q;exact⟨σ',H',J.unwish.ofpn.wish _,q⟩
  |cont=>let⟨σ',H',J,q⟩:=q;exact⟨σ',H',J.unwish.ofpn.wish _,q⟩
  |ret u=>let⟨v,σ',H',J,r,q⟩:=q;exact⟨v,σ',H',J.unwish.ofpn.wish _,r,q⟩
 .refine aV (show wpAny _ _ _ _ _ _ from q) (λ_ s2 q2=>aV q2 (λ_ s3 q3=>?_) λ_ _ z=>z.elim) λ_ _ z=>z.elim;let⟨a,cls,σ',H',rfl,J,xx,C,rfl,hk,hth⟩:=q3;have J2:Inv (X.suite (X.pn++p6) a) [] σ' H' s3:=J.tosuite;let⟨oe,vs,he,hcls,_,_⟩:=xx.obj;refine wpAny_handleBy_cons (codeAny_handlers_test (xh J2 hg hm (Jh J2.kIn he hcls hk hsub ?_) hdb)) (by intro z;cases z);refine codeAny_handlers_suite ?_;refine X5 J2 (xx.less λp hp=>by rwa[cc]at hp) λs4 J4 x4=>?_;refine aV (hs (X.pn++p6) a [] s4 _ _ _ J4 (hth a xx.Ha)) (λf s6 q6=>?_) λ_ _ z=>False.elim z;cases f with
  |next=>let⟨σ7,H7,J7,q7⟩:=q6;exact⟨σ7,H7,(J7.ofsuite I.ok.hd).ofpn.wish _,q7⟩
  |brk=>let⟨σ7,H7,J7,q7⟩:=q6;exact⟨σ7,H7,(J7.ofsuite I.ok.hd).ofpn.wish _,q7⟩
  |cont=>let⟨σ7,H7,J7,q7⟩:=q6;exact⟨σ7,H7,(J7.ofsuite I.ok.hd).ofpn.wish _,q7⟩
  |ret u=>let⟨v,σ7,H7,J7,r7,q7⟩:=q6;exact⟨v,σ7,H7,(J7.ofsuite I.ok.hd).ofpn.wish _,r7,q7⟩
end
def Qt{X:Cx}:CallR X (.type "tuple") (λxs H Q=>∃p ys,xs=[.ref p]/\((SqL X.K H p ys/\∀l,H l=none->Q (.ref l) (upd H l (.tup ys)))\/(SqT X.K H p ys/\Q (.ref p) H))):=WH
end L2
namespace L2
section
variable{G:Prop}{A B C D E F H I:Type}
def iE2{k:A->B->Prop}(a:A)(b:B)(p:k a b):∃a b,k a b:=⟨a,b,p⟩
def iE3{k:A->B->C->Prop}(a:A)(b:B)(c:C)(p:k a b c):∃a b c,k a b c:=⟨a,b,c,p⟩
def iE4{k:A->B->C->D->Prop}(a:A)(b:B)(c:C)(d:D)(p:k a b c d):∃a b c d,k a b c d:=⟨a,b,c,d,p⟩
def iE5{k:A->B->C->D->E->Prop}(a:A)(b:B)(c:C)(d:D)(e:E)(p:k a b c d e):∃a b c d e,k a b c d e:=⟨a,b,c,d,e,p⟩
def iE6{k:A->B->C->D->E->F->Prop}(a:A)(b:B)(c:C)(d:D)(e:E)(f:F)(p:k a b c d e f):∃a b c d e f,k a b c d e f:=⟨a,b,c,d,e,f,p⟩
def iE7{k:A->B->C->D->E->F->H->Prop}(a:A)(b:B)(c:C)(d:D)(e:E)(f:F)(g:H)(p:k a b c d e f g):∃a b c d e f g,k a b c d e f g:=⟨a,b,c,d,e,f,g,p⟩
def iE8{k:A->B->C->D->E->F->H->I->Prop}(a:A)(b:B)(c:C)(d:D)(e:E)(f:F)(g:H)(i:I)(p:k a b c d e f g i):∃a b c d e f g i,k a b c d e f g i:=⟨a,b,c,d,e,f,g,i,p⟩
def oE1{k:A->Prop}(h:∃a,k a)(w:∀a,k a->G):G:=by let⟨a,p⟩:=h;exact w a p
def oE2{k:A->B->Prop}(h:∃a b,k a b)(w:∀a b,k a b->G):G:=by let⟨a,b,p⟩:=h;exact w a b p
def oE3{k:A->B->C->Prop}(h:∃a b c,k a b c)(w:∀a b c,k a b c->G):G:=by let⟨a,b,c,p⟩:=h;exact w a b c p
def oE4{k:A->B->C->D->Prop}(h:∃a b c d,k a b c d)(w:∀a b c d,k a b c d->G):G:=by let⟨a,b,c,d,p⟩:=h;exact w a b c d p
def oE5{k:A->B->C->D->E->Prop}(h:∃a b c d e,k a b c d e)(w:∀a b c d e,k a b c d e->G):G:=by let⟨a,b,c,d,e,p⟩:=h;exact w a b c d e p
def oE6{k:A->B->C->D->E->F->Prop}(h:∃a b c d e f,k a b c d e f)(w:∀a b c d e f,k a b c d e f->G):G:=by let⟨a,b,c,d,e,f,p⟩:=h;exact w a b c d e f p
def oE7{k:A->B->C->D->E->F->H->Prop}(h:∃a b c d e f g,k a b c d e f g)(w:∀a b c d e f g,k a b c d e f g->G):G:=by let⟨a,b,c,d,e,f,g,p⟩:=h;exact w a b c d e f g p
def oE8{k:A->B->C->D->E->F->H->I->Prop}(h:∃a b c d e f g i,k a b c d e f g i)(w:∀a b c d e f g i,k a b c d e f g i->G):G:=by let⟨a,b,c,d,e,f,g,i,p⟩:=h;exact w a b c d e f g i p
end
section
variable{G A B C D E F H I J:Prop}
def iA3(a:A)(b:B)(c:C):A/\B/\C:=⟨a,b,c⟩
def iA4(a:A)(b:B)(c:C)(d:D):A/\B/\C/\D:=⟨a,b,c,d⟩
def iA5(a:A)(b:B)(c:C)(d:D)(e:E):A/\B/\C/\D/\E:=⟨a,b,c,d,e⟩
def iA6(a:A)(b:B)(c:C)(d:D)(e:E)(f:F):A/\B/\C/\D/\E/\F:=⟨a,b,c,d,e,f⟩
def iA7(a:A)(b:B)(c:C)(d:D)(e:E)(f:F)(g:H):A/\B/\C/\D/\E/\F/\H:=⟨a,b,c,d,e,f,g⟩
def iA8(a:A)(b:B)(c:C)(d:D)(e:E)(f:F)(g:H)(i:I):A/\B/\C/\D/\E/\F/\H/\I:=⟨a,b,c,d,e,f,g,i⟩
def iA9(a:A)(b:B)(c:C)(d:D)(e:E)(f:F)(g:H)(i:I)(j:J):A/\B/\C/\D/\E/\F/\H/\I/\J:=⟨a,b,c,d,e,f,g,i,j⟩
def oA2(h:A/\B)(k:A->B->G):G:=by let⟨a,b⟩:=h;exact k a b
def oA3(h:A/\B/\C)(k:A->B->C->G):G:=by let⟨a,b,c⟩:=h;exact k a b c
def oA4(h:A/\B/\C/\D)(k:A->B->C->D->G):G:=by let⟨a,b,c,d⟩:=h;exact k a b c d
def oA5(h:A/\B/\C/\D/\E)(k:A->B->C->D->E->G):G:=by let⟨a,b,c,d,e⟩:=h;exact k a b c d e
def oA6(h:A/\B/\C/\D/\E/\F)(k:A->B->C->D->E->F->G):G:=by let⟨a,b,c,d,e,f⟩:=h;exact k a b c d e f
def oA7(h:A/\B/\C/\D/\E/\F/\H)(k:A->B->C->D->E->F->H->G):G:=by let⟨a,b,c,d,e,f,g⟩:=h;exact k a b c d e f g
def oA8(h:A/\B/\C/\D/\E/\F/\H/\I)(k:A->B->C->D->E->F->H->I->G):G:=by let⟨a,b,c,d,e,f,g,i⟩:=h;exact k a b c d e f g i
def oA9(h:A/\B/\C/\D/\E/\F/\H/\I/\J)(k:A->B->C->D->E->F->H->I->J->G):G:=by let⟨a,b,c,d,e,f,g,i,j⟩:=h;exact k a b c d e f g i j
end
end L2
namespace Mine
def zgl{p r:Int}(hp:0<=p)(hr:0<r):Int.gcd r (p%r)=Int.gcd p r:=by
 have e:(p%r).natAbs=p.natAbs%r.natAbs:=by
  have h1:p=(p.natAbs:Int):=by lia
  have h2:r=(r.natAbs:Int):=by lia
  rw[h1,h2,<- dq,bn,bn,bn]
 show Nat.gcd r.natAbs (p%r).natAbs=Nat.gcd p.natAbs r.natAbs
 rw[e,Nat.gcd_comm p.natAbs,Nat.gcd_rec r.natAbs p.natAbs,Nat.gcd_comm]
def zhr{p:Int}(hp:0<=p):(Int.gcd p 0:Int)=p:=by
 rw[Int.gcd_zero_right];lia
def zaB{a b:Int}(h:¬(a=0/\b=0)):1<=(Int.gcd a b:Int):=by
 have:0<Int.gcd a b:=Int.gcd_pos_iff.mpr (by lia)
 lia
end Mine
namespace Mine
structure IsLcm(ns:A7)(l:Int):Prop where
 pos:0<l
 dv:∀n∈ns,n∣l
 least:∀m:Int,(∀n∈ns,n∣m)->l∣m
def IsLcm.nil:IsLcm [] 1:=⟨by decide,(λ_ h=>nomatch h),λm _=>fW m⟩
def ziJ{a b:Int}(ha:0<a)(hb:0<b):a/(Int.gcd a b:Int)*b=(Nat.lcm a.natAbs b.natAbs:Int):=by
 have g:(Int.gcd a b:Int)∣a:=Int.gcd_dvd_left ..;let⟨k,hk⟩:=g;have gp:0<(Int.gcd a b:Int):=by have:=zaB (a:=a) (b:=b) (by lia);lia
 have e1:a/(Int.gcd a b:Int)=k:=by
  conv=>lhs;rw[hk]
  have hk':=hk;rw[Int.mul_comm (Int.gcd a b:Int) k];have e2:Int.gcd (k*(Int.gcd a b:Int)) b=Int.gcd a b:=by rw[Int.mul_comm,<- hk]
  rw[e2];exact Int.mul_ediv_cancel _ (by lia)
 have hkn:0<k:=by
  rcases(by lia:k<=0\/0<k)with h|h
  .have:=dY (cY gp) h
   lia
  .exact h
 have hg:Nat.gcd a.natAbs b.natAbs*Nat.lcm a.natAbs b.natAbs=a.natAbs*b.natAbs:=Nat.gcd_mul_lcm ..;have ea:a.natAbs=Nat.gcd a.natAbs b.natAbs*k.natAbs:=by
  have:=bE Int.natAbs hk;rw[Int.natAbs_mul,bn]at this;exact this
 have gp':0<Nat.gcd a.natAbs b.natAbs:=by
  have:(Nat.gcd a.natAbs b.natAbs:Int)=(Int.gcd a b:Int):=rfl
  lia
 have e3:Nat.lcm a.natAbs b.natAbs=k.natAbs*b.natAbs:=by
  apply eZ gp';rw[hg,<- Nat.mul_assoc,<- ea]
 rw[e1,e3];rw[Int.natCast_mul];have h1:k=(k.natAbs:Int):=by lia
 have h2:b=(b.natAbs:Int):=by lia
 rw[<- h1,<- h2]
def xY{a b:Int}(h:a∣b):a.natAbs∣b.natAbs:=cM.mpr h
def IsLcm.step{ns:A7}{l p:Int}(x:IsLcm ns l)(hp:0<p):IsLcm (ns++[p]) (l/(Int.gcd l p:Int)*p):=by
 rw[ziJ x.pos hp];have lp:0<l.natAbs:=by have:=x.pos;lia
 have pp:0<p.natAbs:=by lia
 refine⟨?_,λn hn=>?_,λm hm=>?_⟩
 .have:=Nat.lcm_pos lp pp
  lia
 .rcases ax.mp hn with h|h
  .have h1:=x.dv n h;refine Int.dvd_trans h1 ?_;rw[<- cM,bn];exact Nat.dvd_lcm_left ..
  .rw[ak.mp h,<- cM,bn];exact Nat.dvd_lcm_right ..
 .have h1:=x.least m λn hn=>hm n (bP _ hn);have h2:=hm p (aX _ (ak.mpr rfl));rw[<- cM,bn];exact Nat.lcm_dvd (xY h1) (xY h2)
def zaC{a b:Int}(hb:0<b):(Int.gcd a b:Int)<=b:=Int.le_of_dvd hb (eC ..)
end Mine
namespace Mine
def QS(top bottom:Int):Int:=if bottom<0 then -(Int.gcd top bottom:Int)else(Int.gcd top bottom:Int)
def xV(top bottom:Int):Int:=top.fdiv (QS top bottom)
def xW(top bottom:Int):Int:=bottom.fdiv (QS top bottom)
def zcI{top bottom:Int}(h:bottom≠0):∃p t b,QS top bottom=p/\p≠0/\top=p*t/\bottom=p*b/\1<=b/\Int.gcd t b=1/\p.natAbs<=bottom.natAbs:=by
 have gp:=zaB (a:=top) (b:=bottom) (by lia);let⟨t,ht⟩:=Int.gcd_dvd_left (a:=top) (b:=bottom);let⟨b,hb⟩:=eC (a:=top) (b:=bottom);have hg:Int.gcd t b=1:=by
  have e:Int.gcd ((Int.gcd top bottom:Int)*t) ((Int.gcd top bottom:Int)*b)=(Int.gcd top bottom:Int).natAbs*Int.gcd t b:=Int.gcd_mul_left ..;rw[<- ht,<- hb,bn]at e;have gp':0<Int.gcd top bottom:=by lia
  exact(eZ gp' (by rw[Nat.mul_one];exact e)).symm
 have hle:(Int.gcd top bottom:Int).natAbs<=bottom.natAbs:=by
  rw[bn];exact Nat.le_of_dvd (by lia) (xY (eC ..) |> λz=>by rwa[bn]at z)
 unfold QS;by_cases hs:bottom<0
 .rw[aq hs];refine⟨_,-t,-b,rfl,by lia,by rw[Int.neg_mul_neg];exact ht,by rw[Int.neg_mul_neg];exact hb,?_,by rw[Int.gcd_neg,Int.neg_gcd];exact hg,by rw[Int.natAbs_neg];exact hle⟩;rcases(by lia:b<0\/0<=b)with z|z
  .lia
  .have:=Int.mul_nonneg (bd (Int.gcd top bottom)) z
   lia
 .rw[ao hs];refine⟨_,t,b,rfl,by lia,ht,hb,?_,hg,hle⟩;rcases(by lia:b<=0\/0<b)with z|z
  .have:=dY (bd (Int.gcd top bottom)) z
   lia
  .lia
def zcs{n:Nat}(h:n<10^61):n<2^8000 :=
 eB h (eB (show 10^61<2^250 by decide+kernel) (fT (by decide) (by decide)))
def zha{top bottom:Int}(h:bottom≠0):QS top bottom≠0/\(QS top bottom).natAbs<=bottom.natAbs:=by
 let⟨p,t,b,e,hp,ht,hb,_,_,hl⟩:=zcI (top:=top) h;rw[e];exact⟨hp,hl⟩
def zhI(a b:Int):Int.gcd (if a<0 then -a else a) (if b<0 then -b else b)=Int.gcd a b:=by
 have e1:(if a<0 then -a else a).natAbs=a.natAbs:=by split<;>lia
 have e2:(if b<0 then -b else b).natAbs=b.natAbs:=by split<;>lia
 show Nat.gcd _ _=Nat.gcd _ _
 rw[e1,e2]
end Mine
namespace L2
open PySem PySem.Spec PyProof.Rows
variable{i:Int}{xs:Ap}{v:V}{n:Nat}{CX:CXT}{P:Ag}{w:World}{mg:A5}{base:Heap}{N:A9}{qual:Str}{scope:Scope}{f:Addr}{cd:Am}{A:Ao}{s:An}{E:XK}{b:Bool}
section
variable{X:Cx}{K:A0}{σ:St}{H:Hp}{Q:VK}{D:Ends}
theorem rd_iq{P:Int->Prop}:iq (.int i) P=P i:=rfl
theorem rd_bq{P:Bool->Prop}:bq (.bl b) P=P b:=rfl
theorem rd_nq{P:Prop}:nq .non P=P:=rfl
theorem rd_lq{P:V->Prop}:lq [v] P=P v:=rfl
theorem rd_vq{P:V->Prop}:vq (some (some v)) P=P v:=rfl
theorem rd_addI{i j:Int}:zbp K (.int i) (.int j) H Q=Q (.int (i+j)) H:=rfl
theorem rd_addS{i j:Str}:zbp K (.str i) (.str j) H Q=(i.length+j.length<=sizeLine/\Q (.str (i++j)) H):=rfl
theorem rd_mc{α β:Type}{f:α->β}{a:α}{l:List α}:List.map f (a::l)=f a::List.map f l:=rfl
theorem rd_mn{α β:Type}{f:α->β}:List.map f []=[]:=rfl
theorem rd_itT{A B:Prop}:(if true=true then A else B)=A:=rfl
theorem rd_itF{A B:Prop}:(if false=true then A else B)=B:=rfl
theorem rd_is0{A B:Prop}:(if V.non=V.non then A else B)=A:=rfl
theorem rd_is1{a:Addr}{A B:Prop}:(if V.ref a=V.non then A else B)=B:=rfl
theorem rd_is2{a:Int}{A B:Prop}:(if V.int a=V.non then A else B)=B:=rfl
theorem rd_in0{A B:Prop}:(if ¬V.non=V.non then A else B)=B:=rfl
theorem rd_in1{a:Addr}{A B:Prop}:(if ¬V.ref a=V.non then A else B)=A:=rfl
theorem rd_in2{a:Int}{A B:Prop}:(if ¬V.int a=V.non then A else B)=A:=rfl
theorem rd_sz0{P:Prop}:szl [] P=P:=rfl
section
variable{P:Prop}{a b c d e f g h i:V}
theorem rd_sz1:szl [a] P=P:=rfl
theorem rd_sz2:szl [a,b] P=P:=rfl
theorem rd_sz3:szl [a,b,c] P=P:=rfl
theorem rd_sz4:szl [a,b,c,d] P=P:=rfl
theorem rd_sz5:szl [a,b,c,d,e] P=P:=rfl
theorem rd_sz6:szl [a,b,c,d,e,f] P=P:=rfl
theorem rd_sz7:szl [a,b,c,d,e,f,g] P=P:=rfl
theorem rd_sz8:szl [a,b,c,d,e,f,g,h] P=P:=rfl
theorem rd_sz9:szl [a,b,c,d,e,f,g,h,i] P=P:=rfl
end
noncomputable def zdN:Nat->List Stmt->Bool
 |0,_=>false
 | n+1,b=>match b.getLast? with
  |some (.Return ..)=>true
  |some (.Raise ..)=>true
  |some (.Continue ..)=>true
  |some (.Break ..)=>true
  |some (.If _ b e _)=>zdN n b&&zdN n e
  |_=>false
noncomputable def zjz:Stmt->Bool
 | .For ..=>true
 | .While ..=>true
 | .Try ..=>true
 | .If _ b e _=>!zdN 9 b && !zdN 9 e
 |_=>false
def fa{X:Cx}{st:Stmt}{t:TS}(_:zjz st=true)(p:PS X st t):PS X st t:=p
structure Vr(X:Cx)(i:Nat)(x:Str):Prop where
 n:X.N[i]?=some x
 v:Vis X.env.scope x
 d:(x == ("__debug__":Str))=false
 c:(x == ("__classdict__":Str))=false
def pq{X:Cx}(i:Nat){x:Str}{pos:Pos}(h:Vr X i x:=by walk_at"v"):PE X (.Name x pos) (tVar i):=zfD h.n h.v h.d h.c
theorem rd_trB{P:Bool->Hp->Prop}:trq K (.bl b) H P=P b H:=rfl
theorem rd_trI{P:Bool->Hp->Prop}:trq K (.int i) H P=∃k,zeW K (.int i) H k/\P k H:=rfl
theorem rd_trR{a:Addr}{P:Bool->Hp->Prop}:trq K (.ref a) H P=∃k,zeW K (.ref a) H k/\P k H:=rfl
theorem rd_trS{x:Str}{P:Bool->Hp->Prop}:trq K (.str x) H P=∃k,zeW K (.str x) H k/\P k H:=rfl
theorem rd_eqI{i j:Int}:zad K (.int i) (.int j) H Q=Q (.bl (decide (i=j))) H:=rfl
theorem rd_neI{i j:Int}:zbo K (.int i) (.int j) H Q=Q (.bl (!decide (i=j))) H:=rfl
theorem rd_eqS{i j:Str}:zad K (.str i) (.str j) H Q=Q (.bl (decide (i=j))) H:=rfl
theorem rd_eqB{i j:Bool}:zad K (.bl i) (.bl j) H Q=Q (.bl (decide (i=j))) H:=rfl
theorem rd_eTI{i j:Int}:zep K (.int i) (.int j) H Q=if i=j then Q (.bl true) H else Q (.bl false) H:=rfl
theorem rd_eTS{i j:Str}:zep K (.str i) (.str j) H Q=if i=j then Q (.bl true) H else Q (.bl false) H:=rfl
theorem rd_eTB{i j:Bool}:zep K (.bl i) (.bl j) H Q=if i=j then Q (.bl true) H else Q (.bl false) H:=rfl
theorem rd_nTI{i j:Int}:zeo K (.int i) (.int j) H Q=if ¬i=j then Q (.bl true) H else Q (.bl false) H:=rfl
theorem rd_nTS{i j:Str}:zeo K (.str i) (.str j) H Q=if ¬i=j then Q (.bl true) H else Q (.bl false) H:=rfl
theorem rd_nTB{i j:Bool}:zeo K (.bl i) (.bl j) H Q=if ¬i=j then Q (.bl true) H else Q (.bl false) H:=rfl
theorem rd_eTR{a b:Addr}:zep K (.ref a) (.ref b) H Q=zad K (.ref a) (.ref b) H Q:=rfl
theorem rd_nTR{a b:Addr}:zeo K (.ref a) (.ref b) H Q=zbo K (.ref a) (.ref b) H Q:=rfl
def rd_fvI{P:Str->Prop}{R:Str->Prop}:((∃j,V.int i=V.int j/\j.natAbs.log2<1920/\P (toString j))\/(∃y,V.int i=V.str y/\y.length<=sizeLine/\R y))↔i.natAbs.log2<1920/\P (toString i) :=
 ⟨λh=>h.elim (λ⟨_,e,h⟩=>by cases e;exact h) (λ⟨_,e,_⟩=>nomatch e),λh=>.inl ⟨i,rfl,h⟩⟩
def rd_strS{y:Str}{P:Str->Prop}:(∃z,V.str y=V.str z/\P z)↔P y:=⟨λ⟨_,e,h⟩=>by cases e;exact h,λh=>⟨y,rfl,h⟩⟩
theorem rd_c0:((0:Nat):Int)=0:=rfl
theorem rd_c1:((1:Nat):Int)=1:=rfl
theorem rd_c2:((2:Nat):Int)=2:=rfl
theorem rd_c3:((3:Nat):Int)=3:=rfl
theorem rd_c4:((4:Nat):Int)=4:=rfl
theorem rd_c5:((5:Nat):Int)=5:=rfl
theorem rd_c6:((6:Nat):Int)=6:=rfl
def jM{p:Addr}{k:Int}{j:Nat}{R:Hp->Prop}(h:H p=some (.lst xs))(e:ixN xs.length k=some j)(q:R (upd H p (.lst (xs.set j v)))):zhU (.ref p) (.int k) v H R:=⟨p,xs,k,j,rfl,rfl,h,e,q⟩
def wI{k:Int}(h0:0<=k)(h1:k<n):ixN n k=some k.toNat:=by unfold ixN;rw[aq h0,aq h1]
theorem cx_K{K:A0}{outer:List Env}{H:Hp}:(JE CX P w K mg base N qual scope f cd A outer s H E).K=K:=rfl
theorem cx_mg{K:A0}{outer:List Env}{H:Hp}:(JE CX P w K mg base N qual scope f cd A outer s H E).mg=mg:=rfl
theorem cx_prog{K:A0}{outer:List Env}{H:Hp}:(JE CX P w K mg base N qual scope f cd A outer s H E).prog=P:=rfl
theorem cx_w{K:A0}{outer:List Env}{H:Hp}:(JE CX P w K mg base N qual scope f cd A outer s H E).w=w:=rfl
theorem cx_base{K:A0}{outer:List Env}{H:Hp}:(JE CX P w K mg base N qual scope f cd A outer s H E).base=base:=rfl
def rd_cpow{n:Int}:zjF 10 n↔0<=n/\n<=1000000:=⟨λh=>⟨h.1,h.2.1⟩,λh=>⟨h.1,h.2,by decide⟩⟩
def rd_isiI:zac K [.int i,.ty "int"] H Q↔Q (.bl true) H:=by
 refine⟨λh=>?_,λq=>⟨_,_,_,_,rfl,.old (.int i),.inl ⟨_,rfl,Jg⟩,q⟩⟩;let⟨x,c,t,b,e,ty,k,q⟩:=h;cases e;rcases k with⟨u,hu,k⟩|⟨_,_,_,e,_⟩
 .cases hu;cases ty with|old ty=>cases ty;rw[Jg]at k;cases k;exact q
 .cases e
def rd_isiIB:zac K [.int i,.ty "bool"] H Q↔Q (.bl false) H:=by
 refine⟨λh=>?_,λq=>⟨_,_,_,_,rfl,.old (.int i),.inl ⟨_,rfl,Qe⟩,q⟩⟩;let⟨x,c,t,b,e,ty,k,q⟩:=h;cases e;rcases k with⟨u,hu,k⟩|⟨_,_,_,e,_⟩
 .cases hu;cases ty with|old ty=>cases ty;rw[Qe]at k;cases k;exact q
 .cases e
def rd_isiB{i:Bool}:zac K [.bl i,.ty "bool"] H Q↔Q (.bl true) H:=by
 refine⟨λh=>?_,λq=>⟨_,_,_,_,rfl,.old (.bl i),.inl ⟨_,rfl,Zk⟩,q⟩⟩;let⟨x,c,t,b,e,ty,k,q⟩:=h;cases e;rcases k with⟨u,hu,k⟩|⟨_,_,_,e,_⟩
 .cases hu;cases ty with|old ty=>cases ty;rw[Zk]at k;cases k;exact q
 .cases e
def rd_isiS{i:Str}:zac K [.str i,.ty "str"] H Q↔Q (.bl true) H:=by
 refine⟨λh=>?_,λq=>⟨_,_,_,_,rfl,.old (.str i),.inl ⟨_,rfl,Jf⟩,q⟩⟩;let⟨x,c,t,b,e,ty,k,q⟩:=h;cases e;rcases k with⟨u,hu,k⟩|⟨_,_,_,e,_⟩
 .cases hu;cases ty with|old ty=>cases ty;rw[Jf]at k;cases k;exact q
 .cases e
def Qf{a C:Addr}{c:V}{u:Am}(h:H a=some (Qi a (.ref C)))(f:XI K C)(hu:zhy c=some u)(k:kitOne K (.ref C) u=some b)(q:Q (.bl b) H):zac K [.ref a,c] H Q :=
 ⟨_,_,_,_,rfl,.exc h f,.inl ⟨u,hu,k⟩,q⟩
def zgd{a C p:Addr}{cs:Ap}{us:A8}(h:H a=some (Qi a (.ref C)))(f:XI K C)(hp:H p=some (.tup cs))(hu:zbZ cs=some us)(k:kitAny K (.ref C) us=some b)(q:Q (.bl b) H):zac K [.ref a,.ref p] H Q :=
 ⟨_,_,_,_,rfl,.exc h f,.inr ⟨p,cs,us,rfl,hp,hu,k⟩,q⟩
def zdF{a:Addr}(h:H a=some (.tup xs))(q:Q (.bl true) H):zac K [.ref a,.ty "tuple"] H Q:=⟨_,_,_,_,rfl,.old (.tup h),.inl ⟨_,rfl,zbM⟩,q⟩
def jN{a b:Addr}{xs ys:Ap}(h1:SqL K H a xs)(h2:SqL K H b ys)(hl:xs.length+ys.length<=sizeLine)(q:∀p,H p=none->Q (.ref p) (upd H p (.lst (xs++ys)))):zbp K (.ref a) (.ref b) H Q :=
 show zfy K _ _ H Q from⟨a,b,xs,ys,rfl,rfl,h1,h2,hl,q⟩
def qN(h:n<=1000):n<=sizeLine:=bV (zm h)
def qb{a:Addr}{DN:St->Hp->Prop}{B:(St->Hp->Prop)->V->St->Hp->Prop}(Pv:Nat->St->Hp->Prop)(h0:Pv 0 σ H)(hl:∀i σ H,i<=xs.length->Pv i σ H->SqL K H a xs)(hs:∀i x σ H,xs[i]?=some x->Pv i σ H->B (Pv (i+1)) x σ H)(hd:∀σ H,Pv xs.length σ H->DN σ H) :
  ∃W:Nat->Nat->St->Hp->Prop,(∃m,W 0 m σ H)/\∀i m σ H,W i m σ H ->
   ((Itl K a).stop i H/\DN σ H)\/((Itl K a).go i H/\∃N:St->Hp->Prop,(∀σ' H',N σ' H'->∃m',m'<m/\W (i+1) m' σ' H')/\∀x H',(Itl K a).yld i H x H'->B N x σ H'):=by
 refine⟨λi m σ H=>m=xs.length-i/\i<=xs.length/\Pv i σ H,⟨xs.length,by simp,ck _,h0⟩,?_⟩;rintro i m σ H ⟨rfl,hi,p⟩;have q:=hl i σ H hi p;by_cases hlt:i<xs.length
 .refine .inr ⟨⟨xs,xs[i],q,by simp[hlt]⟩,Pv (i+1),λσ' H' p'=>⟨xs.length-(i+1),by lia,rfl,hlt,p'⟩,λx H' y=>?_⟩;let⟨e,y⟩:=y;subst e;exact hs i x σ _ (y xs q) p
 .have e:i=xs.length:=by lia
  subst e;exact .inl ⟨⟨xs,q,ar _⟩,hd σ H p⟩
def vK{lo:Int}{DN:St->Hp->Prop}{B:(St->Hp->Prop)->V->St->Hp->Prop}(Pv:Nat->St->Hp->Prop)(h0:Pv 0 σ H)(hs:∀i σ H,i<n->Pv i σ H->B (Pv (i+1)) (.int (lo+i)) σ H)(hd:∀σ H,Pv n σ H->DN σ H) :
  ∃W:Nat->Nat->St->Hp->Prop,(∃m,W 0 m σ H)/\∀i m σ H,W i m σ H ->
   ((Itr lo n).stop i H/\DN σ H)\/((Itr lo n).go i H/\∃N:St->Hp->Prop,(∀σ' H',N σ' H'->∃m',m'<m/\W (i+1) m' σ' H')/\∀x H',(Itr lo n).yld i H x H'->B N x σ H'):=by
 refine⟨λi m σ H=>m=n-i/\i<=n/\Pv i σ H,⟨n,by simp,ck _,h0⟩,?_⟩;rintro i m σ H ⟨rfl,hi,p⟩;by_cases hlt:i<n
 .refine .inr ⟨hlt,Pv (i+1),λσ' H' p'=>⟨n-(i+1),by lia,rfl,hlt,p'⟩,λx H' y=>?_⟩;let⟨e,y⟩:=y;subst e y;exact hs i σ _ hlt p
 .have e:i=n:=by lia
  subst e;exact .inl ⟨ar _,hd σ H p⟩
def zin{a b:Addr}{xs ys:Ap}(hn:n<=8)(h1:SqL K H a xs)(h2:SqL K H b ys)(hl:xs.length=ys.length)(hde:∀(j:Nat)(x y:V),xs[j]?=some x->ys[j]?=some y->DE K H n x y true)(q:Q (.bl false) H):zbo K (.ref a) (.ref b) H Q :=
 .inr (.inr ⟨a,b,xs,ys,n,λ_=>true,rfl,rfl,hn,hde,.inl ⟨h1,h2,hl,by rw[bI.mpr (λ_ _=>rfl)];exact q⟩⟩)
def zhv{p q:Addr}{ns:A7}(hne:p≠q)(h1:SqL K H p (ns.map V.int))(h2:SqL K H q (ns.map V.int)):DE K H (n+1) (.ref p) (.ref q) true:=by
 have:=DE.lists (n:=n) (e:=λ_=>true) hne h1 h2 rfl (λj x y hx hy=>by
  rw[hx]at hy;cases hy;rw[ai,am]at hx;let⟨m,_,rfl⟩:=hx;have z:DE K H n (.int m) (.int m) (eqV (.int m) (.int m)):=.flat rfl rfl;rw[show eqV (V.int m) (V.int m)=true by simp[eqV]]at z;exact z)
 rw[bI.mpr (λ_ _=>rfl)]at this;exact this
def zio{a b:Addr}(h1:SqL K H a xs)(h2:SqL K H b xs)(hf:xs.all jV=true)(hs:xD xs xs=true)(q:Q (.bl true) H):zad K (.ref a) (.ref b) H Q :=
 .inr (.inl ⟨a,b,xs,xs,rfl,rfl,.inl ⟨h1,h2⟩,hf,hf,by rw[hs];exact q⟩)
def j7{a:Addr}{lo hi:Aa}(h:SqL K H a xs)(q:∀p,H p=none->Q (.ref p) (upd H p (.lst (Qk xs lo hi)))):zir K (.ref a) lo hi H Q:=⟨a,xs,rfl,h,q⟩
def upd_keep{a b:Addr}{o u:HO}(h:H b=some u)(ha:H a=none):upd H a o b=some u:=by rw[pF (pG h ha)];exact h
def pH:=@upd_keep
def zc{a:Addr}{o:HO}(ha:H a=none):Same H (upd H a o):=λ_ _ h=>pH h ha
def rd_ixT{a:Addr}(h:H a=some (.tup xs))(e:atI xs i=some v)(q:Q v H):rIx K (.ref a) (.int i) H Q:=.inr (.inl ⟨a,xs,i,v,rfl,rfl,SqT.of h,e,q⟩)
def pI:=@rd_ixT
def zu{a:Addr}(h:SqL K H a xs)(e:atI xs i=some v)(q:Q v H):rIx K (.ref a) (.int i) H Q:=.inl ⟨a,xs,i,v,rfl,rfl,h,e,q⟩
def zjL{N0:St->Hp->Prop}{B:(St->Hp->Prop)->Prop}(h:B N0):∃N:St->Hp->Prop,(∀σ' H',N σ' H'->N0 σ' H')/\B N:=⟨N0,λ_ _ h=>h,h⟩
end
end L2
set_option hygiene false
local macro_rules | `(tactic| walk_at "v")=>`(tactic| exact ⟨rfl,by first|exact Or.inl rfl|exact Or.inr (Or.inl rfl)|exact Or.inr (Or.inr rfl),by decide,by decide⟩)
local macro_rules | `(tactic| walk_at "e") => do
 let f:=fun (s:String)=>Lean.mkIdent (if s.front == '.' then "L2"++s else s).toName
 let a ← (".start .tSIn .tSGet .sSPut .tSNew .tB .rd_mc .rd_mn List.length_cons List.length_nil List.cons_append nil_append .tSeq .tAsg .gName .tC .tOp .tUn .tTest .tIfS .tRet .tNext .tDrop .tNot .tAnd .tOr .tAndV .tNotV .tCons .tNil .tTup .tLst .tBi .tBl .tVar ↓.rd_vq .rd_vq ↓.rd_iq .rd_iq ↓.rd_bq .rd_bq ↓.rd_nq .rd_nq ↓.rd_lq .rd_lq ↓.rd_itT .rd_itT ↓.rd_itF .rd_itF ↓.rd_is0 .rd_is0 ↓.rd_is1 .rd_is1 ↓.rd_is2 .rd_is2 ↓.rd_in0 .rd_in0 ↓.rd_in1 .rd_in1 ↓.rd_in2 .rd_in2 .rI .rI0 .rU .rT .ipI .tTru .rd_trB .rd_trI .rd_trR .rd_trS .tAug .rd_addI .rd_addS .rd_eqI .rd_neI .rd_eqS .rd_eqB .rd_eTI .rd_eTS .rd_eTB .rd_eTR .rd_nTI .rd_nTR .rd_nTS .rd_nTB .rd_fvI .rd_strS .rd_sz0 .rd_sz1 .rd_sz2 .rd_sz3 .rd_sz4 .rd_sz5 .rd_sz6 .rd_sz7 .gSub .tCont .rd_sz8 .rd_sz9 .cx_K .cx_mg .cx_prog .cx_w .cx_base .gTup .gCons .gNil .tCl .tGl .tChain .tRaise .tTryAs .sFld .tFld .tMk .tMth .tBM .tBM0 .tSl .tNoPart .tPart .tClN .tMkN .tMthN .tBase .tYes .tRg1 .tIf .cxC_K .cxC_mg .cxC_prog .cxC_w .cxC_base eq_self reduceCtorEq decide_false Option.getD_some Option.getD_none List.getElem?_cons_zero List.getElem?_cons_succ List.set_cons_zero List.set_cons_succ List.replicate Nat.reduceSub Nat.reduceAdd true_and and_true .rd_cpow Int.reduceToNat Int.reducePow Int.reduceLT Int.reduceLE Int.reduceNeg .fdiv_pos .rd_isiI .rd_isiIB .rd_isiB .rd_isiS Bool.not_true Bool.not_false Bool.false_eq_true reduceIte decide_true decide_eq_true_eq Bool.true_eq_false Bool.not_eq_true' decide_eq_false_iff_not .rd_c0 .rd_c1 .rd_c2 .rd_c3 .rd_c4 .rd_c5 .rd_c6 Int.reduceEq not_true_eq_false not_false_eq_true Int.reduceMul Int.reduceAdd Int.reduceSub".splitOn " ").toArray.mapM fun s=>if s.front == '↓' then `(Lean.Parser.Tactic.simpLemma| ↓$(f (s.drop 1).toString):term) else `(Lean.Parser.Tactic.simpLemma| $(f s):term)
 `(tactic| (simp only [$a,*]))
local macro_rules | `(tactic| walk_at "r")=>`(tactic| try walk_at "e")
local macro_rules | `(tactic| walk_at "m")=>`(tactic| (refine L2.rd_ixT (by assumption) rfl ?_;try walk_at "e"))
local macro_rules | `(tactic| walk_at "h")=>`(tactic| first|assumption|exact L2.mul_okR (by decide) (by decide)|exact L2.mul_okL (by decide) (by decide)|exact L2.mul_okR (by lia) (by lia)|exact L2.mul_okL (by lia) (by lia)|exact L2.fd_ok (by decide) (by decide +kernel)|decide|lia|exact L2.fd_small (by lia) (by lia))
local macro_rules | `(tactic| walk_at "f")=>`(tactic| repeat (refine And.intro (by walk_at "h") ?_))
local macro_rules | `(tactic| walk_at "c")=>`(tactic| (walk_at "a";(try simp only [L2.tFor,L2.iSeq,L2.iRng1,L2.iRng3,L2.iEnum,L2.iZip]);try walk_at "e"))
local macro_rules | `(tactic| walk_at "d")=>`(tactic| (walk_at "a";(try simp only [L2.tLc,L2.iSeq,L2.stC,L2.iRng1,L2.iRng3,L2.iEnum,L2.iZip]);try walk_at "e"))
local macro_rules | `(tactic| walk_at "a")=>`(tactic| repeat (first|walk_at "e" | refine And.intro (by assumption) ?_|refine L2.nxt λ Nq_ hNq_=>?_|refine L2.useN (by assumption) ?_))
local macro_rules | `(tactic| walk_at "l")=>`(tactic| first|assumption|exact ba (by assumption)|exact L2.ne_of_none (by assumption) (by assumption)|exact ba (L2.ne_of_none (by assumption) (by assumption)))
local macro_rules | `(tactic| walk_at "g")=>`(tactic| first|assumption|exact L2.upd_same|(refine L2.upd_keep ?_ (by assumption);walk_at "g")|(rw [L2.upd_ne (by walk_at "l")];walk_at "g"))
set_option hygiene false
local macro_rules | `(tactic| walk_at "i")=>`(tactic| (intro vs H Q E h;first|(cases h;subst_vars;rfl)|repeat (first|(obtain ⟨rfl,_⟩:=h;rfl)|obtain ⟨_,h⟩:=h)))
local macro_rules | `(tactic| walk_at "j")=>`(tactic| intro cdv A outer s H vs Q EX hr h)
local macro_rules | `(tactic| walk_at "k")=>`(tactic| intro cdv A outer s H vs Q E hr h)
seal L2.PE L2.PT L2.PA L2.PS L2.PSs L2.PC L2.PG L2.PGs L2.PI L2.PO L2.PK
namespace K39
open PySem L2 Mine
local macro_rules | `(tactic| exists $t)=>`(tactic| (walk_at "a";refine $t))
local macro_rules | `(tactic| left)=>`(tactic| walk_at "a")
local macro_rules | `(tactic| right)=>`(tactic| first|decide +kernel|kernel_rfl)
local macro_rules | `(tactic| symm)=>`(tactic| decide +kernel)
local macro_rules | `(tactic| ext)=>`(tactic| (clear p7 p9;subst p8))
local macro_rules | `(‹$f $x*›)=>`((zD ⟨rfl,rfl,rfl⟩ hr (za $f $x*)))
variable{H:Hp}{bs:A1}{p:A6}{i k j lim m:Nat}{v:V}{as:Ac}{vs us xs:Ap}{b:Addr}{n:Int}{o:HO}{fs:Ar}{s ns ks ps:A7}{wd:Wd}
noncomputable def top(i:Nat):Stmt:=PySem.Challenge.pw_beltshares_k39_whole_even_or_a_fault.main.body.getD i (.Pass ⟨0,0,0,0⟩)
local macro_rules | `(tactic| walk_at "b")=>`(tactic| exact ⟨rfl,rfl,rfl,by symm,rfl,by symm,by symm⟩)
noncomputable abbrev vv:Stmt:=qa (top 15) 0
def V9:FnScope ["self","room","pace"] ["self","room","pace"] (zf vv):=by walk_at"b"
noncomputable abbrev ZZ:Stmt:=top 20
def Wu:FnScope ["pace","least"] ["pace","least"] (zf ZZ):=by walk_at"b"
noncomputable abbrev Z0:Stmt:=top 21
def Wv:FnScope ["kind"] ["kind"] (zf Z0):=by walk_at"b"
noncomputable abbrev ZX:Stmt:=top 22
def Ws:FnScope ["belts"] ["belts"] (zf ZX):=by walk_at"b"
noncomputable abbrev Zh:Stmt:=top 23
def Xk:FnScope ["wanted","side","step","place"] ["wanted","side"] (zf Zh):=by walk_at"b"
noncomputable abbrev wc:Stmt:=top 24
def ZO:FnScope ["head","free","side"] ["head","free","side"] (zf wc):=by walk_at"b"
noncomputable abbrev vo:Stmt:=qa (top 25) 0
def V8:FnScope ["self","ins","outs"] ["self","ins","outs"] (zf vo):=by walk_at"b"
noncomputable abbrev xR:Stmt:=qa (top 26) 0
def Xo:FnScope ["self","out","pace","kinds","kind"] ["self","out","pace","kinds"] (zf xR):=by walk_at"b"
noncomputable abbrev wQ:Stmt:=qa (top 26) 1
def QG:FnScope ["self","heads","free","turn","side"] ["self","heads","free","turn","side"] (zf wQ):=by walk_at"b"
noncomputable abbrev wP:Stmt:=qa (top 26) 2
def QF:FnScope ["self"] ["self"] (zf wP):=by walk_at"b"
noncomputable abbrev wF:Stmt:=qa (top 27) 0
def WC:FnScope ["self","into","pace"] ["self","into","pace"] (zf wF):=by walk_at"b"
noncomputable abbrev vt:Stmt:=qa (top 27) 1
def Jv:FnScope ["self","heads","free","turn","side"] ["self","heads","free","turn","side"] (zf vt):=by walk_at"b"
noncomputable abbrev vp:Stmt:=qa (top 27) 2
def Ju:FnScope ["self"] ["self"] (zf vp):=by walk_at"b"
noncomputable abbrev xS:Stmt:=qa (top 28) 0
def Xp:FnScope ["self","into","outs"] ["self","into","outs"] (zf xS):=by walk_at"b"
noncomputable abbrev wS:Stmt:=qa (top 28) 1
def QI:FnScope ["self","heads","free","turn","side","place"] ["self","heads","free","turn","side"] (zf wS):=by walk_at"b"
noncomputable abbrev wR:Stmt:=qa (top 28) 2
def QH:FnScope ["self"] ["self"] (zf wR):=by walk_at"b"
noncomputable abbrev jp:Stmt:=qa (top 29) 0
def Za:FnScope ["self","into","outs"] ["self","into","outs"] (zf jp):=by walk_at"b"
noncomputable abbrev jR:Stmt:=qa (top 29) 1
def wX:FnScope ["self","heads","free","turn","side","place"] ["self","heads","free","turn","side"] (zf jR):=by walk_at"b"
noncomputable abbrev jQ:Stmt:=qa (top 29) 2
def wW:FnScope ["self"] ["self"] (zf jQ):=by walk_at"b"
noncomputable abbrev wD:Stmt:=qa (top 30) 0
def Wx:FnScope ["self","into","outs","kind"] ["self","into","outs","kind"] (zf wD):=by walk_at"b"
noncomputable abbrev vn:Stmt:=qa (top 30) 1
def Jt:FnScope ["self","heads","free","turn","side","place"] ["self","heads","free","turn","side"] (zf vn):=by walk_at"b"
noncomputable abbrev xG:Stmt:=qa (top 30) 2
def Zw:FnScope ["self","kind"] ["self","kind"] (zf xG):=by walk_at"b"
noncomputable abbrev vm:Stmt:=qa (top 30) 3
def Js:FnScope ["self"] ["self"] (zf vm):=by walk_at"b"
noncomputable abbrev xT:Stmt:=qa (top 31) 0
def Xq:FnScope ["self","ins","out"] ["self","ins","out"] (zf xT):=by walk_at"b"
noncomputable abbrev j6:Stmt:=qa (top 31) 1
def QM:FnScope ["self","heads","free","turn","side","place"] ["self","heads","free","turn","side"] (zf j6):=by walk_at"b"
noncomputable abbrev wU:Stmt:=qa (top 31) 2
def QL:FnScope ["self"] ["self"] (zf wU):=by walk_at"b"
noncomputable abbrev Xs:Stmt:=top 33
def zeh:FnScope ["one","other","part","rest","left"] ["one","other"] (zf Xs):=by walk_at"b"
noncomputable abbrev zaa:Stmt:=top 34
def zfn:FnScope ["top","bottom","part"] ["top","bottom"] (zf zaa):=by walk_at"b"
noncomputable abbrev ZU:Stmt:=top 35
def Wo:FnScope ["one","other"] ["one","other"] (zf ZU):=by walk_at"b"
noncomputable abbrev WW:Stmt:=top 36
def zcu:FnScope ["paces","number","pace"] ["paces"] (zf WW):=by walk_at"b"
noncomputable abbrev jx:Stmt:=qa (top 38) 0
def Ww:FnScope ["self","turn","cells","sides","gone"] ["self","turn","cells","sides","gone"] (zf jx):=by walk_at"b"
noncomputable abbrev WX:Stmt:=top 39
def zcv:FnScope ["work","ware","kinds"] ["work","ware"] (zf WX):=by walk_at"b"
noncomputable abbrev Q4:Stmt:=top 40
def VV:FnScope ["knot"] ["knot"] (zf Q4):=by walk_at"b"
noncomputable abbrev jL:Stmt:=top 41
def Xl:FnScope ["work","cells","sides"] ["work"] (zf jL):=by walk_at"b"
noncomputable abbrev vh:Stmt:=top 42
def Jq:FnScope ["state"] ["state"] (zf vh):=by walk_at"b"
noncomputable abbrev Zx:Stmt:=top 44
def zbc:FnScope ["work","cells"] ["work","cells"] (zf Zx):=by walk_at"b"
noncomputable abbrev ZW:Stmt:=top 45
def Wq:FnScope ["work","state","number"] ["work","state","number"] (zf ZW):=by walk_at"b"
noncomputable abbrev wz:Stmt:=top 46
def zba:FnScope ["work","state","beat_place","kinds","places"] ["work","state"] (zf wz):=by walk_at"b"
noncomputable abbrev wB:Stmt:=top 48
def zbd:FnScope ["work","state","knot","ends"] ["work","state","knot"] (zf wB):=by walk_at"b"
noncomputable abbrev ZS:Stmt:=top 49
def Wm:FnScope ["state","number","from_belt","ware"] ["state","number","from_belt"] (zf ZS):=by walk_at"b"
noncomputable abbrev WY:Stmt:=top 50
def zcw:FnScope ["belts","place"] ["belts","place"] (zf WY):=by walk_at"b"
noncomputable abbrev wO:Stmt:=top 51
def QE:FnScope ["knot","chosen"] ["knot","chosen"] (zf wO):=by walk_at"b"
noncomputable abbrev zdp:Stmt:=top 52
def zij:FnScope ["work","state","number","knot","free","chosen","from_belt","to_belt","ware"] ["work","state","number"] (zf zdp):=by walk_at"b"
noncomputable abbrev WZ:Stmt:=top 53
def zcx:FnScope ["work","state","moves","number","move"] ["work","state"] (zf WZ):=by walk_at"b"
noncomputable abbrev Q5:Stmt:=top 54
def VW:FnScope ["cells","place"] ["cells"] (zf Q5):=by walk_at"b"
noncomputable abbrev va:Stmt:=top 55
def VU:FnScope ["work","state","moves","number","belt"] ["work","state"] (zf va):=by walk_at"b"
noncomputable abbrev Xr:Stmt:=top 56
def zbb:FnScope ["work","state","after"] ["work","state"] (zf Xr):=by walk_at"b"
noncomputable abbrev ZT:Stmt:=top 58
def Wn:FnScope ["work","limit","state","state_by_shape","turn","shape"] ["work","limit"] (zf ZT):=by walk_at"b"
noncomputable abbrev vd:Stmt:=top 59
def VX:FnScope ["before","after","growth","old","new"] ["before","after"] (zf vd):=by walk_at"b"
noncomputable abbrev xE:Stmt:=top 61
def VT:FnScope ["work","limit","ends","length","shares","counts"] ["work","limit"] (zf xE):=by walk_at"b"
noncomputable abbrev ZY:Stmt:=top 65
def Wt:FnScope ["belts","knots"] ["belts","knots"] (zf ZY):=by walk_at"b"
noncomputable abbrev xF:Stmt:=top 66
def Zv:FnScope ["named","size"] ["named","size"] (zf xF):=by walk_at"b"
noncomputable abbrev jP:Stmt:=qa (top 67) 0
def VY:FnScope ["self","belts","knots","fed","taken","knot"] ["self","belts","knots"] (zf jP):=by walk_at"b"
noncomputable abbrev xQ:Stmt:=qa (top 67) 3
def Xn:FnScope ["self"] ["self"] (zf xQ):=by walk_at"b"
noncomputable abbrev xp:Stmt:=qa (top 67) 4
def Jr:FnScope ["self"] ["self"] (zf xp):=by walk_at"b"
noncomputable abbrev vj:Stmt:=qa (top 67) 5
def VZ:FnScope ["self","paces","number","pace"] ["self"] (zf vj):=by walk_at"b"
noncomputable abbrev Zi:Stmt:=top 70
def Xm:FnScope ["paces","pace"] ["paces"] (zf Zi):=by walk_at"b"
noncomputable abbrev wg:Stmt:=top 71
def ZQ:FnScope ["work","parts"] ["work","parts"] (zf wg):=by walk_at"b"
noncomputable abbrev ZR:Stmt:=top 72
def Wl:FnScope ["work","paces","knots","number","pace"] ["work","paces"] (zf ZR):=by walk_at"b"
noncomputable abbrev ZV:Stmt:=top 73
def Wp:FnScope ["pace"] ["pace"] (zf ZV):=by walk_at"b"
noncomputable abbrev Ze:Stmt:=top 74
def Xi:FnScope ["paces","taken","i","less","j","more"] ["paces","taken"] (zf Ze):=by walk_at"b"
noncomputable abbrev we:Stmt:=top 75
def ZP:FnScope ["menus","count","menu"] ["menus"] (zf we):=by walk_at"b"
noncomputable abbrev jw:Stmt:=top 76
def Zu:FnScope ["settings","menu","longer","setting"] ["settings","menu"] (zf jw):=by walk_at"b"
noncomputable abbrev Zf:Stmt:=top 77
def Xj:FnScope ["menus","count","settings","menu"] ["menus"] (zf Zf):=by walk_at"b"
noncomputable abbrev jv:Stmt:=top 78
def Zt:FnScope ["work","limit","shares"] ["work","limit"] (zf jv):=by walk_at"b"
noncomputable abbrev wC:Stmt:=top 79
def Wr:FnScope ["work","menus","limit","menu","paces","taken","pair"] ["work","menus","limit"] (zf wC):=by walk_at"b"
noncomputable abbrev Jc:Stmt:=top 81
def V7:FnScope ["_law_script","_law_k"] ["_law_script","_law_k"] (zf Jc):=by walk_at"b"
noncomputable abbrev Jb:Stmt:=top 82
def V6:FnScope ["_law_cell"] ["_law_cell"] (zf Jb):=by walk_at"b"
noncomputable abbrev Q8:Stmt:=top 83
def V3:FnScope ["_law_cell","_law_many","_law_belts","_law_ends","_law_loops","_law_outs","_law_k"] ["_law_cell","_law_many","_law_belts","_law_ends","_law_loops"] (zf Q8):=by walk_at"b"
noncomputable abbrev Xu:Stmt:=top 84
def zbf:FnScope ["_law_cell","_law_belts","_law_knots","_law_ends","_law_loops","_law_ins","_law_k"] ["_law_cell","_law_belts","_law_knots","_law_ends","_law_loops"] (zf Xu):=by walk_at"b"
noncomputable abbrev Xt:Stmt:=top 85
def zej:FnScope ["_law_cell","_law_belts","_law_knots","_law_ends","_law_loops","_law_left","_law_room","_law_way","_law_many","_law_outs","_law_kinds","_law_ins"] ["_law_cell","_law_belts","_law_knots","_law_ends","_law_loops"] (zf Xt):=by walk_at"b"
noncomputable abbrev Z2:Stmt:=top 86
def Wz:FnScope ["_law_script","_law_turn","_law_belts","_law_knots","_law_ends","_law_loops","_law_cell","_law_at","_law_cut"] ["_law_script","_law_turn"] (zf Z2):=by walk_at"b"
noncomputable abbrev Z4:Stmt:=top 87
def WB:FnScope ["_law_turn","_law_knots","_law_cut"] ["_law_turn"] (zf Z4):=by walk_at"b"
noncomputable abbrev Ja:Stmt:=top 88
def V5:FnScope ["_law_part","_law_word","_law_ins","_law_outs","_law_numbers_here"] ["_law_part"] (zf Ja):=by walk_at"b"
noncomputable abbrev xH:Stmt:=top 89
def V0:FnScope ["_law_made"] ["_law_made"] (zf xH):=by walk_at"b"
noncomputable abbrev Z3:Stmt:=top 90
def WA:FnScope ["_law_many","_law_turn","_law_menus","_law_number","_law_twice","_law_k","_law_menu"] ["_law_many","_law_turn"] (zf Z3):=by walk_at"b"
noncomputable abbrev wE:Stmt:=top 91
def zbe:FnScope ["_law_menus","_law_cell","_law_bad","_law_at","_law_place"] ["_law_menus","_law_cell"] (zf wE):=by walk_at"b"
noncomputable abbrev W8:Stmt:=top 92
def zcy:FnScope ["_law_menus","_law_many","_law_menu","_law_pace"] ["_law_menus","_law_many"] (zf W8):=by walk_at"b"
noncomputable abbrev Xv:Stmt:=top 93
def zbg:FnScope ["_law_work","_law_menus","_law_limit","_law_caught_here","error"] ["_law_work","_law_menus","_law_limit"] (zf Xv):=by walk_at"b"
noncomputable abbrev Q6:Stmt:=top 94
def V1:FnScope ["_law_caught_here","_law_paces","_law_many","_law_long"] ["_law_caught_here","_law_paces","_law_many","_law_long"] (zf Q6):=by walk_at"b"
noncomputable abbrev Z1:Stmt:=top 95
def Wy:FnScope ["_law_work","_law_menus","_law_caught_here","error"] ["_law_work","_law_menus"] (zf Z1):=by walk_at"b"
noncomputable abbrev j5:Stmt:=top 96
def QJ:FnScope ["_law_menus","_law_settings","_law_menu","_law_longer","_law_setting"] ["_law_menus"] (zf j5):=by walk_at"b"
noncomputable abbrev zbi:Stmt:=top 97
def zek:FnScope ["_law_one","_law_other"] ["_law_one","_law_other"] (zf zbi):=by walk_at"b"
noncomputable abbrev Q7:Stmt:=top 98
def V2:FnScope ["_law_paces","_law_taken_here","_law_i","_law_most","_law_j"] ["_law_paces","_law_taken_here"] (zf Q7):=by walk_at"b"
noncomputable abbrev QN:Stmt:=top 99
def zcz:FnScope ["_law_work","_law_drains","_law_paces","_law_limit","_law_shares"] ["_law_work","_law_drains","_law_paces","_law_limit"] (zf QN):=by walk_at"b"
noncomputable abbrev wT:Stmt:=top 100
def QK:FnScope ["_law_work","_law_drains","_law_menus","_law_limit","_law_paces","_law_taken_here","_law_pair"] ["_law_work","_law_drains","_law_menus","_law_limit"] (zf wT):=by walk_at"b"
noncomputable abbrev Q9:Stmt:=top 101
def V4:FnScope ["_law_found","_law_due","_law_one","_law_other"] ["_law_found","_law_due"] (zf Q9):=by walk_at"b"
noncomputable abbrev zbh:Stmt:=top 102
def zei:FnScope ["_law_found","_law_due","_law_one","_law_other"] ["_law_found","_law_due"] (zf zbh):=by walk_at"b"
noncomputable abbrev Zg:Stmt:=top 103
def zii:FnScope ["_law_script","_law_turn","_law_mode","_law_made","_law_limit","_law_work","_law_drains","_law_menus","_law_bad","_law_wrong_here","_law_due","_law_handed","_law_found","_law_caught_here","error"] ["_law_script"] (zf Zg):=by walk_at"b"
local macro_rules | `(tactic| walk_at "T")=>`(tactic| (have gJ:=T.gJ;have nQ:=T.nQ;have kh:=T.kh;have kC:=T.kC;have og:=T.og;have nS:=T.nS;have ip:=T.ip;have kK:=T.kK;have oV:=T.oV;have mM:=T.mM;have ki:=T.ki;have oz:=T.oz;have oW:=T.oW))
structure Ad where
 b:Addr
 c:Addr
 d:Addr
 e:Addr
 f:Addr
 g:Addr
 h:Addr
 i:Addr
 j:Addr
 k:Addr
 l:Addr
 m:Addr
 n:Addr
 o:Addr
 p:Addr
 q:Addr
 r:Addr
 s:Addr
 t:Addr
 u:Addr
abbrev KOy(K:A0)(c d:Addr)(b:Bool):Prop:=kitOne K (.ref c) (.ref d)=some b
structure Txt(K:A0)(mg:A5)(a:Ad):Prop where
 mx:FA K mg "check_pace" ZZ ["pace","least"]
 my:FA K mg "check_kind" Z0 ["kind"]
 mz:FA K mg "check_ways" ZX ["belts"]
 l8:FA K mg "first_place" Zh ["wanted","side"]
 kO:FA K mg "place_for_ware" wc ["head","free","side"]
 oI:FA K mg "common" Xs ["one","other"]
 oX:FA K mg "ratio" zaa ["top","bottom"]
 mB:FA K mg "ratio_less" ZU ["one","other"]
 oj:FA K mg "lasting" WW ["paces"]
 oo:FA K mg "kind_of" WX ["work","ware"]
 mW:FA K mg "no_counts" Q4 ["knot"]
 l9:FA K mg "empty_state" jL ["work"]
 lP:FA K mg "copied_state" vh ["state"]
 nV:FA K mg "kinds_in" Zx ["work","cells"]
 mC:FA K mg "kind_place" ZW ["work","state","number"]
 nW:FA K mg "shape_of" wz ["work","state"]
 nY:FA K mg "heads_of" wB ["work","state","knot"]
 mD:FA K mg "taken_ware" ZS ["state","number","from_belt"]
 oq:FA K mg "belt_at" WY ["belts","place"]
 k8:FA K mg "counted_place" wO ["knot","chosen"]
 pe:FA K mg "act" zdp ["work","state","number"]
 ot:FA K mg "act_all" WZ ["work","state"]
 mX:FA K mg "move_belt" Q5 ["cells"]
 mY:FA K mg "pass_turn" va ["work","state"]
 nZ:FA K mg "one_turn" Xr ["work","state"]
 mE:FA K mg "round_ends" ZT ["work","limit"]
 mZ:FA K mg "growth_of" vd ["before","after"]
 m6:FD K mg "shares_of" xE ["work","limit"] [.int 200]
 mF:FA K mg "check_size" ZY ["belts","knots"]
 kD:FA K mg "check_each_once" xF ["named","size"]
 ma:FA K mg "check_paces" Zi ["paces"]
 kP:FA K mg "check_one_each" wg ["work","parts"]
 mG:FA K mg "with_paces" ZR ["work","paces"]
 mH:FA K mg "most_taken" ZV ["pace"]
 me:FA K mg "uneven_pair" Ze ["paces","taken"]
 kR:FA K mg "count_settings" we ["menus"]
 kG:FA K mg "longer_settings" jw ["settings","menu"]
 mf:FA K mg "settings_of" Zf ["menus"]
 kH:FA K mg "taken_by_drains" jv ["work","limit"]
 kg:FD K mg "even_fault" wC ["work","menus","limit"] [.int 200]
 m7:FA K mg "_law_cell_at" Jc ["_law_script","_law_k"]
 m8:FA K mg "_law_kind_of" Jb ["_law_cell"]
 m9:FA K mg "_law_outs_of" Q8 ["_law_cell","_law_many","_law_belts","_law_ends","_law_loops"]
 n6:FA K mg "_law_joined" Xu ["_law_cell","_law_belts","_law_knots","_law_ends","_law_loops"]
 oJ:FA K mg "_law_step" Xt ["_law_cell","_law_belts","_law_knots","_law_ends","_law_loops"]
 mI:FA K mg "_law_parts_of" Z2 ["_law_script","_law_turn"]
 mJ:FA K mg "_law_lines_of" Z4 ["_law_turn"]
 nh:FA K mg "_law_knot_of" Ja ["_law_part"]
 nk:FA K mg "_law_work_of" xH ["_law_made"]
 mK:FA K mg "_law_menus_of" Z3 ["_law_many","_law_turn"]
 n9:FA K mg "_law_spoilt" wE ["_law_menus","_law_cell"]
 ou:FA K mg "_law_wrong" W8 ["_law_menus","_law_many"]
 oa:FA K mg "_law_caught" Xv ["_law_work","_law_menus","_law_limit"]
 nA:FA K mg "_law_refused" Q6 ["_law_caught_here","_law_paces","_law_many","_law_long"]
 mL:FA K mg "_law_too_long" Z1 ["_law_work","_law_menus"]
 k9:FA K mg "_law_settings_of" j5 ["_law_menus"]
 oK:FA K mg "_law_less" zbi ["_law_one","_law_other"]
 nB:FA K mg "_law_pair_of" Q7 ["_law_paces","_law_taken_here"]
 ow:FA K mg "_law_taken" QN ["_law_work","_law_drains","_law_paces","_law_limit"]
 ld:FA K mg "_law_first_fault" wT ["_law_work","_law_drains","_law_menus","_law_limit"]
 nC:FA K mg "_law_numbers" Q9 ["_law_found","_law_due"]
 oM:FA K mg "_law_told" zbh ["_law_found","_law_due"]
 gJ:mg "len"=none
 nQ:mg "range"=none
 kh:mg "list"=none
 kC:mg "abs"=none
 og:mg "max"=none
 nS:mg "tuple"=none
 ip:mg "isinstance"=none
 kK:mg "enumerate"=none
 oV:mg "zip"=none
 mM:mg "sorted"=none
 ki:mg "ValueError"=none
 oz:mg "bool"=none
 oW:mg "int"=none
 iu:mg "WorkError"=some (.ref a.b)
 iH:mg "NoRatio"=some (.ref a.c)
 lZ:mg "BadBelt"=some (.ref a.d)
 io:mg "BadKnot"=some (.ref a.e)
 kj:mg "BadWork"=some (.ref a.f)
 oN:mg "BadRow"=some (.ref a.g)
 ko:mg "TooLong"=some (.ref a.h)
 iS:mg "BadPaces"=some (.ref a.i)
 l6:mg "TooMany"=some (.ref a.j)
 oO:mg "Moving"=some (.ref a.k)
 o8:mg "Belt"=some (.ref a.l)
 mO:mg "Source"=some (.ref a.n)
 nU:mg "Drain"=some (.ref a.o)
 oP:mg "Parter"=some (.ref a.p)
 mh:mg "FirstParter"=some (.ref a.q)
 oY:mg "Sieve"=some (.ref a.r)
 mP:mg "Joiner"=some (.ref a.s)
 oZ:mg "State"=some (.ref a.t)
 pd:mg "Work"=some (.ref a.u)
 iD:Cls K a.l
 iI:NoAttr K a.l "room"
 iw:NoAttr K a.l "pace"
 nF:FK K a.l "Belt.__init__" vv ["self","room","pace"]
 gR:FB K mg "Knot" "__init__" "Knot.__init__" vo ["self","ins","outs"]
 gW:Cls K a.n
 ie:NoAttr K a.n "pace"
 ib:NoAttr K a.n "kinds"
 kq:NoAttr K a.n "ins"
 iz:NoAttr K a.n "outs"
 oQ:WI K a.n
 mi:FK K a.n "Source.__init__" xR ["self","out","pace","kinds"]
 lf:FM K a.n "choice" "Source.choice" wQ ["self","heads","free","turn","side"]
 lh:FM K a.n "copied" "Source.copied" wP ["self"]
 gY:Cls K a.o
 hJ:NoAttr K a.o "pace"
 ix:NoAttr K a.o "ins"
 kr:NoAttr K a.o "outs"
 o0:WI K a.o
 mQ:FK K a.o "Drain.__init__" wF ["self","into","pace"]
 lQ:FM K a.o "choice" "Drain.choice" vt ["self","heads","free","turn","side"]
 lT:FM K a.o "copied" "Drain.copied" vp ["self"]
 ij:Cls K a.p
 iE:NoAttr K a.p "ins"
 ig:NoAttr K a.p "outs"
 oS:WI K a.p
 mj:FK K a.p "Parter.__init__" xS ["self","into","outs"]
 lj:FM K a.p "choice" "Parter.choice" wS ["self","heads","free","turn","side"]
 lA:FM K a.p "copied" "Parter.copied" wR ["self"]
 gU:Cls K a.q
 ic:NoAttr K a.q "ins"
 hW:NoAttr K a.q "outs"
 mq:WI K a.q
 ku:FK K a.q "FirstParter.__init__" jp ["self","into","outs"]
 iT:FM K a.q "choice" "FirstParter.choice" jR ["self","heads","free","turn","side"]
 iU:FM K a.q "copied" "FirstParter.copied" jQ ["self"]
 gZ:Cls K a.r
 iF:NoAttr K a.r "kind"
 iJ:NoAttr K a.r "ins"
 iG:NoAttr K a.r "outs"
 o6:WI K a.r
 mR:FK K a.r "Sieve.__init__" wD ["self","into","outs","kind"]
 lU:FM K a.r "choice" "Sieve.choice" vn ["self","heads","free","turn","side"]
 kI:FM K a.r "place_for" "Sieve.place_for" xG ["self","kind"]
 lV:FM K a.r "copied" "Sieve.copied" vm ["self"]
 ik:Cls K a.s
 ir:NoAttr K a.s "ins"
 iC:NoAttr K a.s "outs"
 oU:WI K a.s
 mr:FK K a.s "Joiner.__init__" xT ["self","ins","out"]
 lB:FM K a.s "choice" "Joiner.choice" j6 ["self","heads","free","turn","side"]
 lC:FM K a.s "copied" "Joiner.copied" wU ["self"]
 ad:Cls K a.t
 gQ:NoAttr K a.t "turn"
 gL:NoAttr K a.t "cells"
 gX:NoAttr K a.t "sides"
 gS:NoAttr K a.t "gone"
 mS:FK K a.t "State.__init__" jx ["self","turn","cells","sides","gone"]
 gM:Cls K a.u
 hZ:NoAttr K a.u "belts"
 gI:NoAttr K a.u "knots"
 nH:FK K a.u "Work.__init__" jP ["self","belts","knots"]
 mt:FM K a.u "drains" "Work.drains" xQ ["self"]
 lW:FM K a.u "sources" "Work.sources" xp ["self"]
 nJ:FM K a.u "beat" "Work.beat" vj ["self"]
 nL:∃t,mg "MOST_ROOM"=some (.int 6 t)
 iK:∃t,mg "MOST_PACE"=some (.int 4 t)
 mT:∃t,mg "MOST_KINDS"=some (.int 6 t)
 mw:∃t,mg "FEWEST_WAYS"=some (.int 2 t)
 nN:∃t,mg "MOST_WAYS"=some (.int 4 t)
 mU:∃t,mg "MOST_BELTS"=some (.int 24 t)
 mV:∃t,mg "MOST_KNOTS"=some (.int 24 t)
 lE:∃t,mg "MOST_SETTINGS"=some (.int 81 t)
 oC:XC K a.d
 iy:XC K a.e
 oE:XC K a.c
 oF:XC K a.h
 oh:XI K a.h
 l7:XC K a.f
 lF:XC K a.i
 nP:XI K a.i
 oG:XC K a.j
 oi:XI K a.j
 iL:subIn K (.ref a.b) (.type "BaseException")=some true
 g8:kitCls K (.ref a.h) (.ref a.b)=some true
 iV:kitCls K (.ref a.i) (.ref a.b)=some true
 i5:kitCls K (.ref a.j) (.ref a.b)=some true
 oH:subIn K (.ref a.h) (.type "BaseException")=some true
 kJ:kitCls K (.ref a.h) (.ref a.h)=some true
 kS:KOy K a.n a.s false
 lH:KOy K a.o a.s false
 kT:KOy K a.p a.s false
 iN:KOy K a.q a.s false
 lI:KOy K a.r a.s false
 kU:KOy K a.s a.s true
 lJ:KOy K a.n a.o false
 lX:KOy K a.o a.o true
 lK:KOy K a.p a.o false
 iW:KOy K a.q a.o false
 lY:KOy K a.r a.o false
 lM:KOy K a.s a.o false
 kX:KOy K a.n a.n true
 lN:KOy K a.o a.n false
 kY:KOy K a.p a.n false
 iO:KOy K a.q a.n false
 lO:KOy K a.r a.n false
 kZ:KOy K a.s a.n false
 gO:kitAny K (.ref a.h) [.ref a.d,.ref a.e,.ref a.g,.ref a.f,.ref a.k,.ref a.c]=some false
 gN:kitAny K (.ref a.i) [.ref a.d,.ref a.e,.ref a.g,.ref a.f,.ref a.k,.ref a.c]=some false
 gP:kitAny K (.ref a.j) [.ref a.d,.ref a.e,.ref a.g,.ref a.f,.ref a.k,.ref a.c]=some false
 kx:KOy K a.h a.h true
 i6:KOy K a.i a.h false
 ky:KOy K a.j a.h false
 iP:kitOne K (.ref a.h) (.type "ValueError")=some true
 iM:kitOne K (.ref a.i) (.type "ValueError")=some true
 iQ:kitOne K (.ref a.j) (.type "ValueError")=some true
 iX:KOy K a.h a.b true
 iR:KOy K a.i a.b true
 iY:KOy K a.j a.b true
 i7:KOy K a.h a.i false
 iZ:KOy K a.i a.i true
 i8:KOy K a.j a.i false
 kz:KOy K a.h a.j false
 i9:KOy K a.i a.j false
 kA:KOy K a.j a.j true
section
variable{P:Ag}{w:World}{K:A0}{mg:A5}{base:Heap}{a:Ad}{f:Addr}{fd:FuncData}
def at0{α:Type}{x:α}{xs:List α}:atI (x::xs) 0=some x:=by
 have:=zJ (xs:=x::xs) (j:=0) rfl;simpa using this
noncomputable def iv(ns:A7):List V:=ns.map V.int
noncomputable def kf(l1 l2:Addr):List (Str×V):=qr "outs" (.ref l2) (qr "ins" (.ref l1) [])
def ziL{l1 l2:Addr}:(kf l1 l2).lookup ("ins":Str)=some (.ref l1):=by
 unfold kf;rw[qo,ao (by symm),qo,aq rfl]
def zhk{l1 l2:Addr}:(kf l1 l2).lookup ("outs":Str)=some (.ref l2):=by
 unfold kf;rw[qo,aq rfl]
def zcS{l1 l2:Addr}:(kf l1 l2).length<1000:=by
 unfold kf;have:=xL "outs" (V.ref l2) (qr "ins" (.ref l1) []);have:=xL "ins" (V.ref l1) [];simp at *;lia
def zju{l1 l2:Addr}{m:Str}(h1:m≠"ins")(h2:m≠"outs"):(kf l1 l2).lookup m=none:=by
 unfold kf;rw[qo,ao h2,qo,ao h1];rfl
def Own(H H':Hp)(y:Addr):Prop:=∀b o,b≠y->H b=some o->H' b=some o
def Same.own{H H':Hp}{y:Addr}(s:Same H H'):Own H H' y:=λb o _ h=>s b o h
def Own.trans{H1 H2 H3:Hp}{y:Addr}(s:Own H1 H2 y)(t:Own H2 H3 y):Own H1 H3 y:=λb o hb h=>t b o hb (s b o hb h)
def jo{y:Addr}:Own H (upd H y o) y:=λb u hb h=>by rw[pF hb];exact h
def Own.of_new{H H':Hp}{y dx:Addr}{o p:HO}(hy:H y=none)(hd:H dx=none)(s:Own (upd (upd H dx o) y p) H' y):Same H H':=λb u h =>
 s b u (pG h hy) (by rw[pF (pG h hy),pF (pG h hd)];exact h)
def zx{p b:Addr}(h:upd H p o b=none):H b=none:=by
 by_cases e:b=p
 .subst e;rw[pE]at h;cases h
 .rw[pF e]at h;exact h
def J3(K:A0):Sp:=λvs H Q _=>∃(y C dx i o:Addr)(xs ys:Ap),vs=[.ref y,.ref i,.ref o]/\H y=some (.ins C dx [])/\Cls K C/\NoAttr K C "ins"/\NoAttr K C "outs"/\SqL K H i xs/\SqL K H o ys/\i≠y/\o≠y /\
 ∀H' l1 l2,Own H H' y->H' y=some (.ins C dx (kf l1 l2))->H' l1=some (.lst xs)->H' l2=some (.lst ys)->H l1=none->H l2=none->Q .non H'
def zdk{H H':Hp}{y l:Addr}(h:SqL K H l xs)(s:Own H H' y)(hl:l≠y):SqL K H' l xs:=by
 rcases h with h|h
 .refine .inl ?_;rcases h with h|⟨ob,h⟩
  .exact .inl (s _ _ hl h)
  .exact .inr ⟨ob,s _ _ hl h⟩
 .exact .inr h
def zam(T:Txt K mg a)(F:Fun K "__init__" "Knot.__init__" vo f fd):FnOk P w K mg base (CXr P w) 1 f fd ["self","ins","outs"] (J3 K):=by
 refine F.okx V8 ?_ ?_
 .walk_at"i"
 walk_at"k";let⟨y,C,dx,i,o,xs,ys,rfl,hy,hC,hN1,hN2,hi,ho,hiy,hoy,k⟩:=h;walk_at"T";refine⟨_,(zg (jz (pq 0) (jA qY qK (za (pq 1) zb)) rfl)  (zd (jz (pq 0) (jA qY qK (za (pq 2) zb)) rfl))),?_⟩;exists⟨i,xs,rfl,.inl hi,λl1 h1=>?_⟩;left;have y1:y≠l1:=pG hy h1;refine⟨y,C,dx,[],rfl,pH hy h1,hC,hN1,by decide,?_⟩;left;have s1:Own H (upd (upd H l1 (.lst xs)) y (.ins C dx (qr "ins" (.ref l1) []))) y:=(Same.own (zc h1)).trans jo;refine⟨o,ys,rfl,.inl (zdk ho s1 hoy),λl2 h2=>?_⟩;left;have y2:y≠l2:=pG pE h2;have l12:l1≠l2:=λz=>by
  rw[<- z,pF (ba y1),pE]at h2;cases h2
 refine⟨y,C,dx,_,rfl,pH pE h2,hC,hN2,by show 1<1000;decide,?_⟩;refine k _ l1 l2 (s1.trans ((Same.own (zc h2)).trans jo)) pE ?_ ?_ h1 ?_
 .rw[pF (ba y1),pF l12,pF (ba y1),pE]
 .rw[pF (ba y2),pE]
 .rw[pF (ba y2),pF (ba l12)]at h2;exact h2
def gR(T:Txt K mg a):BCal P w K mg base "Knot" "__init__" 1 ["self","ins","outs"] [] (J3 K):=T.gR.cal (zam T)
def za5(K:A0)(a:Ad):Sp:=λvs H Q E=>∃(l:Addr)(xs:Ap),vs=[.ref l]/\SqL K H l xs/\if 2<=xs.length/\xs.length<=4 then Q .non H else E (.ref a.e) none H
def wM(T:Txt K mg a):Cal P w K mg base "check_ways" 1 ["belts"] [] (za5 K a):=T.mz.cal λF=>by
 refine F.okx Ws ?_ ?_
 .walk_at"i"
 walk_at"k";let⟨l,xs,rfl,hl,k⟩:=h;walk_at"T";refine⟨_,(zd (zy (qw (jy jU jU jc (zE zC zB (za (pq 0) zb)) jc))  (zd (qA ⟨rfl,rfl,rfl⟩ rfl (za z9 zb)))  zl)),?_⟩;left;let⟨t1,g1⟩:=T.mw;let⟨t2,g2⟩:=T.nN;have bad:¬(2<=xs.length/\xs.length<=4)->∃C,mg "BadKnot"=some (Value.ref C)/\XC K C/\E (Value.ref C) none H:=λh=>by
  rw[ao h]at k;exact⟨a.e,T.io,T.iy,k⟩
 refine⟨.int 2,_,g1,⟨_,rfl⟩,?_⟩;exists⟨_,.inl ⟨_,hl,rfl⟩,?_⟩;walk_at"r";refine zF (λh1=>?_) (λh1=>bad (by lia));refine⟨.int 4,_,g2,⟨_,rfl⟩,?_⟩;walk_at"r";refine zF (λh2=>?_) (λh2=>bad (by lia));rw[aq (by lia)]at k;exact k
def za7(a:Ad):Sp:=λvs H Q E=>∃p q:Int,vs=[.int p,.int q]/\if q<=p/\p<=4 then Q .non H else E (.ref a.e) none H
def Qr(T:Txt K mg a):Cal P w K mg base "check_pace" 1 ["pace","least"] [] (za7 a):=T.mx.cal λF=>by
 refine F.okx Wu ?_ ?_
 .walk_at"i"
 walk_at"k";let⟨p,q,rfl,k⟩:=h;walk_at"T";refine⟨_,(zd (zy (qw (jy jU jU (pq 1) (pq 0) jc))  (zd (qA ⟨rfl,rfl,rfl⟩ rfl (za z9 zb)))  zl)),?_⟩;left;let⟨t1,g1⟩:=T.iK;have bad:¬(q<=p/\p<=4)->∃C,mg "BadKnot"=some (Value.ref C)/\XC K C/\E (Value.ref C) none H:=λh=>by
  rw[ao h]at k;exact⟨a.e,T.io,T.iy,k⟩
 refine zF (λh1=>?_) (λh1=>bad (by lia));refine⟨.int 4,_,g1,⟨_,rfl⟩,?_⟩;exists zF (λh2=>?_) (λh2=>bad (by lia));rw[aq (by lia)]at k;left;exact k
noncomputable abbrev xj:Int:=1000000000000000000000000000000
def za8(a:Ad):Sp:=λvs H Q E=>∃n:Int,vs=[.int n]/\if 0<=n/\n<xj then Q .non H else E (.ref a.e) none H
def Qs(T:Txt K mg a):Cal P w K mg base "check_kind" 1 ["kind"] [] (za8 a):=T.my.cal λF=>by
 refine F.okx Wv ?_ ?_
 .walk_at"i"
 walk_at"k";let⟨n,rfl,k⟩:=h;walk_at"T";refine⟨_,(zd (zy (qw (jy jU Vj ze (pq 0) zcF))  (zd (qA ⟨rfl,rfl,rfl⟩ rfl (za z9 zb)))  zl)),?_⟩;left;have bad:¬(0<=n/\n<xj)->∃C,mg "BadKnot"=some (Value.ref C)/\XC K C/\E (Value.ref C) none H:=λh=>by
  rw[ao h]at k;exact⟨a.e,iA3 T.io T.iy k⟩
 refine zF (λh1=>?_) (λh1=>bad (by lia));exists zF (λh2=>?_) (λh2=>bad (by unfold xj;lia));rw[aq (by unfold xj;lia)]at k;left;exact k
noncomputable def zaE(bs:Ai)(side:Nat):Nat->Nat->Option Nat
 |0,_=>none
 |n+1,k=>if bs.getD ((side+k)%bs.length) false=true then some ((side+k)%bs.length)else zaE bs side n (k+1)
noncomputable def jK(bs:Ai)(side:Nat):Option Nat:=zaE bs side bs.length 0
noncomputable def Zb:Option Nat->V
 |none=>.non
 |some n=>.int n
theorem zdI{bs:Ai}{side:Nat}(h:0<bs.length):∀{n k p:Nat},zaE bs side n k=some p->p<bs.length
 |0,_,_,e=>by simp[zaE]at e
 |n+1,k,p,e=>by
  unfold zaE at e
  split at e
  .cases e;exact eP _ h
  .exact zdI h e
def wo{bs:Ai}{side p:Nat}(e:jK bs side=some p):p<bs.length:=by
 by_cases h:0<bs.length
 .exact zdI h e
 .unfold jK at e;rw[show bs.length=0 by lia]at e;simp[zaE]at e
def VO(K:A0):Sp:=λvs H Q _=>∃(l:Addr)(bs:Ai)(side:Nat),vs=[.ref l,.int side]/\SqL K H l (bs.map V.bl)/\bs.length<=1000/\Q (Zb (jK bs side)) H
theorem Zp(T:Txt K mg a):Cal P w K mg base "first_place" 1 ["wanted","side"] [] (VO K):=T.l8.cal λF=>by
 refine F.okx Xk ?_ ?_
 .walk_at"i"
 walk_at"k";refine oE3 h λl bs side p7=>oA4 p7 λp8 hl hb k=>?_;clear p7 h;subst p8;walk_at"T";refine⟨_,(zg (z6 qj rfl (xt (za (zE zC zB (za (pq 0) zb)) zb)) (zX 2 Xk.nd)  (zg (zr 3 Xk.nd (zo qD (zo zM (pq 1) (pq 2)) (zE zC zB (za (pq 0) zb))))  (zd (zy (zY (zq (pq 0) (pq 3)) (λ_=>rfl))  (zd (zj (pq 3)))  zl))))  (zd (zj zG))),?_⟩;walk_at"c";exists⟨_,iA4 (.inl ⟨_,hl,rfl⟩) (by lia) (by rw[ae];lia) ?_⟩;refine vK (λi σ H'=>∃v2 v3,σ=[some (.ref l),some (.int side),v2,v3]/\H'=H/\Q (Zb (zaE bs side (bs.length-i) i)) H) (iE2 _ _ (iA3 rfl rfl k)) ?_ ?_
 .intro i σ H' hi p9;refine oE2 p9 λv2 v3 p7=>oA3 p7 λp8 pj k=>?_;clear p7 p9;subst p8 pj;have hi:i<bs.length:=by simpa using hi
  exists⟨_,.inl ⟨_,hl,rfl⟩,?_⟩;walk_at"r";rw[ae];refine And.intro (by lia) ?_;have e:((side:Int)+(0+(i:Int)))%(bs.length:Int)=(((side+i)%bs.length:Nat):Int):=by push_cast;rw[bW]
  rw[e];have hlt:(side+i)%bs.length<bs.length:=eP _ (by lia);refine zu hl (zJ (by rw[ai,af hlt];rfl)) ?_;walk_at"r";have em:bs.length-i=(bs.length-(i+1))+1:=by lia
  rw[em,zaE]at k;have eg:bs.getD ((side+i)%bs.length) false=bs[(side+i)%bs.length]:=by simp[hlt]
  rw[eg]at k;cases hbb:bs[(side+i)%bs.length]with
  |true =>
   rw[hbb,aq rfl]at k;walk_at"r";exact k
  |false =>
   rw[hbb,ao (by decide)]at k;walk_at"r"
   first|exact⟨_,_,rfl,rfl,k⟩|exact⟨_,_,rfl,k⟩|exact k
 .intro σ H' p9;refine oE2 p9 λv2 v3 p7=>oA3 p7 λp8 pj k=>?_;clear p7 p9;subst p8 pj;walk_at"r";simpa[zaE,Zb]using k
def zcn(K:A0):Sp:=λvs H Q _=>∃(v:V)(l:Addr)(bs:Ai)(side:Nat),vs=[v,.ref l,.int side]/\SqL K H l (bs.map V.bl)/\bs.length<=1000/\Q (if v=.non then .non else Zb (jK bs side)) H
def wt(T:Txt K mg a):Cal P w K mg base "place_for_ware" 2 ["head","free","side"] [] (zcn K):=T.kO.cal λF=>by
 refine F.okx ZO ?_ ?_
 .walk_at"i"
 walk_at"k";let⟨v,l,bs,side,rfl,hl,hb,k⟩:=h;walk_at"T";refine⟨_,(zd (zj (xu (zi jq (pq 0) zG (zk _)) zG ‹(pq 1) (za (pq 2) zb)›))),?_⟩;exists zF (λh=>?_) (λh=>?_)
 .rw[aq h]at k;walk_at"r";exact k
 .rw[ao h]at k;walk_at"r";exact⟨_,_,_,Zp T,l,bs,side,rfl,hl,hb,k⟩
def xg(K:A0)(C CB:Addr):Sp:=λvs H Q E=>∃(y dx o:Addr)(into:V)(ys:Ap),vs=[.ref y,into,.ref o]/\H y=some (.ins C dx [])/\SqL K H o ys/\o≠y /\
 if 2<=ys.length/\ys.length<=4 then ∀H' l1 l2,Own H H' y->H' y=some (.ins C dx (kf l1 l2))->H' l1=some (.lst [into])->H' l2=some (.lst ys)->H l1=none->H l2=none->Q .non H' else E (.ref CB) none H
def XG(T:Txt K mg a)(F:Fun K "__init__" "Parter.__init__" xS f fd):FnOk P w K mg base (CXr P w) 2 f fd ["self","into","outs"] (xg K a.p a.e):=by
 refine F.okx Xp ?_ ?_
 .walk_at"i"
 walk_at"k";let⟨y,dx,o,into,ys,rfl,hy,ho,hoy,k⟩:=h;walk_at"T";refine⟨_,(zg (zw ‹(pq 2) zb›)  (zd (zw (vV ⟨rfl,rfl,rfl⟩ hr (za (pq 0) (za (zn (za (pq 1) zb)) (za (pq 2) zb))))))),?_⟩;exists⟨_,_,_,wM T,o,ys,rfl,ho,zF (λhok=>?_) (λhok=>?_)⟩
 .rw[aq hok]at k;exists⟨_,_,_,gR T,λp hp=>⟨y,a.p,dx,p,o,[into],ys,rfl,pH hy hp,T.ij,T.iE,T.ig,SqL.of pE,(zc hp).seq ho,(pG hy hp).symm,hoy,λH' l1 l2 s h1 h2 h3 h4 h5=>?_⟩⟩;exact k H' l1 l2 ((Same.own (zc hp)).trans s) h1 h2 h3 (zx h4) (zx h5)
 .rw[ao hok]at k;exact k
def zbP(T:Txt K mg a):KCal P w K mg base "Parter" a.p 2 ["self","into","outs"] [] (xg K a.p a.e):=T.mj.cal T.oP (XG T)
def Zc(T:Txt K mg a)(F:Fun K "__init__" "FirstParter.__init__" jp f fd):FnOk P w K mg base (CXr P w) 2 f fd ["self","into","outs"] (xg K a.q a.e):=by
 refine F.okx Za ?_ ?_
 .walk_at"i"
 walk_at"k";let⟨y,dx,o,into,ys,rfl,hy,ho,hoy,k⟩:=h;walk_at"T";refine⟨_,(zg (zw ‹(pq 2) zb›)  (zd (zw (vV ⟨rfl,rfl,rfl⟩ hr (za (pq 0) (za (zn (za (pq 1) zb)) (za (pq 2) zb))))))),?_⟩;exists⟨_,_,_,wM T,o,ys,rfl,ho,zF (λhok=>?_) (λhok=>?_)⟩
 .rw[aq hok]at k;exists⟨_,_,_,gR T,λp hp=>⟨y,a.q,dx,p,o,[into],ys,rfl,pH hy hp,T.gU,T.ic,T.hW,SqL.of pE,(zc hp).seq ho,(pG hy hp).symm,hoy,λH' l1 l2 s h1 h2 h3 h4 h5=>?_⟩⟩;exact k H' l1 l2 ((Same.own (zc hp)).trans s) h1 h2 h3 (zx h4) (zx h5)
 .rw[ao hok]at k;exact k
def Zm(T:Txt K mg a):KCal P w K mg base "FirstParter" a.q 2 ["self","into","outs"] [] (xg K a.q a.e):=T.ku.cal T.mh (Zc T)
noncomputable def vf(l1 l2:Addr)(n:Int):List (Str×V):=qr "kind" (.int n) (kf l1 l2)
def zgK{l1 l2:Addr}:(vf l1 l2 n).lookup ("kind":Str)=some (.int n):=by
 unfold vf;rw[qo,aq rfl]
def zjb{l1 l2:Addr}{m:Str}(h1:m≠"ins")(h2:m≠"outs")(h3:m≠"kind"):(vf l1 l2 n).lookup m=none:=by
 unfold vf;rw[qo,ao h3];exact zju h1 h2
def Q2(K:A0)(C CB:Addr):Sp:=λvs H Q E=>∃(y dx o:Addr)(into:V)(ys:Ap)(n:Int),vs=[.ref y,into,.ref o,.int n]/\H y=some (.ins C dx [])/\SqL K H o ys/\o≠y /\
 if ys.length=2/\0<=n/\n<xj then ∀H' l1 l2,Own H H' y->H' y=some (.ins C dx (vf l1 l2 n))->H' l1=some (.lst [into])->H' l2=some (.lst ys)->H l1=none->H l2=none->Q .non H' else E (.ref CB) none H
def WE(T:Txt K mg a)(F:Fun K "__init__" "Sieve.__init__" wD f fd):FnOk P w K mg base (CXr P w) 2 f fd ["self","into","outs","kind"] (Q2 K a.r a.e):=by
 refine F.okx Wx ?_ ?_
 .walk_at"i"
 walk_at"k";refine oE6 h λy dx o into ys n p7=>oA5 p7 λp8 hy ho hoy k=>?_;clear p7 h;subst p8;walk_at"T";refine⟨_,(zg (zy (zi (wl hr.units1) (zE zC zB (za (pq 2) zb)) ze (zk _))  (zd (qA ⟨rfl,rfl,rfl⟩ rfl (za z9 zb)))  zl)  (zg (zw ‹(pq 3) zb›)  (zg (zw (vV ⟨rfl,rfl,rfl⟩ hr (za (pq 0) (za (zn (za (pq 1) zb)) (za (pq 2) zb)))))  (zd (jz (pq 0) (pq 3) rfl))))),?_⟩;exists⟨_,.inl ⟨_,ho,rfl⟩,?_⟩;exists zF (λh1=>?_) (λh1=>?_)
 .rw[ao (by lia)]at k;exact⟨a.e,iA3 T.io T.iy k⟩
 .refine iE3 _ _ _ ⟨Qs T,⟨n,rfl,zF (λhok=>?_) (λhok=>?_)⟩⟩
  .rw[aq ⟨by lia,hok⟩]at k;exists iE3 _ _ _ ⟨gR T,λp hp=>(iE7 y a.r dx p o ([into]) ys (iA6 rfl (pH hy hp) T.gZ T.iJ T.iG (iA5 (SqL.of pE) ((zc hp).seq ho) ((pG hy hp).symm) hoy (λH' l1 l2 s h1 h2 h3 h4 h5=>?_))))⟩;exists iE4 y a.r dx _ (iA6 rfl h1 T.gZ T.iF zcS ?_);exact k _ l1 l2 (((Same.own (zc hp)).trans s).trans jo) pE (by rw[pF (Je h2 h1 (by intro z;cases z))];exact h2) (by rw[pF (Je h3 h1 (by intro z;cases z))];exact h3) (zx h4) (zx h5)
  .rw[ao (λz=>hok z.2)]at k;exact k
def zdC(T:Txt K mg a):KCal P w K mg base "Sieve" a.r 2 ["self","into","outs","kind"] [] (Q2 K a.r a.e):=T.mR.cal T.oY (WE T)
def ZL(K:A0)(C CB:Addr):Sp:=λvs H Q E=>∃(y dx o:Addr)(out:V)(ys:Ap),vs=[.ref y,.ref o,out]/\H y=some (.ins C dx [])/\SqL K H o ys/\o≠y /\
 if 2<=ys.length/\ys.length<=4 then ∀H' l1 l2,Own H H' y->H' y=some (.ins C dx (kf l1 l2))->H' l1=some (.lst ys)->H' l2=some (.lst [out])->H l1=none->H l2=none->Q .non H' else E (.ref CB) none H
def XH(T:Txt K mg a)(F:Fun K "__init__" "Joiner.__init__" xT f fd):FnOk P w K mg base (CXr P w) 2 f fd ["self","ins","out"] (ZL K a.s a.e):=by
 refine F.okx Xq ?_ ?_
 .walk_at"i"
 walk_at"k";let⟨y,dx,o,out,ys,rfl,hy,ho,hoy,k⟩:=h;walk_at"T";refine⟨_,(zg (zw ‹(pq 1) zb›)  (zd (zw (vV ⟨rfl,rfl,rfl⟩ hr (za (pq 0) (za (pq 1) (za (zn (za (pq 2) zb)) zb))))))),?_⟩;exists⟨_,_,_,wM T,o,ys,rfl,ho,zF (λhok=>?_) (λhok=>?_)⟩
 .rw[aq hok]at k;exists⟨_,_,_,gR T,λp hp=>⟨y,a.s,dx,o,p,ys,[out],rfl,pH hy hp,T.ik,T.ir,T.iC,(zc hp).seq ho,SqL.of pE,hoy,(pG hy hp).symm,λH' l1 l2 s h1 h2 h3 h4 h5=>?_⟩⟩;exact k H' l1 l2 ((Same.own (zc hp)).trans s) h1 h2 h3 (zx h4) (zx h5)
 .rw[ao hok]at k;exact k
def zbQ(T:Txt K mg a):KCal P w K mg base "Joiner" a.s 2 ["self","ins","out"] [] (ZL K a.s a.e):=T.mr.cal T.mP (XH T)
noncomputable def df(l1 l2:Addr)(p:Int):List (Str×V):=qr "pace" (.int p) (kf l1 l2)
def zaF{l1 l2:Addr}{p:Int}:(df l1 l2 p).lookup ("pace":Str)=some (.int p):=by
 unfold df;rw[qo,aq rfl]
theorem Z6(f:Str)(v:V):∀fs:List (Str×V),(qr f v fs).length<=fs.length+1
 |[]=>by simp[qr]
 |(g,x)::r=>by
  unfold qr
  split
  .simp
  .have:=Z6 f v r;simp;lia
def zhl{l1 l2:Addr}:(kf l1 l2).length<=2:=by
 unfold kf;have h1:=Z6 "outs" (V.ref l2) (qr "ins" (.ref l1) []);have h2:=Z6 "ins" (V.ref l1) [];simp only[dN]at h2
 lia
def ziY{l1 l2:Addr}{p:Int}:(df l1 l2 p).length<1000:=by
 unfold df;have h1:=Z6 "pace" (V.int p) (kf l1 l2);have h2:=zhl (l1:=l1) (l2:=l2)
 lia
def Q3(C CB:Addr):Sp:=λvs H Q E=>∃(y dx:Addr)(into:V)(p:Int),vs=[.ref y,into,.int p]/\H y=some (.ins C dx []) /\
 if 0<=p/\p<=4 then ∀H' l1 l2,Own H H' y->H' y=some (.ins C dx (df l1 l2 p))->H' l1=some (.lst [into])->H' l2=some (.lst [])->H l1=none->H l2=none->Q .non H' else E (.ref CB) none H
def WF(T:Txt K mg a)(F:Fun K "__init__" "Drain.__init__" wF f fd):FnOk P w K mg base (CXr P w) 2 f fd ["self","into","pace"] (Q3 a.o a.e):=by
 refine F.okx WC ?_ ?_
 .walk_at"i"
 walk_at"k";let⟨y,dx,into,p,rfl,hy,k⟩:=h;walk_at"T";refine⟨_,(zg (zw ‹(pq 2) (za ze zb)›)  (zg (zw (vV ⟨rfl,rfl,rfl⟩ hr (za (pq 0) (za (zn (za (pq 1) zb)) (za (zn zb) zb)))))  (zd (jz (pq 0) (pq 2) rfl)))),?_⟩;exists⟨_,_,_,Qr T,p,0,rfl,zF (λhok=>?_) (λhok=>?_)⟩
 .rw[aq hok]at k;exists⟨_,_,_,gR T,λq1 hq1 q2 hq2=>?_⟩;have n12:q1≠q2:=pG pE hq2;have hy2:=pH (o:=.lst []) (pH (o:=.lst [into]) hy hq1) hq2;refine⟨y,a.o,dx,q1,q2,[into],[],rfl,hy2,T.gY,T.ix,T.kr,SqL.of (pH pE hq2),SqL.of pE,(pG hy hq1).symm,(pG (pH hy hq1) hq2).symm,λH' l1 l2 s h1 h2 h3 h4 h5=>?_⟩;exists⟨y,a.o,dx,_,rfl,h1,T.gY,T.hJ,zcS,?_⟩;exact k _ l1 l2 (((Same.own ((zc hq1).trans (zc hq2))).trans s).trans jo) pE (by rw[pF (Je h2 h1 (by intro z;cases z))];exact h2) (by rw[pF (Je h3 h1 (by intro z;cases z))];exact h3) (zx (zx h4)) (zx (zx h5))
 .rw[ao hok]at k;exact k
def zaw(T:Txt K mg a):KCal P w K mg base "Drain" a.o 2 ["self","into","pace"] [] (Q3 a.o a.e):=T.mQ.cal T.nU (WF T)
noncomputable def sf(l1 l2:Addr)(p:Int)(l3:Addr):List (Str×V):=qr "kinds" (.ref l3) (df l1 l2 p)
def zgW{l1 l2 l3:Addr}{p:Int}:(sf l1 l2 p l3).lookup ("pace":Str)=some (.int p):=by
 unfold sf;rw[qo,ao (by symm)];exact zaF
def ww(ks:A7):Prop:=∀n∈ks,0<=n/\n<xj
def ZK(K:A0)(C CB:Addr):Sp:=λvs H Q E=>∃(y dx l:Addr)(out:V)(p:Int)(ks:A7),vs=[.ref y,out,.int p,.ref l]/\H y=some (.ins C dx [])/\SqL K H l (ks.map V.int)/\l≠y /\
 ((1<=p/\p<=4/\1<=ks.length/\ks.length<=6/\ww ks->∀H' l1 l2 l3,Own H H' y->H' y=some (.ins C dx (sf l1 l2 p l3))->H' l1=some (.lst [])->H' l2=some (.lst [out])->H' l3=some (.lst (ks.map V.int))->H l1=none->H l2=none->H l3=none->Q .non H') /\
   (¬(1<=p/\p<=4/\1<=ks.length/\ks.length<=6/\ww ks)->E (.ref CB) none H))
def XF(T:Txt K mg a)(F:Fun K "__init__" "Source.__init__" xR f fd):FnOk P w K mg base (CXr P w) 2 f fd ["self","out","pace","kinds"] (ZK K a.n a.e):=by
 refine F.okx Xo ?_ ?_
 .walk_at"i"
 walk_at"k";refine oE6 h λy dx l out p ks p7=>oA6 p7 λp8 hy hl hly kok kbad=>?_;clear p7 h;subst p8;let⟨t1,g1⟩:=T.mT;walk_at"T";refine⟨_,(zg (zw ‹(pq 2) (za ze zb)›)  (zg (zy (qw (jy jU jU ze (zE zC zB (za (pq 3) zb)) jc))  (zd (qA ⟨rfl,rfl,rfl⟩ rfl (za z9 zb)))  zl)  (zg (z6 qj rfl (zN (pq 3)) (zX 4 Xo.nd)  (zd (zw ‹(pq 4) zb›)))  (zg (zw (vV ⟨rfl,rfl,rfl⟩ hr (za (pq 0) (za (zn zb) (za (zn (za (pq 1) zb)) zb)))))  (zg (jz (pq 0) (pq 2) rfl)  (zd (jz (pq 0) (jA qY qK (za (pq 3) zb)) rfl))))))),?_⟩;exists iE3 _ _ _ ⟨Qr T,⟨p,1,rfl,zF (λhp=>?_) (λhp=>kbad λz=>hp ⟨z.1,z.2.1⟩)⟩⟩;exists⟨_,.inl ⟨_,hl,rfl⟩,?_⟩;rw[ae];left;have bad:¬(1<=ks.length/\ks.length<=6)->∃C,mg "BadKnot"=some (Value.ref C)/\XC K C/\E (Value.ref C) none H:=λh=>⟨a.e,T.io,T.iy,kbad λz=>h ⟨z.2.2.1,z.2.2.2.1⟩⟩;refine zF (λh1=>?_) (λh1=>bad (by lia));refine iE2 (.int 6) _ (iA3 g1 ⟨_,rfl⟩ ?_);exists zF (λh2=>?_) (λh2=>bad (by lia));walk_at"c";refine⟨l,rfl,.inl ⟨⟨_,hl⟩,?_⟩⟩;refine qb (K:=K) (a:=l) (xs:=ks.map V.int) (λi σ H'=>∃v4,σ=[some (.ref y),some out,some (.int p),some (.ref l),v4]/\H'=H/\ww (ks.take i)) ⟨_,iA3 rfl rfl (λ_ h=>nomatch h)⟩ (λi σ H' _ ⟨_,_,e,_⟩=>e ▸ hl) ?_ ?_
 .intro i x σ H' hi p9;refine oE1 p9 λv4 p7=>oA3 p7 λp8 pj hk=>?_;clear p7 p9;subst p8 pj;rw[ai,am]at hi;let⟨n,hn,rfl⟩:=hi;exists iE3 _ _ _ ⟨Qs T,⟨n,rfl,zF (λhok=>?_) (λhok=>kbad λz=>hok (z.2.2.2.2 n (ah hn)))⟩⟩;left;have:ww (ks.take (i+1)):=λm hm=>by
   rw[gw,hn]at hm;rcases ax.mp hm with z|z
   .exact hk m z
   .have e:m=n:=by simpa using z
    rw[e];exact hok
  first|exact⟨_,rfl,rfl,this⟩|exact⟨_,rfl,this⟩
 .intro σ H' p9;refine oE1 p9 λv4 p7=>oA3 p7 λp8 pj hk=>?_;clear p7 p9;subst p8 pj;rw[ae,aG]at hk;have kok:=kok ⟨hp.1,hp.2,by lia,by lia,hk⟩;exists iE3 _ _ _ ⟨gR T,λq1 hq1 q2 hq2=>?_⟩;have hy2:=pH (o:=.lst [out]) (pH (o:=.lst []) hy hq1) hq2;have s12:Same H' (upd (upd H' q1 (.lst [])) q2 (.lst [out])):=(zc hq1).trans (zc hq2);refine iE7 y a.n dx q1 q2 ([]) ([out]) (iA6 rfl hy2 T.gW T.kq T.iz (iA5 (SqL.of (pH pE hq2)) (SqL.of pE) ((pG hy hq1).symm) ((pG (pH hy hq1) hq2).symm) (λH2 l1 l2 s h1 h2 h3 h4 h5=>?_)));exists iE4 y a.n dx _ (iA6 rfl h1 T.gW T.ie zcS ?_);left;have s3:Own H' (upd H2 y (.ins a.n dx (df l1 l2 p))) y:=((Same.own s12).trans s).trans jo;have h2':upd H2 y (.ins a.n dx (df l1 l2 p)) l1=some (.lst []):=by rw[pF (Je h2 h1 (by intro z;cases z))];exact h2
  have h3':upd H2 y (.ins a.n dx (df l1 l2 p)) l2=some (.lst [out]):=by rw[pF (Je h3 h1 (by intro z;cases z))];exact h3
  refine iE2 l _ (iA3 rfl (.inl (zdk hl s3 hly)) (λl3 hl3=>?_));left;have hy3:upd (upd H2 y (.ins a.n dx (df l1 l2 p))) l3 (.lst (ks.map V.int)) y=some (.ins a.n dx (df l1 l2 p)):=pH pE hl3;refine iE4 y a.n dx _ (iA6 rfl hy3 T.gW T.ib ziY ?_);have n1:l1≠y:=Je h2 h1 (by intro z;cases z);have n2:l2≠y:=Je h3 h1 (by intro z;cases z);have n3:l3≠y:=(pG (pE (H:=H2)) hl3).symm;refine kok _ l1 l2 l3 ((s3.trans (Same.own (zc hl3))).trans jo) pE ?_ ?_ ?_ (zx (zx h4)) (zx (zx h5)) ?_
  .rw[pF n1];exact pH h2' hl3
  .rw[pF n2];exact pH h3' hl3
  .rw[pF n3];exact pE
  .cases e:H' l3 with
   |none=>rfl
   |some o=>exact absurd (hl3.symm.trans (s3 l3 o n3 e)) (by intro z;cases z)
def zbO(T:Txt K mg a):KCal P w K mg base "Source" a.n 2 ["self","out","pace","kinds"] [] (ZK K a.n a.e):=T.mi.cal T.mO (XF T)
noncomputable def bf(rm pc:Int):List (Str×V):=qr "pace" (.int pc) (qr "room" (.int rm) [])
abbrev zH(rm pc:Int):Prop:=1<=rm/\rm<=6/\1<=pc/\pc<=4
def Xb(C CB:Addr):Sp:=λvs H Q E=>∃(y dx:Addr)(rm pc:Int),vs=[.ref y,.int rm,.int pc]/\H y=some (.ins C dx [])/\if zH rm pc then Q .non (upd H y (.ins C dx (bf rm pc)))else E (.ref CB) none H
def zan(T:Txt K mg a)(F:Fun K "__init__" "Belt.__init__" vv f fd):FnOk P w K mg base (CXr P w) 1 f fd ["self","room","pace"] (Xb a.l a.d):=by
 refine F.okx V9 ?_ ?_
 .walk_at"i"
 walk_at"k";refine oE4 h λy dx rm pc p7=>oA3 p7 λp8 hy k=>?_;clear p7 h;subst p8;let⟨t1,g1⟩:=T.nL;let⟨t2,g2⟩:=T.iK;walk_at"T";refine⟨_,(zg (zy (qw (jy jU jU ze (pq 1) jc))  (zd (qA ⟨rfl,rfl,rfl⟩ rfl (za z9 zb)))  zl)  (zg (zy (qw (jy jU jU ze (pq 2) jc))  (zd (qA ⟨rfl,rfl,rfl⟩ rfl (za z9 zb)))  zl)  (zg (jz (pq 0) (pq 1) rfl)  (zd (jz (pq 0) (pq 2) rfl))))),?_⟩;left;have bad:¬zH rm pc->∃C,mg "BadBelt"=some (Value.ref C)/\XC K C/\E (Value.ref C) none H:=λh=>by
  rw[ao h]at k;exact⟨a.d,iA3 T.lZ T.oC k⟩
 refine zF (λh1=>?_) (λh1=>bad (by unfold zH;lia));refine iE2 (.int 6) _ (iA3 g1 ⟨_,rfl⟩ ?_);exists zF (λh2=>?_) (λh2=>bad (by unfold zH;lia));exists zF (λh3=>?_) (λh3=>bad (by unfold zH;lia));refine iE2 (.int 4) _ (iA3 g2 ⟨_,rfl⟩ ?_);exists zF (λh4=>?_) (λh4=>bad (by unfold zH;lia));rw[aq (by unfold zH;lia)]at k;exists iE4 y a.l dx ([]) (iA6 rfl hy T.iD T.iI (by decide) ?_);exists iE4 y a.l dx _ (iA6 rfl pE T.iD T.iw (by show 1<1000;decide) ?_);rw[ZH];exact k
def zf9(T:Txt K mg a):KCal P w K mg base "Belt" a.l 1 ["self","room","pace"] [] (Xb a.l a.d):=T.nF.cal T.o8 (zan T)
def qf{y dx b C:Addr}{u:HO}(hy:H y=none)(hdx:H dx=none)(h:H b=some u):upd (upd H dx (.own y)) y (.ins C dx []) b=some u:=by
 rw[pF (pG h hy),pF (pG h hdx)];exact h
def zL{y dx b:Addr}{o p:HO}(h:upd (upd H dx o) y p b=none):H b=none:=zx (zx h)
def zK{H H':Hp}(s:Same H H')(h:H' b=none):H b=none:=by
 cases e:H b with
 |none=>rfl
 |some o=>rw[s b o e]at h;cases h
inductive Wd|source|drain|parter|first|sieve|joiner
deriving DecidableEq
noncomputable def wK(a:Ad):Wd->Addr
 | .source=>a.n
 | .drain=>a.o
 | .parter=>a.p
 | .first=>a.q
 | .sieve=>a.r
 | .joiner=>a.s
structure Row where
 wd:Wd
 ins:List Int
 outs:List Int
 pace:Int
 kinds:List Int
abbrev At:=List Row
def Row.ok(r:Row):Prop:=match r.wd with
 | .source=>r.ins=[]/\(∃o,r.outs=[o])/\1<=r.pace/\r.pace<=4/\1<=r.kinds.length/\r.kinds.length<=6/\ww r.kinds
 | .drain=>(∃i,r.ins=[i])/\r.outs=[]/\0<=r.pace/\r.pace<=4
 | .parter=>(∃i,r.ins=[i])/\2<=r.outs.length/\r.outs.length<=4
 | .first=>(∃i,r.ins=[i])/\2<=r.outs.length/\r.outs.length<=4
 | .sieve=>(∃i,r.ins=[i])/\r.outs.length=2/\∃k,r.kinds=[k]/\0<=k/\k<xj
 | .joiner=>(∃o,r.outs=[o])/\2<=r.ins.length/\r.ins.length<=4
noncomputable def zbC(r:Row):List (Str×D):=match r.wd with
 | .source=>[("pace",.int r.pace),("kinds",.ints r.kinds)]
 | .drain=>[("pace",.int r.pace)]
 | .sieve=>[("kind",.int (r.kinds.headD 0))]
 |_=>[]
noncomputable def XX(r:Row):List (Str×D):=("ins",.ints r.ins)::("outs",.ints r.outs)::zbC r
noncomputable def Ji(a:Ad)(r:Row):D:=.ob (wK a r.wd) (XX r)
noncomputable def Jj(a:Ad)(b:Int×Int):D:=.ob a.l [("room",.int b.1),("pace",.int b.2)]
def jd{α:Type}{f:Str}{x:α}{r:List (Str×α)}:((f,x)::r).lookup f=some x:=by simp[List.lookup]
def zW{α:Type}{f g:Str}{x:α}{r:List (Str×α)}(h:f≠g):((g,x)::r).lookup f=r.lookup f:=by
 have hb:(f == g)=false:=bj.mpr h;simp[List.lookup,hb]
def zhj(r:Row):(XX r).lookup ("ins":Str)=some (.ints r.ins):=jd
def zf3(r:Row):(XX r).lookup ("outs":Str)=some (.ints r.outs):=(zW (by symm)).trans jd
def zf2{r:Row}(h:r.wd=.source\/r.wd=.drain):(XX r).lookup ("pace":Str)=some (.int r.pace):=by
 refine(zW (by symm)).trans ((zW (by symm)).trans ?_);unfold zbC;rcases h with h|h<;>(rw[h];exact jd)
def zeC{r:Row}(h:r.wd=.source):(XX r).lookup ("kinds":Str)=some (.ints r.kinds):=by
 refine(zW (by symm)).trans ((zW (by symm)).trans ?_);unfold zbC;rw[h];exact(zW (by symm)).trans jd
def zf5{r:Row}{k:Int}(h:r.wd=.sieve)(e:r.kinds=[k]):(XX r).lookup ("kind":Str)=some (.int k):=by
 refine(zW (by symm)).trans ((zW (by symm)).trans ?_);unfold zbC;rw[h,e];exact jd
def zf4{r:Row}{f:Str}(h1:f≠"ins")(h2:f≠"outs")(h3:f≠"pace")(h4:f≠"kinds")(h5:f≠"kind"):(XX r).lookup f=none:=by
 refine(zW h1).trans ((zW h2).trans ?_);unfold zbC
 split
 .exact(zW h3).trans (zW h4)
 .exact zW h3
 .exact zW h5
 .rfl
def KnP(a:Ad)(H:Hp)(p:A6)(v:V)(r:Row):Prop:=Rep H p v (Ji a r)
def KnP.keep{H H':Hp}{p q:A6}{r:Row}(h:KnP a H p v r)(s:∀b o,p b->H b=some o->q b/\H' b=some o):KnP a H' q v r:=Rep.keep s h
def KnP.inv{r:Row}(h:KnP a H p v r):∃y dx l1 l2 l3 fs,v=.ref y/\p y/\p l1/\p l2/\(r.wd=.source->p l3)/\H y=some (.ins (wK a r.wd) dx fs)/\fs.lookup ("ins":Str)=some (.ref l1)/\fs.lookup ("outs":Str)=some (.ref l2) /\
  fs.lookup ("copied":Str)=none/\H l1=some (.lst (iv r.ins))/\H l2=some (.lst (iv r.outs))/\(r.wd=.source->fs.lookup ("kinds":Str)=some (.ref l3)/\H l3=some (.lst (iv r.kinds)))/\((r.wd=.source\/r.wd=.drain)->fs.lookup ("pace":Str)=some (.int r.pace)):=by
 let⟨y,dx,fs,rfl,py,hy,g1,g2⟩:=Rep.ob' h;let⟨u1,e1,r1⟩:=g1 _ _ (zhj r);let⟨l1,rfl,p1,h1⟩:=r1.ints';let⟨u2,e2,r2⟩:=g1 _ _ (zf3 r);let⟨l2,rfl,p2,h2⟩:=r2.ints';have e3:=g2 ("copied":Str) (zf4 (by symm) (by symm) (by symm) (by symm) (by symm));have pc:(r.wd=.source\/r.wd=.drain)->fs.lookup ("pace":Str)=some (.int r.pace):=λz=>by
  let⟨u,e,ru⟩:=g1 _ _ (zf2 z);cases ru;exact e
 by_cases hs:r.wd=.source
 .obtain⟨u3,e4,r3⟩:=g1 _ _ (zeC hs);let⟨l3,rfl,p3,h3⟩:=r3.ints';exact⟨y,dx,l1,l2,l3,fs,rfl,py,p1,p2,λ_=>p3,hy,e1,e2,e3,h1,h2,λ_=>⟨e4,h3⟩,pc⟩
 .exact⟨y,dx,l1,l2,l1,fs,rfl,py,p1,p2,λz=>absurd z hs,hy,e1,e2,e3,h1,h2,λz=>absurd z hs,pc⟩
def XZ{l1 l2:Addr}:kf l1 l2=([(("ins":Str),V.ref l1),(("outs":Str),V.ref l2)]:Ar):=by
 unfold kf;simp only[qr];rw[ao (by symm)]
def zgr{l1 l2:Addr}:df l1 l2 n=([(("ins":Str),V.ref l1),(("outs":Str),V.ref l2),(("pace":Str),V.int n)]:Ar):=by
 unfold df;rw[XZ];simp only[qr];rw[ao (by symm),ao (by symm)]
def zhS{l1 l2 l3:Addr}:sf l1 l2 n l3=([(("ins":Str),V.ref l1),(("outs":Str),V.ref l2),(("pace":Str),V.int n),(("kinds":Str),V.ref l3)]:Ar):=by
 unfold sf;rw[zgr];simp only[qr];rw[ao (by symm),ao (by symm),ao (by symm)]
def zhM{l1 l2:Addr}:vf l1 l2 n=([(("ins":Str),V.ref l1),(("outs":Str),V.ref l2),(("kind":Str),V.int n)]:Ar):=by
 unfold vf;rw[XZ];simp only[qr];rw[ao (by symm),ao (by symm)]
def xU{l C dx:Addr}{gs:List (Str×D)}(pl:p l)(e:H l=some (.ins C dx fs))(n:fs.map (·.1)=gs.map (·.1))(r:Reps H p (fs.map (·.2)) (gs.map (·.2))):Rep H p (.ref l) (.ob C gs) :=
 .ob pl e n λi f g hf hg=>r.g i f.2 g.2 (by rw[ai,hf];rfl) (by rw[ai,hg];rfl)
section
variable{H:Hp}{p:A6}{z dz m1 m2 m3:Addr}{ins outs kinds:A7}{pace:Int}
def Vo(q0:p z)(q1:p m1)(q2:p m2)(q3:p m3)(h0:H z=some (.ins a.n dz (sf m1 m2 pace m3)))(h1:H m1=some (.lst (iv ins)))(h2:H m2=some (.lst (iv outs)))(h3:H m3=some (.lst (iv kinds))):KnP a H p (.ref z) ⟨.source,ins,outs,pace,kinds⟩:=by
 rw[zhS]at h0;exact xU q0 h0 rfl (.cons (qe q1 h1) (.cons (qe q2 h2) (.cons .int (.cons (qe q3 h3) .nil))))
def XY(q0:p z)(q1:p m1)(q2:p m2)(h0:H z=some (.ins a.o dz (df m1 m2 pace)))(h1:H m1=some (.lst (iv ins)))(h2:H m2=some (.lst (iv outs))):KnP a H p (.ref z) ⟨.drain,ins,outs,pace,kinds⟩:=by
 rw[zgr]at h0;exact xU q0 h0 rfl (.cons (qe q1 h1) (.cons (qe q2 h2) (.cons .int .nil)))
def zbK{k:Int}(q0:p z)(q1:p m1)(q2:p m2)(h0:H z=some (.ins a.r dz (vf m1 m2 k)))(h1:H m1=some (.lst (iv ins)))(h2:H m2=some (.lst (iv outs))):KnP a H p (.ref z) ⟨.sieve,ins,outs,pace,[k]⟩:=by
 rw[zhM]at h0;exact xU q0 h0 rfl (.cons (qe q1 h1) (.cons (qe q2 h2) (.cons .int .nil)))
def Vp(q0:p z)(q1:p m1)(q2:p m2)(h0:H z=some (.ins a.p dz (kf m1 m2)))(h1:H m1=some (.lst (iv ins)))(h2:H m2=some (.lst (iv outs))):KnP a H p (.ref z) ⟨.parter,ins,outs,pace,kinds⟩:=by
 rw[XZ]at h0;exact xU q0 h0 rfl (.cons (qe q1 h1) (.cons (qe q2 h2) .nil))
def zbL(q0:p z)(q1:p m1)(q2:p m2)(h0:H z=some (.ins a.q dz (kf m1 m2)))(h1:H m1=some (.lst (iv ins)))(h2:H m2=some (.lst (iv outs))):KnP a H p (.ref z) ⟨.first,ins,outs,pace,kinds⟩:=by
 rw[XZ]at h0;exact xU q0 h0 rfl (.cons (qe q1 h1) (.cons (qe q2 h2) .nil))
def Vq(q0:p z)(q1:p m1)(q2:p m2)(h0:H z=some (.ins a.s dz (kf m1 m2)))(h1:H m1=some (.lst (iv ins)))(h2:H m2=some (.lst (iv outs))):KnP a H p (.ref z) ⟨.joiner,ins,outs,pace,kinds⟩:=by
 rw[XZ]at h0;exact xU q0 h0 rfl (.cons (qe q1 h1) (.cons (qe q2 h2) .nil))
end
def BtP(a:Ad)(H:Hp)(p:A6)(v:V)(r:Int×Int):Prop:=Rep H p v (Jj a r)
def BtP.keep{H H':Hp}{p q:A6}{r:Int×Int}(h:BtP a H p v r)(s:∀b o,p b->H b=some o->q b/\H' b=some o):BtP a H' q v r:=Rep.keep s h
def zjB{rm pc:Int}:bf rm pc=([(("room":Str),V.int rm),(("pace":Str),V.int pc)]:Ar):=by
 unfold bf;simp only[qr];rw[ao (by symm)]
def zh4{y dx:Addr}{rm pc:Int}(q0:p y)(h0:H y=some (.ins a.l dx (bf rm pc))):BtP a H p (.ref y) (rm,pc):=by
 rw[zjB]at h0;exact xU q0 h0 rfl (.cons .int (.cons .int .nil))
def BtP.inv{r:Int×Int}(h:BtP a H p v r):∃y dx fs,v=.ref y/\p y/\H y=some (.ins a.l dx fs)/\fs.lookup ("room":Str)=some (.int r.1)/\fs.lookup ("pace":Str)=some (.int r.2):=by
 let⟨y,dx,fs,rfl,py,hy,g1,g2⟩:=Rep.ob' h;let⟨u1,e1,r1⟩:=g1 ("room":Str) _ jd;let⟨u2,e2,r2⟩:=g1 ("pace":Str) _ ((zW (by symm)).trans jd);cases r1;cases r2;exact⟨y,dx,fs,rfl,py,hy,e1,e2⟩
structure Kns(a:Ad)(H:Hp)(p:A6)(vs:Ap)(rs:At):Prop where
 len:vs.length=rs.length
 g:∀(i:Nat) v r,vs[i]?=some v->rs[i]?=some r->KnP a H p v r
def Kns.keep{H H':Hp}{p q:A6}{rs:At}(h:Kns a H p vs rs)(s:∀b o,p b->H b=some o->q b/\H' b=some o):Kns a H' q vs rs:=⟨h.len,λi v r e1 e2=>(h.g i v r e1 e2).keep s⟩
def Kns.nil:Kns a H p [] []:=⟨rfl,λi v r h=>by simp at h⟩
def Kns.append{vs us:Ap}{rs qs:At}(h:Kns a H p vs rs)(k:Kns a H p us qs):Kns a H p (vs++us) (rs++qs):=by
 refine⟨by rw[av,av,h.len,k.len],λi v r e1 e2=>?_⟩;by_cases hi:i<vs.length
 .rw[aS hi]at e1;rw[aS (by rw[<- h.len];exact hi)]at e2;exact h.g i v r e1 e2
 .rw[aM (by lia)]at e1;rw[aM (by rw[<- h.len];lia),<- h.len]at e2;exact k.g _ v r e1 e2
def Kns.one{r:Row}(h:KnP a H p v r):Kns a H p [v] [r] :=
 ⟨rfl,λi u q e1 e2=>by
  have hi:=(aa.mp e1).1;have:i=0:=by simp at hi;lia
  subst this;have e1:v=u:=by simpa using e1
  have e2:r=q:=by simpa using e2
  rw[<- e1,<- e2];exact h⟩
def Kns.at{rs:At}(h:Kns a H p vs rs)(e:vs[i]?=some v):∃r,rs[i]?=some r/\KnP a H p v r:=by
 have hi:=(aa.mp e).1;have e2:rs[i]?=some (rs[i]'(by rw[<- h.len];exact hi)):=af _;exact⟨_,e2,h.g i v _ e e2⟩
structure Bts(a:Ad)(H:Hp)(p:A6)(vs:Ap)(rs:A1):Prop where
 len:vs.length=rs.length
 g:∀(i:Nat) v r,vs[i]?=some v->rs[i]?=some r->BtP a H p v r
def Bts.keep{H H':Hp}{p q:A6}{rs:A1}(h:Bts a H p vs rs)(s:∀b o,p b->H b=some o->q b/\H' b=some o):Bts a H' q vs rs:=⟨h.len,λi v r e1 e2=>(h.g i v r e1 e2).keep s⟩
def Bts.nil:Bts a H p [] []:=⟨rfl,λi v r h=>by simp at h⟩
def Bts.push{rs:A1}{r:Int×Int}(h:Bts a H p vs rs)(k:BtP a H p v r):Bts a H p (vs++[v]) (rs++[r]):=by
 refine⟨by rw[av,av,h.len];rfl,λi u q e1 e2=>?_⟩;by_cases hi:i<vs.length
 .rw[aS hi]at e1;rw[aS (by rw[<- h.len];exact hi)]at e2;exact h.g i u q e1 e2
 .rw[aM (by lia)]at e1;rw[aM (by rw[<- h.len];lia),<- h.len]at e2;have hj:=(aa.mp e1).1;have:i-vs.length=0:=by simp at hj;lia
  rw[this]at e1 e2;have e1:v=u:=by simpa using e1
  have e2:r=q:=by simpa using e2
  rw[<- e1,<- e2];exact k
def Bts.at{rs:A1}(h:Bts a H p vs rs)(e:vs[i]?=some v):∃r,rs[i]?=some r/\BtP a H p v r:=by
 have hi:=(aa.mp e).1;have e2:rs[i]?=some (rs[i]'(by rw[<- h.len];exact hi)):=af _;exact⟨_,e2,h.g i v _ e e2⟩
abbrev New(H:Hp):Addr->Prop:=λb=>H b=none
def xn(a:Ad)(wd:Wd):Sp:=λvs H Q _=>∃(y:Addr)(r:Row)(p:A6),vs=[.ref y]/\KnP a H p (.ref y) r/\r.wd=wd/\r.ok/\∀v H',Same H H'->KnP a H' (New H) v r->Q v H'
def Kns.reps{rs:At}(h:Kns a H p vs rs):Reps H p vs (rs.map (Ji a)):=⟨by rw[h.len,ae],λi v d e1 e2=>by
 rw[ai,am]at e2;let⟨r,e2,rfl⟩:=e2;exact h.g i v r e1 e2⟩
def Bts.reps{rs:A1}(h:Bts a H p vs rs):Reps H p vs (rs.map (Jj a)):=⟨by rw[h.len,ae],λi v d e1 e2=>by
 rw[ai,am]at e2;let⟨r,e2,rfl⟩:=e2;exact h.g i v r e1 e2⟩
def Kns.of{rs:At}(h:Reps H p vs (rs.map (Ji a))):Kns a H p vs rs:=⟨by rw[h.len,ae],λi v r e1 e2=>h.g i v _ e1 (by rw[ai,e2];rfl)⟩
def Bts.of{rs:A1}(h:Reps H p vs (rs.map (Jj a))):Bts a H p vs rs:=⟨by rw[h.len,ae],λi v r e1 e2=>h.g i v _ e1 (by rw[ai,e2];rfl)⟩
def Jx(T:Txt K mg a):MCal P w K mg base a.n "copied" 4 ["self"] [] (xn a .source):=T.lh.cal T.gW λF=>by
 refine F.okx QF ?_ ?_
 .walk_at"i"
 walk_at"k";refine oE3 h λy p7 p p8=>oA5 p8 λpj hK hw hok k=>?_;clear p8 h;let⟨wd,ins,outs,pace,kinds⟩:=p7;subst pj;cases hw;have hK0:=hK;refine oE6 hK.inv λy' dx l1 l2 l3 fs p7=>oA9 p7 λe p0 p1 p2 p3 h0 e1 e2 p8=>oA5 p8 λe3 h1 h2 h3 h4=>?_;clear p7 p8;cases e;let⟨hk,hk'⟩:=h3 rfl;have hp:=h4 (.inl rfl);refine oA7 hok λq1 p7 q3 q4 q5 q6 q7=>?_;clear hok;let⟨ov,q2⟩:=p7;simp only at q1 q2;subst q1 q2;walk_at"T";refine⟨_,(zd (zj (jT (x:="Source") ⟨rfl,rfl,rfl⟩ hr (za (zq (zt (pq 0) rfl) ze) (za (zt (pq 0) rfl) (za (zt (pq 0) rfl) zb)))))),?_⟩;exists iE4 a.n _ _ _ ⟨(zbO T).mono,iE5 y a.n dx fs _ (iA6 rfl h0 T.gW T.iz e2 (zu (SqL.of h2) at0 ?_))⟩;refine ra h0 T.gW T.ie hp ?_;refine ra h0 T.gW T.ib hk ?_;intro z dz hz hdz hne;refine iE6 z dz l3 (.int ov) pace kinds (iA6 rfl pE (SqL.of (qf hz hdz hk')) (pG hk' hz) (λ_ H' m1 m2 m3 s' g1 g2 g3 g4 n1 n2 n3=>⟨rfl,?_⟩) (λhbad=>absurd (iA5 q3 q4 q5 q6 q7) hbad));exact k _ _ (Own.of_new hz hdz s') (Vo (p:=New H) (ins:=[]) (outs:=[ov]) hz (zL n1) (zL n2) (zL n3) g1 g2 g3 g4)
def XV(T:Txt K mg a):MCal P w K mg base a.o "copied" 4 ["self"] [] (xn a .drain):=T.lT.cal T.gY λF=>by
 refine F.okx Ju ?_ ?_
 .walk_at"i"
 walk_at"k";refine oE3 h λy p7 p p8=>oA5 p8 λpj hK hw hok k=>?_;clear p8 h;let⟨wd,ins,outs,pace,kinds⟩:=p7;subst pj;cases hw;have hK0:=hK;refine oE6 hK.inv λy' dx l1 l2 l3 fs p7=>oA9 p7 λe p0 p1 p2 p3 h0 e1 e2 p8=>oA5 p8 λe3 h1 h2 h3 h4=>?_;clear p7 p8;cases e;have hp:=h4 (.inr rfl);refine oA4 hok λp7 q2 q3 q4=>?_;clear hok;let⟨iv',q1⟩:=p7;simp only at q1 q2;subst q1 q2;walk_at"T";refine⟨_,(zd (zj (jT (x:="Drain") ⟨rfl,rfl,rfl⟩ hr (za (zq (zt (pq 0) rfl) ze) (za (zt (pq 0) rfl) zb))))),?_⟩;exists iE4 a.o _ _ _ ⟨(zaw T).mono,iE5 y a.o dx fs _ (iA6 rfl h0 T.gY T.ix e1 (zu (SqL.of h1) at0 ?_))⟩;refine ra h0 T.gY T.hJ hp ?_;intro z dz hz hdz hne;refine iE4 z dz (.int iv') pace (iA3 rfl pE ?_);rw[aq ⟨q3,q4⟩];intro H' m1 m2 s' g1 g2 g3 n1 n2;exact⟨rfl,k _ _ (Own.of_new hz hdz s') (XY (p:=New H) (ins:=[iv']) (outs:=[]) hz (zL n1) (zL n2) g1 g2 g3)⟩
def Jz(T:Txt K mg a):MCal P w K mg base a.p "copied" 4 ["self"] [] (xn a .parter):=T.lA.cal T.ij λF=>by
 refine F.okx QH ?_ ?_
 .walk_at"i"
 walk_at"k";refine oE3 h λy p7 p p8=>oA5 p8 λpj hK hw hok k=>?_;clear p8 h;let⟨wd,ins,outs,pace,kinds⟩:=p7;subst pj;cases hw;have hK0:=hK;refine oE6 hK.inv λy' dx l1 l2 l3 fs p7=>oA9 p7 λe p0 p1 p2 p3 h0 e1 e2 p8=>oA5 p8 λe3 h1 h2 h3 h4=>?_;clear p7 p8;cases e;let⟨⟨iv',q1⟩,q3,q4⟩:=hok;simp only at q1 q3 q4;subst q1;walk_at"T";refine⟨_,(zd (zj (jT (x:="Parter") ⟨rfl,rfl,rfl⟩ hr (za (zq (zt (pq 0) rfl) ze) (za (zt (pq 0) rfl) zb))))),?_⟩;exists iE4 a.p _ _ _ ⟨(zbP T).mono,iE5 y a.p dx fs _ (iA6 rfl h0 T.ij T.iE e1 (zu (SqL.of h1) at0 ?_))⟩;refine ra h0 T.ij T.ig e2 ?_;intro z dz hz hdz hne;refine iE5 z dz l2 (.int iv') (iv outs) (iA5 rfl pE (SqL.of (qf hz hdz h2)) (pG h2 hz) ?_);rw[aq (by rw[iv,ae];exact⟨q3,q4⟩)];intro H' m1 m2 s' g1 g2 g3 n1 n2;exact⟨rfl,k _ _ (Own.of_new hz hdz s') (Vp (p:=New H) (ins:=[iv']) (outs:=outs) hz (zL n1) (zL n2) g1 g2 g3)⟩
def vF(T:Txt K mg a):MCal P w K mg base a.q "copied" 4 ["self"] [] (xn a .first):=T.iU.cal T.gU λF=>by
 refine F.okx wW ?_ ?_
 .walk_at"i"
 walk_at"k";refine oE3 h λy p7 p p8=>oA5 p8 λpj hK hw hok k=>?_;clear p8 h;let⟨wd,ins,outs,pace,kinds⟩:=p7;subst pj;cases hw;have hK0:=hK;refine oE6 hK.inv λy' dx l1 l2 l3 fs p7=>oA9 p7 λe p0 p1 p2 p3 h0 e1 e2 p8=>oA5 p8 λe3 h1 h2 h3 h4=>?_;clear p7 p8;cases e;let⟨⟨iv',q1⟩,q3,q4⟩:=hok;simp only at q1 q3 q4;subst q1;walk_at"T";refine⟨_,(zd (zj (jT (x:="FirstParter") ⟨rfl,rfl,rfl⟩ hr (za (zq (zt (pq 0) rfl) ze) (za (zt (pq 0) rfl) zb))))),?_⟩;exists iE4 a.q _ _ _ ⟨(Zm T).mono,iE5 y a.q dx fs _ (iA6 rfl h0 T.gU T.ic e1 (zu (SqL.of h1) at0 ?_))⟩;refine ra h0 T.gU T.hW e2 ?_;intro z dz hz hdz hne;refine iE5 z dz l2 (.int iv') (iv outs) (iA5 rfl pE (SqL.of (qf hz hdz h2)) (pG h2 hz) ?_);rw[aq (by rw[iv,ae];exact⟨q3,q4⟩)];intro H' m1 m2 s' g1 g2 g3 n1 n2;exact⟨rfl,k _ _ (Own.of_new hz hdz s') (zbL (p:=New H) (ins:=[iv']) (outs:=outs) hz (zL n1) (zL n2) g1 g2 g3)⟩
def XT(T:Txt K mg a):MCal P w K mg base a.r "copied" 4 ["self"] [] (xn a .sieve):=T.lV.cal T.gZ λF=>by
 refine F.okx Js ?_ ?_
 .walk_at"i"
 walk_at"k";refine oE3 h λy p7 p p8=>oA5 p8 λpj hK hw hok k=>?_;clear p8 h;let⟨wd,ins,outs,pace,kinds⟩:=p7;subst pj;cases hw;have hK0:=hK;refine oE6 hK.inv λy' dx l1 l2 l3 fs p7=>oA9 p7 λe p0 p1 p2 p3 h0 e1 e2 p8=>oA5 p8 λe3 h1 h2 h3 h4=>?_;clear p7 p8;cases e;refine oA3 hok λp7 q3 p8=>oE1 p8 λkk pj=>oA3 pj λq4 q5 q6=>?_;clear p8 pj hok;let⟨iv',q1⟩:=p7;simp only at q1 q3 q4;subst q1 q4;walk_at"T";refine⟨_,(zd (zj (jT (x:="Sieve") ⟨rfl,rfl,rfl⟩ hr (za (zq (zt (pq 0) rfl) ze) (za (zt (pq 0) rfl) (za (zt (pq 0) rfl) zb)))))),?_⟩;exists iE4 a.r _ _ _ ⟨(zdC T).mono,iE5 y a.r dx fs _ (iA6 rfl h0 T.gZ T.iJ e1 (zu (SqL.of h1) at0 ?_))⟩;refine ra h0 T.gZ T.iG e2 ?_;refine zg3 hK0 T.gZ T.iF (zf5 rfl rfl) λu ru=>?_;cases ru;intro z dz hz hdz hne;refine iE6 z dz l2 (.int iv') (iv outs) kk (iA5 rfl pE (SqL.of (qf hz hdz h2)) (pG h2 hz) ?_);rw[aq (by rw[iv,ae];exact⟨q3,q5,q6⟩)];intro H' m1 m2 s' g1 g2 g3 n1 n2;exact⟨rfl,k _ _ (Own.of_new hz hdz s') (zbK (p:=New H) (ins:=[iv']) (outs:=outs) hz (zL n1) (zL n2) g1 g2 g3)⟩
def JB(T:Txt K mg a):MCal P w K mg base a.s "copied" 4 ["self"] [] (xn a .joiner):=T.lC.cal T.ik λF=>by
 refine F.okx QL ?_ ?_
 .walk_at"i"
 walk_at"k";refine oE3 h λy p7 p p8=>oA5 p8 λpj hK hw hok k=>?_;clear p8 h;let⟨wd,ins,outs,pace,kinds⟩:=p7;subst pj;cases hw;have hK0:=hK;refine oE6 hK.inv λy' dx l1 l2 l3 fs p7=>oA9 p7 λe p0 p1 p2 p3 h0 e1 e2 p8=>oA5 p8 λe3 h1 h2 h3 h4=>?_;clear p7 p8;cases e;let⟨⟨ov,q1⟩,q3,q4⟩:=hok;simp only at q1 q3 q4;subst q1;walk_at"T";refine⟨_,(zd (zj (jT (x:="Joiner") ⟨rfl,rfl,rfl⟩ hr (za (zt (pq 0) rfl) (za (zq (zt (pq 0) rfl) ze) zb))))),?_⟩;exists iE4 a.s _ _ _ ⟨(zbQ T).mono,iE5 y a.s dx fs _ (iA6 rfl h0 T.ik T.ir e1 ?_)⟩;refine ra h0 T.ik T.iC e2 (zu (SqL.of h2) at0 ?_);intro z dz hz hdz hne;refine iE5 z dz l1 (.int ov) (iv ins) (iA5 rfl pE (SqL.of (qf hz hdz h1)) (pG h1 hz) ?_);rw[aq (by rw[iv,ae];exact⟨q3,q4⟩)];intro H' m1 m2 s' g1 g2 g3 n1 n2;exact⟨rfl,k _ _ (Own.of_new hz hdz s') (Vq (p:=New H) (ins:=ins) (outs:=[ov]) hz (zL n1) (zL n2) g1 g2 g3)⟩
def CT(T:Txt K mg a)(wd:Wd):Cls K (wK a wd):=by
 cases wd
 .exact T.gW
 .exact T.gY
 .exact T.ij
 .exact T.gU
 .exact T.gZ
 .exact T.ik
def NI(T:Txt K mg a)(wd:Wd):NoAttr K (wK a wd) "ins":=by
 cases wd
 .exact T.kq
 .exact T.ix
 .exact T.iE
 .exact T.ic
 .exact T.iJ
 .exact T.ir
def NO(T:Txt K mg a)(wd:Wd):NoAttr K (wK a wd) "outs":=by
 cases wd
 .exact T.iz
 .exact T.kr
 .exact T.ig
 .exact T.hW
 .exact T.iG
 .exact T.iC
def WT(T:Txt K mg a)(wd:Wd):WI K (wK a wd):=by
 cases wd
 .exact T.oQ
 .exact T.o0
 .exact T.oS
 .exact T.mq
 .exact T.o6
 .exact T.oU
def zfV(T:Txt K mg a)(wd:Wd):MCal P w K mg base (wK a wd) "copied" 4 ["self"] [] (xn a wd):=by
 cases wd
 .exact Jx T
 .exact XV T
 .exact Jz T
 .exact vF T
 .exact XT T
 .exact JB T
theorem WV:∀(xs ys:A7),xs.Perm ys->xs.Pairwise (·<=·)->ys.Pairwise (·<=·)->xs=ys
 |[],ys,h,_,_=>(List.nil_perm.mp h).symm
 |x::xs,[],h,_,_=>absurd h.length_eq (by simp)
 |x::xs,y::ys,h,hx,hy=>by
  have e:x=y:=by
   have h1:y∈x::xs:=h.mem_iff.mpr (by simp);have h2:x∈y::ys:=h.mem_iff.mp (by simp);rcases aC.mp h1 with e|m1
   .exact e.symm
   rcases aC.mp h2 with e|m2
   .exact e
   have:=(c8.mp hx).1 y m1;have:=(c8.mp hy).1 x m2
   lia
  subst e;rw[WV xs ys h.cons_inv (c8.mp hx).2 (c8.mp hy).2]
noncomputable def rgI(n:Nat):List Int:=(List.range n).map λ(i:Nat)=>(i:Int)
def zcB(n:Nat):(rgI n).Pairwise (·<=·):=by
 unfold rgI;rw[List.pairwise_map];exact List.pairwise_lt_range.imp λ{i j} h=>by lia
def zg0(n:Nat):rgL 0 n=iv (rgI n):=by
 simp[rgL,iv,rgI,d6,eD]
theorem Xg:∀ms ns:List Int,xD (iv ms) (iv ns)=decide (ms=ns)
 |[],[]=>rfl
 |[],_::_=>rfl
 |_::_,[]=>rfl
 |m::ms,n::ns=>by
  show(eqV (.int m) (.int n)&&xD (iv ms) (iv ns))=_
  rw[Xg ms ns];by_cases e:m=n
  .subst e;simp[eqV]
  .simp[eqV,e]
def zdK(ns:A7):(iv ns).all jV=true:=bI.mpr λx hx=>by
 let⟨n,_,rfl⟩:=bb.mp hx
 rfl
def zg2{Q:VK}{p q:Addr}{ms ns:A7}(h1:SqL K H p (iv ms))(h2:SqL K H q (iv ns))(k:Q (.bl (!decide (ms=ns))) H):zbo K (.ref p) (.ref q) H Q :=
 .inr (.inl ⟨p,q,iv ms,iv ns,rfl,rfl,.inl ⟨h1,h2⟩,zdK ms,zdK ns,by rw[Xg];exact k⟩)
def za6(K:A0)(a:Ad):Sp:=λvs H Q E=>∃(bl kl:Addr)(xs ys:Ap),vs=[.ref bl,.ref kl]/\SqL K H bl xs/\SqL K H kl ys/\if (1<=xs.length/\xs.length<=24)/\1<=ys.length/\ys.length<=24 then Q .non H else E (.ref a.f) none H
def zaL(T:Txt K mg a):Cal P w K mg base "check_size" 1 ["belts","knots"] [] (za6 K a):=T.mF.cal λF=>by
 refine F.okx Wt ?_ ?_
 .walk_at"i"
 walk_at"k";let⟨bl,kl,xs,ys,rfl,h1,h2,k⟩:=h;let⟨t1,g1⟩:=T.mU;let⟨t2,g2⟩:=T.mV;walk_at"T";refine⟨_,(zg (zy (qw (jy jU jU ze (zE zC zB (za (pq 0) zb)) jc))  (zd (qA ⟨rfl,rfl,rfl⟩ rfl (za z9 zb)))  zl)  (zd (zy (qw (jy jU jU ze (zE zC zB (za (pq 1) zb)) jc))  (zd (qA ⟨rfl,rfl,rfl⟩ rfl (za z9 zb)))  zl))),?_⟩;left;have bad:¬((1<=xs.length/\xs.length<=24)/\1<=ys.length/\ys.length<=24)->∃C,mg "BadWork"=some (Value.ref C)/\XC K C/\E (Value.ref C) none H:=λh=>by
  rw[ao h]at k;exact⟨a.f,T.kj,T.l7,k⟩
 refine⟨_,.inl ⟨_,h1,rfl⟩,?_⟩;exists zF (λb1=>?_) (λb1=>bad (by lia));refine⟨.int 24,_,g1,⟨_,rfl⟩,?_⟩;exists zF (λb2=>?_) (λb2=>bad (by lia));exists⟨_,.inl ⟨_,h2,rfl⟩,?_⟩;exists zF (λb3=>?_) (λb3=>bad (by lia));refine⟨.int 24,_,g2,⟨_,rfl⟩,?_⟩;exists zF (λb4=>?_) (λb4=>bad (by lia));rw[aq (by lia)]at k;left;exact k
def zcq(K:A0)(a:Ad):Sp:=λvs H Q E=>∃(l:Addr)(ns:A7)(n:Nat),vs=[.ref l,.int n]/\SqL K H l (iv ns)/\ns.length<64/\n<=1000/\(ns.Perm (rgI n)->∀H',Same H H'->Q .non H')/\(¬ns.Perm (rgI n)->∀H',Same H H'->E (.ref a.f) none H')
def xM(T:Txt K mg a):Cal P w K mg base "check_each_once" 1 ["named","size"] [] (zcq K a):=T.kD.cal λF=>by
 refine F.okx Zv ?_ ?_
 .walk_at"i"
 walk_at"k";let⟨l,ns,n,rfl,hl,h64,hn,kok,kbad⟩:=h;walk_at"T";refine⟨_,(zd (zy (zi (wl hr.units1) (zE zeU zeT (za (pq 0) zb)) (jA (zgx rfl) qK (za (ziy (za (pq 1) zb)) zb)) (zk _))  (zd (qA ⟨rfl,rfl,rfl⟩ rfl (za z9 zb)))  zl)),?_⟩;exists⟨l,ns,rfl,hl,h64,λms q1 hp hs hq1=>?_⟩;left;intro q2 hq2;refine⟨q2,0,n,rfl,pE,⟨by lia,by lia,by lia,by lia,by lia⟩,λq3 hq3=>?_⟩;rw[show((n:Int)-0).toNat=n by lia,zg0];left;have sm:Same H (upd (upd (upd H q1 (.lst (iv ms))) q2 (.rng 0 n)) q3 (.lst (iv (rgI n)))):=(zc hq1).trans ((zc hq2).trans (zc hq3));refine zg2 (ms:=ms) (ns:=rgI n) (SqL.of (pH (pH pE hq2) hq3)) (SqL.of pE) ?_;exists zF (λb1=>?_) (λb1=>?_)
 .refine⟨a.f,T.kj,T.l7,kbad (λz=>b1 (WV _ _ (hp.trans z) hs (zcB n))) _ sm⟩
 .exists kok ?_ _ sm;have e:ms=rgI n:=fX b1;rw[<- e];exact hp.symm
noncomputable def xf(rs:At):List Int:=rs.flatMap Row.outs
noncomputable def qG(rs:At):List Int:=rs.flatMap Row.ins
noncomputable def wf(l1 l2:Addr):List (Str×V):=qr "knots" (.ref l2) (qr "belts" (.ref l1) [])
def zV(bs:A1)(rs:At):Prop:=((1<=bs.length/\bs.length<=24)/\1<=rs.length/\rs.length<=24)/\(xf rs).Perm (rgI bs.length)/\(qG rs).Perm (rgI bs.length)
def JZ(K:A0)(a:Ad):Sp:=λvs H Q E=>∃(y dx bl kl:Addr)(bvs pi:Ap)(bs:A1)(rs:At)(p:A6),vs=[.ref y,.ref bl,.ref kl]/\H y=some (.ins a.u dx [])/\bl≠y/\kl≠y/\(∀b,p b->b≠y) /\
 H bl=some (.lst bvs)/\H kl=some (.lst pi)/\Bts a H p bvs bs/\Kns a H p pi rs/\(∀b∈bs,zH b.1 b.2)/\(∀r∈rs,r.ok)/\(xf rs).length<64/\(qG rs).length<64/\bs.length<=1000 /\
 (zV bs rs->∀H' l1 l2 bvs' kvs',Own H H' y->H' y=some (.ins a.u dx (wf l1 l2))->H' l1=some (.lst bvs')->H' l2=some (.lst kvs')->Bts a H' (New H) bvs' bs->Kns a H' (New H) kvs' rs->H l1=none->H l2=none->Q .non H') /\
 (¬zV bs rs->∀H',Same H H'->E (.ref a.f) none H')
def zc3{rs:At}{r:Row}(h:rs[i]?=some r):xf (rs.take (i+1))=xf (rs.take i)++r.outs:=by
 unfold xf;rw[aO,h,fO];simp
def VL{rs:At}{r:Row}(h:rs[i]?=some r):qG (rs.take (i+1))=qG (rs.take i)++r.ins:=by
 unfold qG;rw[aO,h,fO];simp
def xk(f:Row->List Int)(rs:At)(i:Nat):((rs.take i).flatMap f).length<=(rs.flatMap f).length:=by
 conv=>rhs;rw[<- eR i rs,fO,av]
 lia
def zcT(xs ys:A7):iv xs++iv ys=iv (xs++ys):=by rw[iv,iv,iv,aZ]
def zal(T:Txt K mg a)(F:Fun K "__init__" "Work.__init__" jP f fd):FnOk P w K mg base (CXr P w) 5 f fd ["self","belts","knots"] (JZ K a):=by
 refine F.okx VY ?_ ?_
 .walk_at"i"
 walk_at"k";refine oE5 h λy dx bl kl bvs p7=>oE4 p7 λpi bs rs p p8=>oA9 p8 λpj hy nby nky hpy hb hk hB pC=>oA8 pC λhKs hbo hro h64 h64' hlb kok kbad=>?_;clear p7 p8 pC h;subst pj;walk_at"T";refine⟨_,(zh (zw ‹(pq 1) (za (pq 2) zb)›)  (zh (zr 3 VY.nd (zn zb))  (zh (zr 4 VY.nd (zn zb))  (zh (z6 qj rfl (zN (pq 2)) (zX 5 VY.nd)  (zh (zw (qH ap b5 bZ wm (pq 3) (za (zt (pq 5) rfl) zb)))  (zd (zw (qH ap b5 bZ wm (pq 4) (za (zt (pq 5) rfl) zb))))))  (zh (zw ‹(pq 3) (za (zE zC zB (za (pq 1) zb)) zb)›)  (zh (zw ‹(pq 4) (za (zE zC zB (za (pq 1) zb)) zb)›)  (zh (jz (pq 0) (jk (vars:=["belt"]) (caps:=[]) (N:=["belt"]) (ON:=["self","belts","knots","fed","taken","knot"]) (osc:=zf jP) rfl rfl (by right) rfl rfl (zN (pq 1)) (λ_ _ _ _=>(zX 0 (show(["belt"]:A9).Nodup from by symm))) (λ_ _ _ _=>z8) (λ_ _ _ _=>(zfH (x:="Belt") hr (za (zt (pq 0) rfl) (za (zt (pq 0) rfl) zb))))) rfl)  (zd (jz (pq 0) (jk (vars:=["knot"]) (caps:=[]) (N:=["knot"]) (ON:=["self","belts","knots","fed","taken","knot"]) (osc:=zf jP) rfl rfl (by right) rfl rfl (zN (pq 2)) (λ_ _ _ _=>(zX 0 (show(["knot"]:A9).Nodup from by symm))) (λ_ _ _ _=>z8) (λ_ _ _ _=>(zfF hr (pq 0)))) rfl))))))))),?_⟩;exists uc (zaL T).mono (iE4 bl kl bvs pi (iA4 rfl (SqL.of hb) (SqL.of hk) (zF (λb1=>?_) (λb1=>?_))))
 rotate_left
 .refine kbad (λz=>b1 ?_) H (Same.refl _);rw[hB.len,hKs.len];exact z.1
 rw[hB.len,hKs.len]at b1;left;intro fl hfl;left;intro tl htl;have nft:fl≠tl:=pG pE htl;have htl0:H tl=none:=zx htl;walk_at"c";left;have s2:Same H (upd (upd H fl (.lst [])) tl (.lst [])):=(zc hfl).trans (zc htl);refine⟨kl,rfl,.inl ⟨⟨_,SqL.of (s2 _ _ hk)⟩,?_⟩⟩;let pk:Nat->St->Hp->Prop:=λi σ H'=>∃v5,σ=[some (.ref y),some (.ref bl),some (.ref kl),some (.ref fl),some (.ref tl),v5]/\Same H H'/\H' fl=some (.lst (iv (xf (rs.take i))))/\H' tl=some (.lst (iv (qG (rs.take i))));refine qb (K:=K) (a:=kl) (xs:=pi) pk ⟨_,iA4 rfl s2 (pH pE htl) pE⟩ (λi σ H' _ ⟨_,_,s,_⟩=>SqL.of (s _ _ hk)) ?_ ?_
 .intro i x σ H' hi p9;refine oE1 p9 λv5 p7=>oA4 p7 λp8 s3 e1 e2=>?_;ext;let⟨r,hr',hKn0⟩:=hKs.at hi;refine oE6 hKn0.inv λy1 dx1 l1 l2 l3 fs p7=>oA9 p7 λp8 p0 p1 p2 p3 h0 f1 f2 pj=>oA5 pj λf3 h1 h2 h3 h4=>?_;clear p7 pj;subst p8;have L1:=xk Row.outs rs i;have L2':=xk Row.ins rs i;have L3:=xk Row.outs rs (i+1);have L4:=xk Row.ins rs (i+1);have E1:=zc3 hr';have E2:=VL hr';have n1:∀{b:Addr}{o:HO},H b=some o->b≠fl:=λh=>pG h hfl;have n2:∀{b:Addr}{o:HO},H b=some o->b≠tl:=λh=>pG h htl0;exists⟨.inl ⟨rfl,_,SqL.of e1⟩,iE5 y1 (wK a r.wd) dx1 fs _ (iA6 rfl (s3 _ _ h0) (CT T _) (NO T _) f2 ?_)⟩;refine iE4 fl l2 _ _ (iA6 rfl rfl e1 (s3 _ _ h2) ?_ ?_)
  .refine bV (zm ?_);have:=bE List.length E1;rw[av]at this;rw[iv,iv,ae,ae];unfold xf at this h64 ⊢
   lia
  left;have e2':upd H' fl (.lst (iv (xf (rs.take i))++iv r.outs)) tl=some (.lst (iv (qG (rs.take i)))):=by rw[pF (ba nft)];exact e2
  refine⟨.inl ⟨rfl,_,SqL.of e2'⟩,iE5 y1 (wK a r.wd) dx1 fs _ (iA6 rfl ?_ (CT T _) (NI T _) f1 ?_)⟩
  .rw[pF (n1 h0)];exact s3 _ _ h0
  refine iE4 tl l1 _ (iv r.ins) (iA6 rfl rfl e2' ?_ ?_ ?_)
  .rw[pF (n1 h1)];exact s3 _ _ h1
  .refine bV (zm ?_);have:=bE List.length E2;rw[av]at this;rw[iv,iv,ae,ae];unfold qG at this h64' ⊢
   lia
  refine⟨_,iA4 rfl (λb o hb=>?_) ?_ ?_⟩
  .rw[pF (n2 hb),pF (n1 hb)];exact s3 _ _ hb
  .rw[pF nft,pE,E1,zcT]
  .rw[pE,E2,zcT]
 .intro σ H1 p9;refine oE1 p9 λv5 p7=>oA4 p7 λp8 s3 e1 e2=>?_;ext;rw[hKs.len,aG]at e1 e2;exists uc (xM T).mono ⟨gJ,⟨_,⟨.inl ⟨_,SqL.of (s3 _ _ hb),rfl⟩,?_⟩⟩⟩;rw[hB.len];refine iE3 fl (xf rs) bs.length (iA6 rfl (SqL.of e1) h64 hlb (λg1 H2 s4=>?_) (λg1 H2 s4=>kbad (λz=>g1 z.2.1) _ (s3.trans s4)));exists uc (xM T).mono ⟨gJ,⟨_,⟨.inl ⟨_,SqL.of (s4 _ _ (s3 _ _ hb)),rfl⟩,?_⟩⟩⟩;rw[hB.len];refine iE3 tl (qG rs) bs.length (iA6 rfl (SqL.of (s4 _ _ e2)) h64' hlb (λg2 H3 s5=>?_) (λg2 H3 s5=>kbad (λz=>g2 z.2.2) _ (s3.trans (s4.trans s5))));have kok:=kok ⟨b1,g1,g2⟩;have s6:=s3.trans (s4.trans s5);clear s3 s4 s5 e1 e2;clear g1 g2;left;walk_at"d";exists⟨bl,rfl,.inl ⟨⟨_,SqL.of (s6 _ _ hb)⟩,λ_ _ _ _ ph hacc=>?_⟩⟩;have nacc:H ph=none:=zK s6 hacc;let pw:Nat->St->Hp->Prop:=λi σ H'=>∃v us,σ=[v]/\Same H3 H'/\H' ph=some (.lst us)/\Bts a H' (λb=>H3 b=none/\b≠ph) us (bs.take i);refine qb (K:=K) (a:=bl) (xs:=bvs) pw (iE2 _ ([]) (iA4 rfl (zc hacc) pE (by rw[bT];exact .nil))) (λi σ H' _ ⟨_,_,_,s,_⟩=>SqL.of (s _ _ (s6 _ _ hb))) ?_ ?_
  .intro i x σ H' hi p9;refine oE2 p9 λv us p7=>oA4 p7 λp8 s7 e1 hU=>?_;ext;let⟨⟨rm,pc⟩,hr',hBt0⟩:=hB.at hi;refine oE3 hBt0.inv λy1 dx1 fs p7=>oA5 p7 λp8 p0 h0 f1 f2=>?_;clear p7;subst p8;have hok:=hbo _ (ah hr');have hil:i<bs.length:=(aa.mp hr').1;have h0':=s7 _ _ (s6 _ _ h0);exists iE4 a.l _ _ _ ⟨(zf9 T).mono,iE5 y1 a.l dx1 fs _ (iA6 rfl h0' T.iD T.iI f1 (iE5 y1 a.l dx1 fs _ (iA6 rfl h0' T.iD T.iw f2 ?_)))⟩;intro z dz hz hdz hne;refine iE4 z dz rm pc (iA3 rfl pE ?_);rw[aq hok,ZH];have sN:Same H' (upd (upd H' dz (.own z)) z (.ins a.l dz (bf rm pc))):=λb o h=>by rw[pF (pG h hz),pF (pG h hdz)];exact h
   have hz':upd (upd H' dz (.own z)) z (.ins a.l dz (bf rm pc)) z=some (.ins a.l dz (bf rm pc)):=pE;generalize upd (upd H' dz (.own z)) z (.ins a.l dz (bf rm pc))=H4 at sN hz' ⊢;have hzn:z≠ph:=λq=>by rw[q,e1]at hz;cases hz
   refine⟨rfl,⟨_,iA3 (sN _ _ e1) (zm (by have:=hU.len;rw[aE]at this;lia)) (iE2 _ (us++[.ref z]) (iA4 rfl (λb o hb=>?_) pE ?_))⟩⟩
   .rw[pF (pG hb hacc)];exact sN _ _ (s7 _ _ hb)
   .rw[aO,hr'];refine Bts.push (hU.keep λb o hp hb=>⟨hp,by rw[pF hp.2];exact sN _ _ hb⟩) (zh4 (p:=λb=>H3 b=none/\b≠ph) ⟨zK s7 hz,hzn⟩ (by rw[pF hzn];exact hz'))
  .intro σ H4 p9;refine oE2 p9 λv us p7=>oA4 p7 λp8 s7 e1 hU=>?_;ext;rw[hB.len,aG]at hU;have s8:=s6.trans s7;have nacy:ph≠y:=(pG hy nacc).symm;exists iE4 y a.u dx ([]) (iA6 rfl (s8 _ _ hy) T.gM T.hZ (by decide) ?_);have o9:Own H (upd H4 y (.ins a.u dx (qr "belts" (.ref ph) []))) y:=(Same.own s8).trans jo;have hy9:upd H4 y (.ins a.u dx (qr "belts" (.ref ph) [])) y=some (.ins a.u dx (qr "belts" (.ref ph) [])):=pE;have e9:upd H4 y (.ins a.u dx (qr "belts" (.ref ph) [])) ph=some (.lst us):=by rw[pF nacy];exact e1
   have hU9:Bts a (upd H4 y (.ins a.u dx (qr "belts" (.ref ph) []))) (λb=>H b=none/\b≠y) us bs:=hU.keep λb o hp hb=>by
    have q1:H b=none:=zK s6 hp.1;have q2:b≠y:=(pG hy q1).symm;exact⟨⟨q1,q2⟩,by rw[pF q2];exact hb⟩
   generalize upd H4 y (.ins a.u dx (qr "belts" (.ref ph) []))=H5 at o9 hy9 e9 hU9 ⊢;left;walk_at"d";exists⟨kl,rfl,.inl ⟨⟨_,SqL.of (o9 _ _ nky hk)⟩,λ_ _ _ _ ac2 hac2=>?_⟩⟩;let pD:Nat->St->Hp->Prop:=λi σ H'=>∃v us2,σ=[v]/\Same H5 H'/\H' ac2=some (.lst us2)/\Kns a H' (λb=>H5 b=none/\b≠ac2) us2 (rs.take i);refine qb (K:=K) (a:=kl) (xs:=pi) pD (iE2 _ ([]) (iA4 rfl (zc hac2) pE (by rw[bT];exact .nil))) (λi σ H' _ ⟨_,_,_,s,_⟩=>SqL.of (s _ _ (o9 _ _ nky hk))) ?_ ?_
   .intro i x σ H' hi p9;refine oE2 p9 λv us2 p7=>oA4 p7 λp8 s10 e2 hV=>?_;ext;let⟨r,hr',hKn⟩:=hKs.at hi;have hok:=hro _ (ah hr');have hil:i<rs.length:=(aa.mp hr').1;have hKn':KnP a H' p x r:=hKn.keep λb o hp hb=>⟨hp,s10 _ _ (o9 _ _ (hpy b hp) hb)⟩;refine oE6 hKn'.inv λy1 dx1 l1 l2 l3 fs p7=>oA9 p7 λp8 p0 p1 p2 p3 h0 f1 f2 pj=>oA5 pj λf3 h1 h2 h3 h4=>?_;clear p7 pj;subst p8;exists iE7 y1 (wK a r.wd) dx1 fs _ _ _ (iA5 rfl h0 f3 ((zfV T r.wd).mono) ?_);refine iE3 y1 r p (iA5 rfl hKn' rfl hok (λv' H6 s11 hN=>?_));refine⟨_,iA3 (s11 _ _ e2) (zm (by have:=hV.len;rw[aE]at this;lia)) (iE2 _ (us2++[v']) (iA4 rfl (λb o hb=>?_) pE ?_))⟩
    .rw[pF (pG hb hac2)];exact s11 _ _ (s10 _ _ hb)
    .rw[aO,hr'];refine Kns.append (hV.keep λb o hp hb=>⟨hp,by rw[pF hp.2];exact s11 _ _ hb⟩) (Kns.one (hN.keep λb o hp hb=>?_));have q2:b≠ac2:=λz=>by rw[z]at hp;rw[New,e2]at hp;cases hp
     exact⟨⟨zK s10 hp,q2⟩,by rw[pF q2];exact hb⟩
   .intro σ H6 p9;refine oE2 p9 λv us2 p7=>oA4 p7 λp8 s10 e2 hV=>?_;ext;rw[hKs.len,aG]at hV;have hy10:=s10 _ _ hy9;exists iE4 y a.u dx _ (iA6 rfl hy10 T.gM T.gI (by show 1<1000;decide) ?_);have n2y:ac2≠y:=λz=>by rw[z,hy9]at hac2;cases hac2
    have ho:∀b,H5 b=none->b≠y->H b=none:=λb h1 h2=>by
     cases e:H b with
     |none=>rfl
     |some o=>rw[o9 b o h2 e]at h1;cases h1
    refine kok _ ph ac2 us us2 ((o9.trans (Same.own s10)).trans jo) pE ?_ ?_ ?_ ?_ nacc (ho _ hac2 n2y)
    .rw[pF nacy];exact s10 _ _ e9
    .rw[pF n2y];exact e2
    .exact hU9.keep λb o hp hb=>⟨hp.1,by rw[pF hp.2];exact s10 _ _ hb⟩
    .refine hV.keep λb o hp hb=>?_;have q:b≠y:=λz=>by rw[z,hy9]at hp;cases hp.1
     exact⟨ho b hp.1 q,by rw[pF q];exact hb⟩
def zf8(T:Txt K mg a):KCal P w K mg base "Work" a.u 5 ["self","belts","knots"] [] (JZ K a):=T.nH.cal T.pd (zal T)
noncomputable def Zn(b:Int×Int):D:=.tup [.int b.1,.int b.2]
def Xh(lo:Nat)(n:Nat):List Int:=(List.range n).map λ(i:Nat)=>((lo+i:Nat):Int)
def QD(lo n:Nat):Xh lo (n+1)=Xh lo n++[((lo+n:Nat):Int)]:=by simp[Xh,eI]
def ZN(lo n:Nat):(Xh lo n).length=n:=by simp[Xh]
def zdr(m n:Nat):rgI m++Xh m n=rgI (m+n):=by
 induction n with
 |zero=>simp[Xh]
 |succ n ih=>rw[QD,<- a9,ih,<- dU];simp[rgI,eI]
def Z5(n:Nat):(rgI n).length=n:=by simp[rgI]
def zbk(n:Nat):rgI (n+1)=rgI n++[(n:Int)]:=by simp[rgI,eI]
def zA(ns:A7):(iv ns).length=ns.length:=by rw[iv,ae]
def xz{x:V}(h:(iv ns)[i]?=some x):∃n,ns[i]?=some n/\x=.int n:=by
 rw[iv,ai,am]at h;let⟨n,h1,h2⟩:=h;exact⟨n,h1,h2.symm⟩
def xa(h:ns[i]?=some n):(iv ns)[i]?=some (.int n):=by rw[iv,ai,h];rfl
def X0(ns:A7)(k:Nat):(iv ns).eraseIdx k=iv (ns.eraseIdx k):=by
 induction ns generalizing k with
 |nil=>simp[iv]
 |cons n ns ih =>
  cases k with
  |zero=>simp[iv]
  |succ k=>simpa[iv]using ih k
def qX(ns:A7)(n:Int):iv ns++[.int n]=iv (ns++[n]):=by simp[iv]
def zgb(ns:A7):(iv ns).reverse=iv ns.reverse:=by simp[iv]
def xB(n:Nat)(es ks:A7)(bs:A1)(outs es' ks':A7)(bs':A1):Prop :=
 outs.length=n/\ks'.length<=ks.length/\∃nb:List (Int×Int),es'=es++Xh bs.length nb.length/\bs'=bs++nb/\(∀b∈nb,zH b.1 b.2)/\(outs++ks').Perm (ks++Xh bs.length nb.length)
def XD{es ks:A7}:xB 0 es ks bs [] es ks bs:=⟨rfl,ar _,[],by simp[Xh],by simp,(λb hb=>nomatch hb),by simp[Xh]⟩
def zfN{n:Nat}{es ks outs es' ks':A7}{bs bs':A1}{b:Int×Int}(h:xB n es ks bs outs es' ks' bs')(hb:zH b.1 b.2):xB (n+1) es ks bs (outs++[(bs'.length:Int)]) (es'++[(bs'.length:Int)]) ks' (bs'++[b]):=by
 let⟨h1,h0,nb,h2,h3,h4,h5⟩:=h;have e:bs'.length=bs.length+nb.length:=by rw[h3,av]
 refine⟨by simp[h1],h0,nb++[b],?_,by rw[h3,a9],?_,?_⟩
 .rw[av,bw,QD,h2,a9,e]
 .intro x hx;rcases ax.mp hx with hx|hx
  .exact h4 x hx
  .rw[ak.mp hx];exact hb
 .rw[av,bw,QD,e,a9];refine((bS _ eT).trans ?_);rw[<- a9,<- a9];exact bc _ h5
def zfL{n:Nat}{es ks outs es' ks':A7}{bs bs':A1}(h:xB n es ks bs outs es' ks' bs'):xB n es ks bs outs.reverse es' ks' bs':=by
 let⟨h1,h0,nb,h2,h3,h4,h5⟩:=h;exact⟨by simp[h1],h0,nb,h2,h3,h4,(bc _ (List.reverse_perm _)).trans h5⟩
def wdS:Wd->Str
 | .source=>"source"
 | .drain=>"drain"
 | .parter=>"parter"
 | .first=>"first"
 | .sieve=>"sieve"
 | .joiner=>"joiner"
def vR{x y:Wd}(h:wdS x=wdS y):x=y:=by
 cases x<;>cases y<;>first|rfl|exact absurd h (by symm)
abbrev ms4(L R E B:Addr):List Addr:=[L,R,E,B]
structure WInv(bs:A1)(rs:At)(es ks:A7):Prop where
 tk:(qG rs++es).Perm (rgI bs.length)
 fd:(xf rs++ks).Perm (rgI bs.length)
 ro:∀r∈rs,r.ok
 bo:∀b∈bs,zH b.1 b.2
def zc4(rs:At)(r:Row):xf (rs++[r])=xf rs++r.outs:=by simp[xf]
def VM(rs:At)(r:Row):qG (rs++[r])=qG rs++r.ins:=by simp[qG]
def wY{n:Nat}{bs bs2:A1}{rs:At}{es es1 es2 ks ks2:A7}{r:Row}(h:WInv bs rs es ks)(p:(r.ins++es1).Perm es)(o:xB n es1 ks bs r.outs es2 ks2 bs2)(ok:r.ok):WInv bs2 (rs++[r]) es2 ks2:=by
 let⟨_,_,nb,e1,e2,b2,pp⟩:=o;have el:bs2.length=bs.length+nb.length:=by rw[e2,av]
 refine⟨?_,?_,?_,?_⟩
 .rw[VM,e1,el,<- zdr,<- a9];refine bc _ ?_;rw[a9];exact(bS _ p).trans h.tk
 .rw[zc4,el,<- zdr,a9];refine(bS _ pp).trans ?_;rw[<- a9];exact bc _ h.fd
 .intro x hx;rcases ax.mp hx with hx|hx
  .exact h.ro x hx
  .rw[ak.mp hx];exact ok
 .intro x hx;rw[e2]at hx;rcases ax.mp hx with hx|hx
  .exact h.bo x hx
  .exact b2 x hx
def JS{n:Nat}(h:us.length=n+1):∃a vs,us=a::vs/\vs.length=n:=by
 cases us with
 |nil=>cases h
 |cons a vs=>exact⟨a,vs,rfl,Nat.succ.inj h⟩
def two_of(h:us.length=2):∃a b,us=[a,b]:=by
 let⟨a,_,rfl,h1⟩:=JS h;let⟨b,_,rfl,h2⟩:=JS h1;exact⟨a,b,by rw[b9.mp h2]⟩
def Vh{ns:Ac}(h:Reps H p vs (bs.map Zn))(k:∀m∈ns,∃xs,H m=some (.lst xs)):Reps H (Off ns) vs (bs.map Zn):=by
 refine⟨h.len,λi v d e1 e2=>?_⟩;have r:=h.g i v d e1 e2;rw[ai,am]at e2;let⟨b,_,rfl⟩:=e2;let⟨t,us,rfl,_,ht,rr⟩:=Rep.tup' r;have r1:=rr.g;let⟨x,y,rfl⟩:=two_of rr.len;have a1:=r1 0 x _ rfl rfl;have a2:=r1 1 y _ rfl rfl;cases a1;cases a2;refine Reps.mkT (.cons .int (.cons .int .nil)) (λz=>?_) ht;let⟨xs,hx⟩:=k t z;rw[ht]at hx;cases hx
theorem vz:∀{es:A7}{j:Nat}{y:Int},es[j]?=some y->(y::es.eraseIdx j).Perm es
 |[],_,_,h=>by simp at h
 |e::es,0,y,h=>by
  have h:e=y:=by simpa using h
  subst h;simp
 |e::es,j+1,y,h=>by
  have ih:=vz (es:=es) (j:=j) (y:=y) (by simpa using h);rw[fA];exact(List.Perm.swap e y _).trans (ih.cons e)
def zas{n:Nat}{x:Int}(h:x∈rgI n):0<=x/\x<n:=by
 unfold rgI at h;let⟨i,hi,rfl⟩:=bb.mp h;have:=dL.mp hi
 lia
def zdP{α:Type}{xs:List α}{x:α}(h:xs[i]?=some x):xs.drop i=x::xs.drop (i+1):=by
 let⟨hi,rfl⟩:=aa.mp h;exact cu hi
def Qa{b:Int×Int}(h:Rep H p v (Zn b)):∃t,v=.ref t/\H t=some (.tup [.int b.1,.int b.2]):=by
 let⟨t,us,rfl,_,ht,rr⟩:=Rep.tup' h;have g:=rr.g;let⟨x0,x1,rfl⟩:=two_of rr.len;have a0:=g 0 x0 _ rfl rfl;have a1:=g 1 x1 _ rfl rfl;cases a0;cases a1;exact⟨t,rfl,ht⟩
noncomputable def Wa(ns:A7)(k:Nat):Int:=ns.getD k 0
inductive spCell(K:A0)(vs:Ap)(H:Hp)(Q:VK)(E:XK):Prop
 |i (l:Addr) (ns:A7) (k:Nat):vs=[.ref l,.int k]->SqL K H l (ns.map V.int)->Q (.int (Wa ns k)) H->spCell K vs H Q E
def Jm(T:Txt K mg a):Cal P w K mg base "_law_cell_at" 1 ["_law_script","_law_k"] [] (spCell K):=T.m7.cal λF=>by
 refine F.okx V7 ?_ ?_
 .walk_at"i"
 walk_at"k";rcases h with⟨l,ns,n,rfl,hl,k⟩;walk_at"T";refine⟨_,(zg (zy (zi Vj (pq 1) (zE zC zB (za (pq 0) zb)) (zk _))  (zd (zj (zq (pq 0) (pq 1))))  zl)  (zd (zj ze))),?_⟩;exists⟨_,.inl ⟨_,hl,rfl⟩,?_⟩;walk_at"r";rw[ae];refine zF (λh=>?_) (λh=>?_)
 .have h:n<ns.length:=by lia
  refine zu hl (zJ (by rw[ai,af h];rfl)) ?_;have e:ns[n]=Wa ns n:=by simp[Wa,h]
  rw[e];exact k
 .have e:Wa ns n=0:=by
   have h:ns.length<=n:=by lia
   simp[Wa,h]
  rw[e]at k;walk_at"r";exact k
def Vt(c:Int):Int:=c%3*999999999999999999999999999999/2
def zav(c:Int):0<=Vt c/\Vt c<xj:=by
 unfold Vt xj
 lia
def zef:Sp:=λvs H Q _=>∃c:Int,vs=[.int c]/\Q (.int (Vt c)) H
def vQ(T:Txt K mg a):Cal P w K mg base "_law_kind_of" 1 ["_law_cell"] [] zef:=T.m8.cal λF=>by
 refine F.okx V6 ?_ ?_
 .walk_at"i"
 walk_at"j";let⟨c,rfl,k⟩:=h;walk_at"T";refine⟨_,(zd (zj (z7 (zo qV (zP (pq 0)) (zo j9 zcF ze))))),?_⟩;left;exact⟨mul_okL (by lia) (by lia),k⟩
def zdy{n j:Nat}{es ks outs es' ks':A7}{bs bs':A1}{y:Int}(h:xB n es ks bs outs es' ks' bs')(hy:ks'[j]?=some y):xB (n+1) es ks bs (outs++[y]) es' (ks'.eraseIdx j) bs':=by
 let⟨h1,h0,nb,h2,h3,h4,h5⟩:=h;have pp:=vz hy;have pl:=pp.length_eq;rw[br]at pl;refine⟨by simp[h1],by lia,nb,h2,h3,h4,?_⟩;refine List.Perm.trans ?_ h5;rw[a9];exact bS _ pp
structure OS(H0 H:Hp)(L E B O:Addr)(bs:A1)(es ks outs:A7):Prop where
 f:Fr [E,B,L] H0 H
 nO:H0 O=none
 nEB:E≠B
 nEL:E≠L
 nBL:B≠L
 nOE:O≠E
 nOB:O≠B
 nOL:O≠L
 hO:H O=some (.lst (iv outs))
 hE:H E=some (.lst (iv es))
 hB:H B=some (.lst (iv ks))
 hL:∃bvs,H L=some (.lst bvs)/\Reps H (Off [E,B,L,O]) bvs (bs.map Zn)
section
variable{H0 H H':Hp}{L E B O:Addr}{bs:A1}{es ks outs:A7}
def OS.same(W:OS H0 H L E B O bs es ks outs)(s:Same H H'):OS H0 H' L E B O bs es ks outs:=by
 let⟨bvs,h1,r1⟩:=W.hL;exact {W with f:=W.f.trans s.fr,hO:=s _ _ W.hO,hE:=s _ _ W.hE,hB:=s _ _ W.hB,hL:=⟨bvs,s _ _ h1,r1.same s⟩}
def OS.setO(W:OS H0 H L E B O bs es ks outs)(outs':A7):OS H0 (upd H O (.lst (iv outs'))) L E B O bs es ks outs':=by
 let⟨bvs,h1,r1⟩:=W.hL;exact {W with f:=λb o nb hb=>by rw[pF (λz=>by rw[z,W.nO]at hb;cases hb)];exact W.f b o nb hb,hO:=pE,hE:=by rw[pF W.nOE.symm];exact W.hE,hB:=by rw[pF W.nOB.symm];exact W.hB,hL:=⟨bvs,by rw[pF W.nOL.symm];exact h1,r1.fr (qx (by simp))⟩}
def OS.setE(W:OS H0 H L E B O bs es ks outs)(es':A7):OS H0 (upd H E (.lst (iv es'))) L E B O bs es' ks outs:=by
 let⟨bvs,h1,r1⟩:=W.hL;exact {W with f:=W.f.trans (qx (by simp)),hO:=by rw[pF W.nOE];exact W.hO,hE:=pE,hB:=by rw[pF W.nEB.symm];exact W.hB,hL:=⟨bvs,by rw[pF W.nEL.symm];exact h1,r1.fr (qx (by simp))⟩}
def OS.setB(W:OS H0 H L E B O bs es ks outs)(ks':A7):OS H0 (upd H B (.lst (iv ks'))) L E B O bs es ks' outs:=by
 let⟨bvs,h1,r1⟩:=W.hL;exact {W with f:=W.f.trans (qx (by simp)),hO:=by rw[pF W.nOB];exact W.hO,hE:=by rw[pF W.nEB];exact W.hE,hB:=pE,hL:=⟨bvs,by rw[pF W.nBL.symm];exact h1,r1.fr (qx (by simp))⟩}
def OS.off(W:OS H0 H L E B O bs es ks outs){t:Addr}(h:H t=none):t∉[E,B,L,O]:=λz=>by
 let⟨bvs,h1,_⟩:=W.hL;simp only[aC,aJ,aY]at z;rcases z with rfl|rfl|rfl|rfl
 .rw[W.hE]at h;cases h
 .rw[W.hB]at h;cases h
 .rw[h1]at h;cases h
 .rw[W.hO]at h;cases h
def OS.addL(W:OS H0 H L E B O bs es ks outs){t:Addr}{rm pc:Int}(ht:H t=none):∃bvs,upd H t (.tup [.int rm,.int pc]) L=some (.lst bvs)/\bvs.length=bs.length/\OS H0 (upd (upd H t (.tup [.int rm,.int pc])) L (.lst (bvs++[.ref t]))) L E B O (bs++[(rm,pc)]) es ks outs:=by
 have nt:=W.off ht;have W1:=W.same (zc (o:=.tup [.int rm,.int pc]) ht);have e1:upd H t (.tup [.int rm,.int pc]) t=some (.tup [.int rm,.int pc]):=pE;generalize upd H t (.tup [.int rm,.int pc])=H1 at W1 e1 ⊢;let⟨bvs,h1,r1⟩:=W1.hL;have f:Fr [E,B,L,O] H1 (upd H1 L (.lst (bvs++[.ref t]))):=qx (by simp);refine⟨bvs,h1,by rw[r1.len,ae],{W1 with f:=W1.f.trans (qx (by simp)),hO:=by rw[pF W.nOL];exact W1.hO,hE:=by rw[pF W.nEL];exact W1.hE,hB:=by rw[pF W.nBL];exact W1.hB,hL:=⟨_,pE,?_⟩}⟩;rw[aZ];exact(r1.fr f).append (.one (Reps.mkT (vs:=[.int rm,.int pc]) (.cons .int (.cons .int .nil)) nt (f _ _ nt e1)))
end
def zhn{A B X Y P R:Prop}[Decidable A][Decidable B](hx:A->X/\Y)(h1:A->B->P)(h2:R):if A then X/\Y/\(if B then P else R)else R:=by
 by_cases a:A
 .rw[aq a];refine⟨(hx a).1,(hx a).2,?_⟩;by_cases b:B
  .rw[aq b];exact h1 a b
  .rw[ao b];exact h2
 .rw[ao a];exact h2
def zfa:Sp:=λvs H Q _=>∃(c:Int)(n:Nat)(L En B:Addr)(es ks:A7)(bvs:Ap)(bs:A1),vs=[.int c,.int n,.ref L,.ref En,.ref B]/\n<=4/\En≠B/\En≠L/\B≠L /\
 H En=some (.lst (iv es))/\H B=some (.lst (iv ks))/\H L=some (.lst bvs)/\Reps H (Off [En,B,L]) bvs (bs.map Zn)/\es.length<=100/\ks.length<=100/\bs.length<=100 /\
 ∀H' O es' ks' bs' outs,OS H H' L En B O bs' es' ks' outs->xB n es ks bs outs es' ks' bs'->Q (.ref O) H'
def vO(T:Txt K mg a):Cal P w K mg base "_law_outs_of" 1 ["_law_cell","_law_many","_law_belts","_law_ends","_law_loops"] [] zfa:=T.m9.cal λF=>by
 refine F.okx V3 ?_ ?_
 .walk_at"i"
 walk_at"j";refine oE5 h λc n L E B p7=>oE4 p7 λes ks bvs bs p8=>oA9 p8 λpj hn nEB nEL nBL hE hB hL pC=>oA5 pC λhR le lk0 lb k=>?_;clear p7 p8 pC h;subst pj;walk_at"T";refine⟨_,(zh (zr 5 V3.nd (zn zb))  (zI (z6 qj rfl (xt (za (pq 1) zb)) (zX 6 V3.nd)  (zd (zy (PW.pt (pw_and (zi xv (zE zC zB (za (pq 4) zb)) ze (zk _)) (pw_and1 (zi (qd hr.units1) (zP (zo xJ (pq 0) (zo zM ze (zo qV ze (pq 6))))) ze (zk _)))))  (zd (zw (qH ap aA az zS (pq 5) (za (zcH ap cJ cI ziH (pq 4)) zb))))  (zh (zw (qH ap aA az zS (pq 2) (za (zT (za (zo zM ze (zP (zo xJ (pq 0) (zo zM ze (zo qV ze (pq 6)))))) (za (zo zM ze (z7 (zP (zo xJ (pq 0) (zo zM ze (pq 6)))))) zb))) zb)))  (zh (zw (qH ap aA az zS (pq 3) (za (zo j9 (zE zC zB (za (pq 2) zb)) ze) zb)))  (zd (zw (qH ap aA az zS (pq 5) (za (zo j9 (zE zC zB (za (pq 2) zb)) ze) zb)))))))))  (zI (zy (zi (qd hr.units1) (zP (z7 (pq 0))) ze (zk _))  (zd (zw (zcH ap eY eX XQ (pq 5))))  zl)  (zd (zj (pq 5)))))),?_⟩;left;intro O hO;have W0:OS H (upd H O (.lst [])) L E B O bs es ks []:=by
  have s:=zc (o:=.lst []) hO;refine⟨s.fr,hO,nEB,nEL,nBL,(pG hE hO).symm,(pG hB hO).symm,(pG hL hO).symm,pE,s _ _ hE,s _ _ hB,bvs,s _ _ hL,(hR.more (ns:=[E,B,L,O]) ?_).same s⟩;intro b hb;simp only[aC,aJ,aY]at hb ⊢;rcases hb with rfl|rfl|rfl|rfl
  .exact .inl (.inl rfl)
  .exact .inl (.inr (.inl rfl))
  .exact .inl (.inr (.inr rfl))
  .exact .inr hO
 generalize upd H O (.lst [])=H1 at W0 ⊢;exists cut (λσ' H'=>∃v6 es' ks' bs' outs,σ'=[some (.int c),some (.int n),some (.ref L),some (.ref E),some (.ref B),some (.ref O),v6]/\OS H H' L E B O bs' es' ks' outs/\xB n es ks bs outs es' ks' bs') ?_ ?_
 .walk_at"c";exists⟨by lia,by lia,?_⟩;refine vK (n:=(n:Int).toNat) (λi σ' H'=>∃v6 es' ks' bs' outs,σ'=[some (.int c),some (.int n),some (.ref L),some (.ref E),some (.ref B),some (.ref O),v6]/\OS H H' L E B O bs' es' ks' outs/\xB i es ks bs outs es' ks' bs')
   ⟨_,es,ks,bs,[],rfl,W0,XD⟩ ?_ ?_
  .clear W0;intro i σ' H' hi p9;refine oE5 p9 λv6 es' ks' bs' outs p7=>oA3 p7 λp8 W hO'=>?_;ext;have hi:i<n:=by simpa using hi
   have ln:=hO'.1;have lk:=hO'.2.1;refine oE1 hO'.2.2 λnb p7=>oA4 p7 λe1 e2 _ pp=>?_;clear p7;have pl:=pp.length_eq;rw[av,av,ZN]at pl;have le':es'.length<=es.length+4:=by rw[e1,av,ZN];lia
   have lb':bs'.length<=bs.length+4:=by rw[e2,av];lia
   clear pl e1 e2 pp;left;simp only[bW];refine⟨_,.inl ⟨_,SqL.of W.hB,rfl⟩,?_⟩;left;rw[zA];refine zhn (λ_=>⟨mul_okL (by decide) (by decide),fd_small (by lia) (by lia)⟩) (λb1 _=>?_) ?_
   .obtain⟨y,hy⟩:∃y,ks'[ks'.length-1]?=some y:=⟨_,af (show ks'.length-1<ks'.length by lia)⟩;refine iA3 (.inl ⟨rfl,_,SqL.of W.hO⟩) (.inl ⟨rfl,_,SqL.of W.hB⟩) (iE3 B (iv ks') (.int y) (iA5 rfl rfl W.hB (by rw[zA];exact xa hy) ?_));rw[show(iv ks').dropLast=iv (ks'.eraseIdx (ks'.length-1)) by rw[iv,iv,<- List.map_dropLast,<- List.eraseIdx_length_sub_one]];have W1:=W.setB (ks'.eraseIdx (ks'.length-1));refine iE3 O (iv outs) _ (iA5 rfl rfl W1.hO (zm (by rw[zA];lia)) ?_);rw[qX];exact iE5 _ es' _ bs' _ (iA3 rfl (W1.setO (outs++[y])) (zdy hO' hy))
   .left;let⟨bv0,hL0,rL0⟩:=W.hL;refine iA5 (.inl ⟨rfl,_,SqL.of hL0⟩) (mul_okL (by decide) (by decide)) (fd_small (by lia) (by lia)) (fd_small (by lia) (by lia)) (λt ht=>?_);have z0:=aU (c.fdiv (11+4*(i:Int))) (show(2:Int)≠0 by decide);have z1:=aP (c.fdiv (11+4*(i:Int))) (show(0:Int)<2 by decide);have z2:=aU (c.fdiv (3+(i:Int))) (show(4:Int)≠0 by decide);have z3:=aP (c.fdiv (3+(i:Int))) (show(0:Int)<4 by decide);refine oE1 (W.addL (rm:=1+c.fdiv (11+4*(i:Int))%2) (pc:=1+c.fdiv (3+(i:Int))%4/3) ht) λbv p7=>oA3 p7 λhL1 lv W1=>?_;clear p7;have hO2:=zfN (b:=(1+c.fdiv (11+4*(i:Int))%2,1+c.fdiv (3+(i:Int))%4/3)) hO' ⟨by lia,by lia,by lia,by lia⟩;refine iE3 L bv _ (iA5 rfl rfl hL1 (zm (by lia)) ?_);have lb2:(bs'++[(1+c.fdiv (11+4*(i:Int))%2,1+c.fdiv (3+(i:Int))%4/3)]).length=bs'.length+1:=by simp
    generalize bs'++[(1+c.fdiv (11+4*(i:Int))%2,1+c.fdiv (3+(i:Int))%4/3)]=bs2 at W1 hO2 lb2;generalize upd (upd H' t _) L _=H2 at W1 ⊢;clear W hL0 rL0 hL1 lv z0 z1 z2 z3 ht;let⟨bv2,hL2,rL2⟩:=W1.hL;have lv2:bv2.length=bs2.length:=by rw[rL2.len,ae]
    exists iA3 (.inl ⟨rfl,_,SqL.of W1.hE⟩) gJ ⟨_,⟨.inl ⟨_,SqL.of hL2,rfl⟩,iE3 E _ _ (iA5 rfl rfl W1.hE (zm (by rw[zA];lia)) ?_)⟩⟩;rw[qX,lv2,show((bs2.length:Nat):Int)-1=(bs'.length:Int) by lia];have W2:=W1.setE (es'++[(bs'.length:Int)]);generalize upd H2 E _=H3 at W2 ⊢;let⟨bv3,hL3,rL3⟩:=W2.hL;have lv3:bv3.length=bs2.length:=by rw[rL3.len,ae]
    exists iA3 (.inl ⟨rfl,_,SqL.of W2.hO⟩) gJ ⟨_,⟨.inl ⟨_,SqL.of hL3,rfl⟩,iE3 O _ _ (iA5 rfl rfl W2.hO (zm (by rw[zA];lia)) ?_)⟩⟩;rw[qX,lv3,show((bs2.length:Nat):Int)-1=(bs'.length:Int) by lia];exact iE5 _ _ ks' bs2 _ (iA3 rfl (W2.setO _) hO2)
  .intro σ' H' p9;refine oE5 p9 λv6 es' ks' bs' outs p7=>oA3 p7 λp8 W hO'=>?_;ext;exact iE5 v6 es' ks' bs' outs (iA3 rfl W (by simpa using hO'))
 intro σ' H' p9;refine oE5 p9 λv6 es' ks' bs' outs p7=>oA3 p7 λp8 W hO'=>?_;ext;exists cut (λσ' H'=>∃outs,σ'=[some (.int c),some (.int n),some (.ref L),some (.ref E),some (.ref B),some (.ref O),v6]/\OS H H' L E B O bs' es' ks' outs/\xB n es ks bs outs es' ks' bs') ?_ ?_
 .left;walk_at"f";exists zF (λb=>?_) (λb=>⟨outs,W,hO'⟩);exists⟨.inl ⟨rfl,_,SqL.of W.hO⟩,iE2 O _ (iA4 rfl rfl W.hO ?_)⟩;rw[zgb];exact⟨outs.reverse,W.setO _,zfL hO'⟩
 intro σ' H2 p9;refine oE1 p9 λouts p7=>oA3 p7 λp8 W hO'=>?_;ext;left;exact k _ O es' ks' bs' outs W hO'
def jm(r:Row):List Int:=match r.wd with
 | .source=>r.pace::r.kinds
 | .drain=>[r.pace]
 | .sieve=>r.kinds
 |_=>[]
noncomputable def jX(r:Row):D:=.tup [.str (wdS r.wd),.ints r.ins,.ints r.outs,.ints (jm r)]
def Z9{t l1 l2 l3:Addr}{r:Row}(nt:p t)(n1:p l1)(n2:p l2)(n3:p l3)(ht:H t=some (.tup [.str (wdS r.wd),.ref l1,.ref l2,.ref l3]))(h1:H l1=some (.lst (iv r.ins)))(h2:H l2=some (.lst (iv r.outs)))(h3:H l3=some (.lst (iv (jm r)))):Rep H p (.ref t) (jX r) :=
 Reps.mkT (.cons .str (.cons (qe n1 h1) (.cons (qe n2 h2) (.cons (qe n3 h3) .nil)))) nt ht
def Qd{t l1 l2 l3:Addr}(r:Row)(n1:H l1=none)(n2:upd H l1 (.lst (iv r.ins)) l2=none)(n3:upd (upd H l1 (.lst (iv r.ins))) l2 (.lst (iv r.outs)) l3=none)(nt:upd (upd (upd H l1 (.lst (iv r.ins))) l2 (.lst (iv r.outs))) l3 (.lst (iv (jm r))) t=none) :
  Same H (upd (upd (upd (upd H l1 (.lst (iv r.ins))) l2 (.lst (iv r.outs))) l3 (.lst (iv (jm r)))) t (.tup [.str (wdS r.wd),.ref l1,.ref l2,.ref l3])) /\
  ∀p:Addr->Prop,(∀b,H b=none->p b)->Rep (upd (upd (upd (upd H l1 (.lst (iv r.ins))) l2 (.lst (iv r.outs))) l3 (.lst (iv (jm r)))) t (.tup [.str (wdS r.wd),.ref l1,.ref l2,.ref l3])) p (.ref t) (jX r):=by
 have s1:=zc (o:=.lst (iv r.ins)) n1;have s2:=zc (o:=.lst (iv r.outs)) n2;have s3:=zc (o:=.lst (iv (jm r))) n3;have s4:=zc (o:=.tup [.str (wdS r.wd),.ref l1,.ref l2,.ref l3]) nt;have s12:=s1.trans s2;have s13:=s12.trans s3;exact⟨s13.trans s4,λp hp=>Z9 (hp _ (zK s13 nt)) (hp _ n1) (hp _ (zK s1 n2)) (hp _ (zK s12 n3)) pE (s4 _ _ (s3 _ _ (s2 _ _ pE))) (s4 _ _ (s3 _ _ pE)) (s4 _ _ pE)⟩
structure GS(H0 H:Hp)(L R E B:Addr)(bs:A1)(rs:At)(es ks:A7):Prop where
 f:Fr (ms4 L R E B) H0 H
 nLR:L≠R
 nLE:L≠E
 nLB:L≠B
 nRE:R≠E
 nRB:R≠B
 nEB:E≠B
 hL:∃bvs,H L=some (.lst bvs)/\Reps H (Off (ms4 L R E B)) bvs (bs.map Zn)
 hR:∃rvs,H R=some (.lst rvs)/\Reps H (Off (ms4 L R E B)) rvs (rs.map jX)
 hE:H E=some (.lst (iv es))
 hB:H B=some (.lst (iv ks))
section
variable{H0 H H':Hp}{L R E B:Addr}{bs bs':A1}{rs:At}{es ks:A7}
def GS.same(w:GS H0 H L R E B bs rs es ks)(s:Same H H'):GS H0 H' L R E B bs rs es ks:=by
 let⟨bvs,h1,r1⟩:=w.hL;let⟨rvs,h2,r2⟩:=w.hR;exact {w with f:=w.f.trans s.fr,hL:=⟨bvs,s _ _ h1,r1.same s⟩,hR:=⟨rvs,s _ _ h2,r2.same s⟩,hE:=s _ _ w.hE,hB:=s _ _ w.hB}
def GS.off(w:GS H0 H L R E B bs rs es ks){x:Addr}(h:H x=none):x∉ms4 L R E B:=by
 intro z;simp only[aC,aJ,aY]at z;let⟨bvs,h1,r1⟩:=w.hL;let⟨rvs,h2,r2⟩:=w.hR;rcases z with rfl|rfl|rfl|rfl
 .rw[h1]at h;cases h
 .rw[h2]at h;cases h
 .rw[w.hE]at h;cases h
 .rw[w.hB]at h;cases h
def GS.setE(w:GS H0 H L R E B bs rs es ks)(es':A7):GS H0 (upd H E (.lst (iv es'))) L R E B bs rs es' ks:=by
 let⟨bvs,h1,r1⟩:=w.hL;let⟨rvs,h2,r2⟩:=w.hR;have f:Fr (ms4 L R E B) H (upd H E (.lst (iv es'))):=qx (by simp);exact {w with f:=w.f.trans f,hL:=⟨bvs,by rw[pF w.nLE];exact h1,r1.fr f⟩,hR:=⟨rvs,by rw[pF w.nRE];exact h2,r2.fr f⟩,hE:=pE,hB:=by rw[pF w.nEB.symm];exact w.hB}
def GS.setB(w:GS H0 H L R E B bs rs es ks)(ks':A7):GS H0 (upd H B (.lst (iv ks'))) L R E B bs rs es ks':=by
 let⟨bvs,h1,r1⟩:=w.hL;let⟨rvs,h2,r2⟩:=w.hR;have f:Fr (ms4 L R E B) H (upd H B (.lst (iv ks'))):=qx (by simp);exact {w with f:=w.f.trans f,hL:=⟨bvs,by rw[pF w.nLB];exact h1,r1.fr f⟩,hR:=⟨rvs,by rw[pF w.nRB];exact h2,r2.fr f⟩,hE:=by rw[pF w.nEB];exact w.hE,hB:=pE}
def GS.addL(w:GS H0 H L R E B bs rs es ks){t:Addr}{rm pc:Int}(ht:H t=none):∃bvs,upd H t (.tup [.int rm,.int pc]) L=some (.lst bvs)/\bvs.length=bs.length /\
  GS H0 (upd (upd H t (.tup [.int rm,.int pc])) L (.lst (bvs++[.ref t]))) L R E B (bs++[(rm,pc)]) rs es ks:=by
 have nt:=w.off ht;have w1:=w.same (zc (o:=.tup [.int rm,.int pc]) ht);have e1:upd H t (.tup [.int rm,.int pc]) t=some (.tup [.int rm,.int pc]):=pE;generalize upd H t (.tup [.int rm,.int pc])=H1 at w1 e1 ⊢;let⟨bvs,h1,r1⟩:=w1.hL;let⟨rvs,h2,r2⟩:=w1.hR;have f:Fr (ms4 L R E B) H1 (upd H1 L (.lst (bvs++[.ref t]))):=qx (by simp);refine⟨bvs,h1,by rw[r1.len,ae],{w1 with f:=w1.f.trans f,hL:=⟨_,pE,?_⟩,hR:=⟨rvs,by rw[pF w.nLR.symm];exact h2,r2.fr f⟩,hE:=by rw[pF w.nLE.symm];exact w1.hE,hB:=by rw[pF w.nLB.symm];exact w1.hB}⟩;rw[aZ];exact(r1.fr f).append (.one (Reps.mkT (vs:=[.int rm,.int pc]) (.cons .int (.cons .int .nil)) nt (f _ _ nt e1)))
def GS.addR(w:GS H0 H L R E B bs rs es ks){t:Addr}{r:Row}(q:Rep H (Off (ms4 L R E B)) (.ref t) (jX r)):∃rvs,H R=some (.lst rvs)/\rvs.length=rs.length/\GS H0 (upd H R (.lst (rvs++[.ref t]))) L R E B bs (rs++[r]) es ks:=by
 let⟨bvs,h1,r1⟩:=w.hL;let⟨rvs,h2,r2⟩:=w.hR;have f:Fr (ms4 L R E B) H (upd H R (.lst (rvs++[.ref t]))):=qx (by simp);refine⟨rvs,h2,by rw[r2.len,ae],{w with f:=w.f.trans f,hL:=⟨bvs,by rw[pF w.nLR];exact h1,r1.fr f⟩,hR:=⟨_,pE,?_⟩,hE:=by rw[pF w.nRE.symm];exact w.hE,hB:=by rw[pF w.nRB.symm];exact w.hB}⟩;rw[aZ];exact(r2.fr f).append (.one (q.fr f))
def GS.lists(w:GS H0 H L R E B bs rs es ks):∀m∈ms4 L R E B,∃xs,H m=some (.lst xs):=λm hm=>by
 let⟨bvs,h1,r1⟩:=w.hL;let⟨rvs,h2,r2⟩:=w.hR;simp only[aC,aJ,aY]at hm;rcases hm with rfl|rfl|rfl|rfl
 .exact⟨_,h1⟩
 .exact⟨_,h2⟩
 .exact⟨_,w.hE⟩
 .exact⟨_,w.hB⟩
def zc2{H H':Hp}(f:Fr [E,B,L] H H'):Fr (ms4 L R E B) H H':=λb o nb hb=>f b o (λz=>nb (by
 simp only[aC,aJ,aY]at z ⊢;rcases z with rfl|rfl|rfl<;>simp)) hb
def GS.outs(w:GS H0 H L R E B bs rs es ks){O:Addr}{es' ks' outs:A7}(W:OS H H' L E B O bs' es' ks' outs):GS H0 H' L R E B bs' rs es' ks'/\O∉ms4 L R E B/\H' O=some (.lst (iv outs)):=by
 let⟨rvs,h2,r2⟩:=w.hR;let⟨bvs,h1,r1⟩:=W.hL;have f:Fr (ms4 L R E B) H H':=zc2 W.f;have hR':=W.f _ _ (show R∉[E,B,L] fromλz=>by
  simp only[aC,aJ,aY]at z;rcases z with z|z|z
  .exact w.nRE z
  .exact w.nRB z
  .exact w.nLR z.symm) h2
 have ls:∀m∈ms4 L R E B,∃xs,H' m=some (.lst xs):=λm hm=>by
  simp only[aC,aJ,aY]at hm;rcases hm with rfl|rfl|rfl|rfl
  .exact⟨_,h1⟩
  .exact⟨_,hR'⟩
  .exact⟨_,W.hE⟩
  .exact⟨_,W.hB⟩
 exact⟨{w with f:=w.f.trans f,hL:=⟨bvs,h1,Vh r1 ls⟩,hR:=⟨rvs,hR',r2.fr f⟩,hE:=W.hE,hB:=W.hB},w.off W.nO,W.hO⟩
def GS.outs0(w:GS H0 H L R E B bs rs es ks){O X:Addr}{es' ks' outs:A7}(hX:H X=none)(W:OS (upd H X (.lst [])) H' L E X O bs' es' ks' outs):GS H0 H' L R E B bs' rs es' ks/\O∉ms4 L R E B/\H' O=some (.lst (iv outs)):=by
 let⟨rvs,h2,r2⟩:=w.hR;let⟨bvs,h1,r1⟩:=W.hL;have s:=zc (o:=.lst []) hX;have nX:=w.off hX;have f:Fr (ms4 L R E B) H H':=λb o nb hb=>W.f b o (λz=>by
  simp only[aC,aJ,aY]at z nb;rcases z with rfl|rfl|rfl
  .simp at nb
  .rw[hb]at hX;cases hX
  .simp at nb) (s _ _ hb)
 have keep:∀{b:Addr}{o:HO},b≠E->b≠L->H b=some o->H' b=some o:=λ{b o} a1 a2 hb=>W.f b o (λz=>by
  simp only[aC,aJ,aY]at z;rcases z with rfl|rfl|rfl
  .exact a1 rfl
  .rw[hb]at hX;cases hX
  .exact a2 rfl) (s _ _ hb)
 have hR':=keep w.nRE w.nLR.symm h2;have hB':=keep w.nEB.symm w.nLB.symm w.hB;have ls:∀m∈ms4 L R E B,∃xs,H' m=some (.lst xs):=λm hm=>by
  simp only[aC,aJ,aY]at hm;rcases hm with rfl|rfl|rfl|rfl
  .exact⟨_,h1⟩
  .exact⟨_,hR'⟩
  .exact⟨_,W.hE⟩
  .exact⟨_,hB'⟩
 exact⟨{w with f:=w.f.trans f,hL:=⟨bvs,h1,Vh r1 ls⟩,hR:=⟨rvs,hR',r2.fr f⟩,hE:=W.hE,hB:=hB'},(w.same s).off W.nO,W.hO⟩
end
def QT{n:Nat}{es ks outs es' ks':A7}{bs bs':A1}(h:xB n es ks bs outs es' ks' bs'):∃m,es'.length=es.length+m/\bs'.length=bs.length+m/\n+ks'.length=ks.length+m/\ks'.length<=ks.length/\outs.length=n:=by
 let⟨h1,h0,nb,h2,h3,h4,h5⟩:=h;have pl:=h5.length_eq;rw[av,av,ZN,h1]at pl;exact⟨nb.length,by rw[h2,av,ZN],by rw[h3,av],pl,h0,h1⟩
def zfM{n:Nat}{es ks outs es' ks':A7}{bs bs':A1}(h:xB n es [] bs outs es' ks' bs'):xB n es ks bs outs es' ks bs':=by
 let⟨h1,h0,nb,h2,h3,h4,h5⟩:=h;have:ks'=[]:=b9.mp (Nat.le_zero.mp h0);subst this;refine⟨h1,ar _,nb,h2,h3,h4,?_⟩;simp only[cc,nil_append]at h5;exact(bc _ h5).trans eT
def WInv.loop{rs:At}{es ks:A7}{b:Int×Int}(h:WInv bs rs es ks)(hb:zH b.1 b.2):WInv (bs++[b]) rs (es++[(bs.length:Int)]) (ks++[(bs.length:Int)]):=by
 refine⟨?_,?_,h.ro,λx hx=>?_⟩
 .rw[av,bw,zbk,<- a9];exact bc _ h.tk
 .rw[av,bw,zbk,<- a9];exact bc _ h.fd
 .rcases ax.mp hx with hx|hx
  .exact h.bo x hx
  .rw[ak.mp hx];exact hb
abbrev gPs:List Str:=["_law_cell","_law_belts","_law_knots","_law_ends","_law_loops"]
inductive spJoined(vs:Ap)(H:Hp)(Q:VK)(E:XK):Prop
 |i (c:Int) (L R En B:Addr) (bs:A1) (rs:At) (es ks:A7):vs=[.int c,.ref L,.ref R,.ref En,.ref B]->GS H H L R En B bs rs es ks->WInv bs rs es ks->1<=es.length->(c%8=5\/2<=es.length)->bs.length<=24->rs.length+es.length+ks.length<=24->(∀H' bs' rs' es' ks',GS H H' L R En B bs' rs' es' ks'->WInv bs' rs' es' ks'->bs.length<=bs'.length->(c%8≠5->bs'.length<=bs.length+1/\rs'.length+es'.length+ks'.length<=rs.length+es.length+ks.length)->(c%8=5->bs'.length<=bs.length+2/\rs'.length+es'.length+ks'.length<=rs.length+es.length+ks.length+2)->Q .non H')->spJoined vs H Q E
def zdf(T:Txt K mg a):Cal P w K mg base "_law_joined" 2 gPs [] spJoined:=T.n6.cal λF=>by
 refine F.okx zbf ?_ ?_
 .walk_at"i"
 walk_at"j";rcases h with⟨c,L,R,E,B,bs,rs,es,ks,rfl,W,I0,e1,e2,b24,l24,k⟩;walk_at"T";refine⟨_,(zh (zr 5 zbf.nd (zn (za (qH ap cJ cI XR (pq 3) (za (zo qD (z7 (pq 0)) (zE zC zB (za (pq 3) zb))) zb)) zb)))  (zI (zy (zi (qd hr.units1) (zP (pq 0)) ze (zk _))  (zh (zw (qH ap aA az zS (pq 1) (za (zT (za (zo zM ze (zP (z7 (pq 0)))) (za ze zb))) zb)))  (zh (zw (qH ap aA az zS (pq 4) (za (zo j9 (zE zC zB (za (pq 1) zb)) ze) zb)))  (zd (zw (qH ap aA az zS (pq 5) (za (zo j9 (zE zC zB (za (pq 1) zb)) ze) zb))))))  (zd (z6 qj rfl (xt (za (zo zM ze (zP (z7 (pq 0)))) zb)) (zX 6 zbf.nd)  (zd (zy (zi xv (zE zC zB (za (pq 3) zb)) ze (zk _))  (zd (zw (qH ap aA az zS (pq 5) (za (qH ap cJ cI XR (pq 3) (za (zo qD (zo xJ (pq 0) (zo zM ze (pq 6))) (zE zC zB (za (pq 3) zb))) zb)) zb))))  zl)))))  (zI (zy (zi (qd hr.units1) (zP (z7 (pq 0))) ze (zk _))  (zd (zw (zcH ap eY eX XQ (pq 5))))  zl)  (zd (zw (qH ap aA az zS (pq 2) (za (zT (za z9 (za (pq 5) (za ‹(pq 0) (za ze (za (pq 1) (za (pq 3) (za (pq 4) zb))))› (za (zn zb) zb))))) zb))))))),?_⟩;exists iA3 (.inl ⟨rfl,_,SqL.of W.hE⟩) gJ ⟨_,⟨.inl ⟨_,SqL.of W.hE,rfl⟩,?_⟩⟩;rw[zA];have el:(0:Int)<es.length:=by lia
 refine⟨el,?_⟩;have v0:=aU (c/9) (show(es.length:Int)≠0 by lia);have v1:=aP (c/9) el;generalize c/9%(es.length:Int)=jj at v0 v1 ⊢;let⟨y,hy⟩:∃y,es[jj.toNat]?=some y:=⟨es[jj.toNat]'(by lia),af _⟩;refine iE5 E (iv es) jj jj.toNat (.int y) (iA8 rfl rfl W.hE (by lia) (by lia) (Xz v0 (by rw[zA];exact v1)) (xa hy) ?_);rw[X0];have W1:=W.setE (es.eraseIdx jj.toNat);have pp:=vz hy;have pl:=pp.length_eq;rw[br]at pl;generalize upd H E (.lst (iv (es.eraseIdx jj.toNat)))=H1 at W1 ⊢;generalize es.eraseIdx jj.toNat=es1 at pp pl W1 ⊢;intro I hI;have nI:=W1.off hI;have W2:GS H (del (upd H1 I (.lst [.int y])) I) L R E B bs rs es1 ks:=by rw[zhu hI];exact W1
 have hI2:upd H1 I (.lst [.int y]) I=some (.lst (iv [y])):=pE;have nIE:E≠I:=λz=>nI (by rw[<- z];simp);have nIL:L≠I:=λz=>nI (by rw[<- z];simp);have nIB:B≠I:=λz=>nI (by rw[<- z];simp);have nIR:R≠I:=λz=>nI (by rw[<- z];simp);generalize upd H1 I (.lst [.int y])=H2 at W2 hI2 ⊢;clear hI W1;exists cut (λσ' H'=>∃v6 bs1 ins es2 ks2,∃esV:List Int,σ'=[some (.int c),some (.ref L),some (.ref R),some (.ref E),some (.ref B),some (.ref I),v6]/\GS H (del H' I) L R E B bs1 rs es2 ks2/\H' I=some (.lst (iv ins))/\WInv bs1 rs esV ks2/\(ins++es2).Perm esV/\2<=ins.length/\ins.length<=4 /\
  (c%8≠5->bs1.length=bs.length/\esV.length=es.length/\ks2.length=ks.length)/\(c%8=5->bs1.length=bs.length+1/\esV.length=es.length+1/\ks2.length=ks.length+1)) ?_ ?_
 .exists zF (λb=>?_) (λb=>?_)
  .left;let⟨bv0,hL0,rL0⟩:=W2.hL;refine⟨.inl ⟨rfl,_,SqL.of (jW _ _ hL0)⟩,λt ht=>?_⟩;have z0:=aU (c/17) (show(2:Int)≠0 by decide);have z1:=aP (c/17) (show(0:Int)<2 by decide);have nT:t≠I:=(pG hI2 ht).symm;let⟨bv,hL1,lv,W3⟩:=W2.addL (t:=t) (rm:=1+c/17%2) (pc:=1) (by rw[zc8 nT];exact ht);rw[<- X6 nT,<- X6 nIL]at W3;have I1:=I0.loop (b:=(1+c/17%2,1)) ⟨by lia,by lia,by lia,by lia⟩;rw[<- X6 nT]at hL1;refine iE3 L bv _ (iA5 rfl rfl (jW _ _ hL1) (zm (by lia)) ?_);have hI3:upd (upd H2 t (.tup [.int (1+c/17%2),.int (1)])) L (.lst (bv++[.ref t])) I=some (.lst (iv [y])):=by rw[pF nIL.symm,pF nT.symm];exact hI2
   generalize upd (upd H2 t _) L _=H3 at W3 hI3 ⊢;have lb2:(bs++[(1+c/17%2,1)]).length=bs.length+1:=by simp
   generalize bs++[(1+c/17%2,1)]=bs2 at W3 I1 lb2;clear W2 hL0 rL0 hL1 lv z0 z1 ht hI2;let⟨bv2,hL2,rL2⟩:=W3.hL;have lv2:bv2.length=bs2.length:=by rw[rL2.len,ae]
   exists iA3 (.inl ⟨rfl,_,SqL.of (jW _ _ W3.hB)⟩) gJ ⟨_,⟨.inl ⟨_,SqL.of (jW _ _ hL2),rfl⟩,iE3 B _ _ (iA5 rfl rfl (jW _ _ W3.hB) (zm (by rw[zA];lia)) ?_)⟩⟩;rw[qX,lv2,show((bs2.length:Nat):Int)-1=(bs.length:Int) by lia];have W4:=W3.setB (ks++[(bs.length:Int)]);rw[<- X6 nIB]at W4;have hI4:upd H3 B (.lst (iv (ks++[(bs.length:Int)]))) I=some (.lst (iv [y])):=by rw[pF nIB.symm];exact hI3
   generalize upd H3 B _=H4 at W4 hI4 ⊢;let⟨bv3,hL3,rL3⟩:=W4.hL;have lv3:bv3.length=bs2.length:=by rw[rL3.len,ae]
   exists iA3 (.inl ⟨rfl,_,SqL.of hI4⟩) gJ ⟨_,⟨.inl ⟨_,SqL.of (jW _ _ hL3),rfl⟩,iE3 I _ _ (iA5 rfl rfl hI4 (zm (by rw[zA];show 1<=1000;decide)) ?_)⟩⟩;rw[qX,lv3,show((bs2.length:Nat):Int)-1=(bs.length:Int) by lia];refine iE6 _ bs2 ([y]++[(bs.length:Int)]) es1 _ _ (iA9 rfl (by rw[zc7];exact W4) pE I1 ?_ (by simp) (by simp) (λz=>absurd b z) (λ_=>⟨lb2,by simp,by simp⟩));rw[a9];exact(bS [y] eT).trans (bc _ pp)
  .left;walk_at"c";left;have z0:=aU (c/8) (show(2:Int)≠0 by decide);have z1:=aP (c/8) (show(0:Int)<2 by decide);generalize c/8%2=mm at z0 z1 ⊢;refine⟨by lia,by lia,?_⟩;have e2:2<=es.length:=e2.resolve_left b;refine vK (n:=(1+mm).toNat) (λi σ' H'=>∃v6 ins es2,σ'=[some (.int c),some (.ref L),some (.ref R),some (.ref E),some (.ref B),some (.ref I),v6]/\GS H (del H' I) L R E B bs rs es2 ks/\H' I=some (.lst (iv ins))/\(ins++es2).Perm es/\1<=ins.length/\ins.length<=1+i/\(1<=i->2<=ins.length)) (iE3 _ ([y]) es1 (iA7 rfl W2 hI2 pp (ar _) (ar _) (λz=>absurd z (by decide)))) ?_ ?_
   .clear W2 hI2 pp pl;intro i σ' H3 hi p9;refine oE3 p9 λv6 ins es2 p7=>oA7 p7 λp8 W3 hI3 p3 i1 ii i2=>?_;ext;have pl:=p3.length_eq;rw[av]at pl;have hE3:=jW _ _ W3.hE;left;simp only[bW];refine⟨_,.inl ⟨_,SqL.of hE3,rfl⟩,?_⟩;rw[zA];refine zF (λq=>?_) (λq=>(iE3 _ ins es2 (iA7 rfl W3 hI3 p3 i1 (by lia) (λ_=>by lia))));refine iA5 (.inl ⟨rfl,_,SqL.of hI3⟩) (.inl ⟨rfl,_,SqL.of hE3⟩) (fd_small (by lia) (by lia)) gJ ⟨_,⟨.inl ⟨_,SqL.of hE3,rfl⟩,?_⟩⟩;rw[zA];refine⟨q,?_⟩;have v0:=aU (c.fdiv (10+(i:Int))) (show(es2.length:Int)≠0 by lia);have v1:=aP (c.fdiv (10+(i:Int))) q;generalize c.fdiv (10+(i:Int))%(es2.length:Int)=jj at v0 v1 ⊢;let⟨y2,hy⟩:∃y,es2[jj.toNat]?=some y:=⟨es2[jj.toNat]'(by lia),af _⟩;refine iE5 E (iv es2) jj jj.toNat (.int y2) (iA8 rfl rfl hE3 (by lia) (by lia) (Xz v0 (by rw[zA];exact v1)) (xa hy) ?_);rw[X0];have W5:=W3.setE (es2.eraseIdx jj.toNat);rw[<- X6 nIE]at W5;have p5:=vz hy;have hI5:upd H3 E (.lst (iv (es2.eraseIdx jj.toNat))) I=some (.lst (iv ins)):=by rw[pF nIE.symm];exact hI3
    generalize upd H3 E (.lst (iv (es2.eraseIdx jj.toNat)))=H4 at W5 hI5 ⊢;generalize es2.eraseIdx jj.toNat=es3 at p5 W5 ⊢;refine iE3 I _ _ (iA5 rfl rfl hI5 (zm (by rw[zA];lia)) ?_);rw[qX];refine iE3 _ (ins++[y2]) es3 (iA7 rfl (by rw[zc7];exact W5) pE ?_ (by simp) (by simp;lia) (λ_=>by simp;lia));rw[a9];exact(bS _ p5).trans p3
   .intro σ' H3 p9;refine oE3 p9 λv6 ins es2 p7=>oA7 p7 λp8 W3 hI3 p3 i1 ii i2=>?_;ext;exact iE6 v6 bs ins es2 ks es (iA9 rfl W3 hI3 I0 p3 (i2 (by lia)) (by lia) (λ_=>⟨rfl,rfl,rfl⟩) (λz=>absurd z b))
 intro σ' H3 p9;refine oE6 p9 λv6 bs1 ins es2 ks2 esV p7=>oA9 p7 λp8 W3 hI3 I3 p3 i2 i4 q1 q2=>?_;ext;clear W2 hI2 pp pl W;exists cut (λσ' H'=>∃ins,σ'=[some (.int c),some (.ref L),some (.ref R),some (.ref E),some (.ref B),some (.ref I),v6]/\GS H (del H' I) L R E B bs1 rs es2 ks2/\H' I=some (.lst (iv ins))/\(ins++es2).Perm esV/\2<=ins.length/\ins.length<=4) ?_ ?_
 .left;walk_at"f";exists zF (λb=>?_) (λb=>⟨ins,iA5 W3 hI3 p3 i2 i4⟩);exists⟨.inl ⟨rfl,_,SqL.of hI3⟩,iE2 I _ (iA4 rfl rfl hI3 ?_)⟩;rw[zgb];exact⟨ins.reverse,iA5 (by rw[zc7];exact W3) pE ((bc _ (List.reverse_perm _)).trans p3) (by rw[cP];exact i2) (by rw[cP];exact i4)⟩
 clear W3 hI3 p3 i2 i4;intro σ' H4 p9;refine oE1 p9 λins p7=>oA6 p7 λp8 W3 hI3 p3 i2 i4=>?_;ext;have pl:=p3.length_eq;rw[av]at pl;have W4:=W3.same jW;let⟨bv,hL4,rL4⟩:=W4.hL;let⟨rv,hR4,rR4⟩:=W4.hR;have nE:1<=es.length:=e1;exists⟨.inl ⟨rfl,_,SqL.of hR4⟩,iE3 _ _ _ ⟨(vO T).mono,?_⟩⟩;refine iE5 c 1 L E B (iE4 es2 ks2 bv bs1 (iA9 rfl (by decide) W4.nEB W4.nLE.symm W4.nLB.symm W4.hE W4.hB hL4 (iA5 (rL4.more (by intro b hb;left;simp only[aC,aJ,aY]at hb ⊢;rcases hb with h|h|h<;>simp[h])) (by lia) (by lia) (by lia) ?_)));intro H5 O es5 ks5 bs5 outs WO oR;let⟨W5,nO,hO5⟩:=W4.outs WO;have hI5:H5 I=some (.lst (iv ins)):=zc2 (R:=R) WO.f _ _ nI hI3;refine oE1 (QT oR) λm p7=>oA5 p7 λn1 n2 n3 n4 n5=>?_;clear p7;intro p hp t ht;have s6:=(zc (o:=.lst []) hp).trans (zc (o:=.tup [.str "joiner",.ref I,.ref O,.ref p]) ht);have W6:=W5.same s6;have q:=Z9 (p:=Off (ms4 L R E B)) (r:=⟨.joiner,ins,outs,0,[]⟩) (W5.off (zx ht)) nI nO (W5.off hp) (pE (H:=upd H5 p (.lst []))) (s6 _ _ hI5) (s6 _ _ hO5) (pH pE ht);refine oE1 (W6.addR q) λrv6 p7=>oA3 p7 λhR6 lr6 W7=>?_;clear p7;refine iE3 R rv6 _ (iA5 rfl rfl hR6 (zm (by lia)) (k _ bs5 _ es5 ks5 W7 (wY (r:=⟨.joiner,ins,outs,0,[]⟩) I3 p3 oR ⟨bN.mp n5,i2,i4⟩) ?_ (λz=>?_) (λz=>?_)))
 .by_cases z:c%8=5
  .have:=q2 z;lia
  .have:=q1 z;lia
 .have:=q1 z;rw[av,bw]
  lia
 .have:=q2 z;rw[av,bw]
  lia
def zay{A C P G:Prop}[Decidable A](p:A\/C->P)(g:¬A->(C->P)->G):if A then P else G:=by
 by_cases a:A
 .rw[aq a];exact p (.inl a)
 .rw[ao a];exact g a λc=>p (.inr c)
def zh7{A D A2 B2 D2 P Z m:Prop}{B L:Nat->Prop}[Decidable A][∀n,Decidable (B n)][Decidable D][Decidable A2][Decidable B2][Decidable D2](hm:m)(n:Nat)(hl:L n)(p:(A/\B n/\D)\/(A2/\B2/\D2)->P)(z:Z) :
  if A then m/\∃n,L n/\(if B n then(if D then P else if A2 then(if B2 then(if D2 then P else Z)else Z)else Z)else if A2 then(if B2 then(if D2 then P else Z)else Z)else Z)else if A2 then(if B2 then(if D2 then P else Z)else Z)else Z:=by
 have y:if A2 then(if B2 then(if D2 then P else Z)else Z)else Z:=by
  by_cases a:A2
  .rw[aq a];by_cases b:B2
   .rw[aq b];by_cases d:D2
    .rw[aq d];exact p (.inr ⟨a,b,d⟩)
    .rw[ao d];exact z
   .rw[ao b];exact z
  .rw[ao a];exact z
 by_cases a:A
 .rw[aq a];refine⟨hm,n,hl,?_⟩;by_cases b:B n
  .rw[aq b];by_cases d:D
   .rw[aq d];exact p (.inl ⟨a,b,d⟩)
   .rw[ao d];exact y
  .rw[ao b];exact y
 .rw[ao a];exact y
def zid:Sp:=λvs H Q _=>∃(c:Int)(L R En B:Addr)(bs:A1)(rs:At)(es ks:A7),vs=[.int c,.ref L,.ref R,.ref En,.ref B]/\GS H H L R En B bs rs es ks/\WInv bs rs es ks/\bs.length<=24/\rs.length+es.length+ks.length<=24 /\
 ∀H' bs' rs' es' ks',GS H H' L R En B bs' rs' es' ks'->WInv bs' rs' es' ks'->bs'.length<=24->rs'.length+es'.length+ks'.length<=24->bs.length<=bs'.length->(rs.length+es.length+ks.length=0->bs.length=0->1<=bs'.length)->Q .non H'
theorem zgw(T:Txt K mg a):Cal P w K mg base "_law_step" 3 gPs [] zid:=T.oJ.cal λF=>by
 refine F.okx zej ?_ ?_
 .walk_at"i"
 walk_at"j";refine oE5 h λc L R E B p7=>oE4 p7 λbs rs es ks p8=>oA6 p8 λpj W I0 b24 l24 k=>?_;clear p7 p8 h;subst pj;let⟨bv,hL,rL⟩:=W.hL;let⟨rv,hR,rR⟩:=W.hR;have lL:bv.length=bs.length:=by rw[rL.len,ae]
 have lR:rv.length=rs.length:=by rw[rR.len,ae]
 walk_at"T";refine⟨_,(zh (zr 5 zej.nd (zo j9 (zo j9 (zo j9 ze (zE zC zB (za (pq 2) zb))) (zE zC zB (za (pq 3) zb))) (zE zC zB (za (pq 4) zb))))  (zh (zr 6 zej.nd (zo j9 ze (zE zC zB (za (pq 1) zb))))  (zh (zr 7 zej.nd (zP (pq 0)))  (zh (zr 8 zej.nd (zo zM ze (z7 (zP (z7 (pq 0))))))  (zI (zy (zi (qd hr.units1) (pq 7) ze (zk _))  (zd (zr 8 zej.nd ze))  zl)  (zd (zy (PW.pt (pw_or (zi (qd hr.units1) (pq 7) ze (zk _)) (pw_or1 (zi (qd hr.units1) (zE zC zB (za (pq 3) zb)) ze (zk _)))))  (zd (zy (PW.pt (pw_and (zi xv (pq 5) ze (zk _)) (pw_and1 (zi xv (pq 6) ze (zk _)))))  (zh (zr 9 zej.nd ‹(pq 0) (za ze (za (pq 1) (za (pq 3) (za (zn zb) zb))))›)  (zh (Z7 (i:=10) zej.nd rfl (Or.inl rfl) (vars:=["_law_k"]) (caps:=[0]) (N:=["_law_k","_law_cell"]) (ON:=["_law_cell","_law_belts","_law_knots","_law_ends","_law_loops","_law_left","_law_room","_law_way","_law_many","_law_outs","_law_kinds","_law_ins"]) (osc:=zf Xt) rfl rfl (by right) rfl rfl (xt (za (zo zM ze (zP (z7 (pq 0)))) zb)) (λ_ _ _ _=>(zX 0 (show(["_law_k","_law_cell"]:A9).Nodup from by symm))) (λ_ _ _ _=>z8) (λ_ _ _ _=>(vA hr (za (zo xJ (pq 1) (zo zM ze (pq 0))) zb))))  (zd (zw (qH ap aA az zS (pq 2) (za (zT (za z9 (za (zn zb) (za (pq 9) (za (zo zM (zn (za (zq (zn (za ze (za ze (za ze (za ze zb))))) (zP (z7 (pq 0)))) zb)) (pq 10)) zb))))) zb))))))  zl))  (zd (zy (PW.pt (pw_or (PW.pt (pw_and (zi (qd hr.units1) (pq 7) ze (zk _)) (pw_and (zi xv (zE zC zB (za (pq 3) zb)) ze (zk _)) (pw_and1 (zi xv (pq 6) ze (zk _)))))) (pw_or1 (PW.pt (pw_and (zi (qd hr.units1) (pq 7) ze (zk _)) (pw_and (zi xv (pq 5) ze (zk _)) (pw_and1 (zi xv (pq 6) ze (zk _)))))))))  (zd (zw ‹(pq 0) (za (pq 1) (za (pq 2) (za (pq 3) (za (pq 4) zb))))›))  (zd (zy (PW.pt (pw_and (zi zfP (pq 7) (zT (za ze (za ze zb))) (by with_unfolding_all rfl)) (pw_and (zi zhX (pq 5) (pq 8) (zk _)) (pw_and1 (zi zhX (pq 6) (pq 8) (zk _))))))  (zh (zr 11 zej.nd (zn (za (qH ap cJ cI XR (pq 3) (za (zo qD (z7 (pq 0)) (zE zC zB (za (pq 3) zb))) zb)) zb)))  (zh (zr 9 zej.nd ‹(pq 0) (za (pq 8) (za (pq 1) (za (pq 3) (za (pq 4) zb))))›)  (zd (zy (zi (qd hr.units1) (pq 7) ze (zk _))  (zd (zw (qH ap aA az zS (pq 2) (za (zT (za z9 (za (pq 11) (za (pq 9) (za (zn (za ‹(z7 (pq 0)) zb› zb)) zb))))) zb))))  (zd (zy (PW.pt (pw_or (zi (qd hr.units1) (pq 7) ze (zk _)) (pw_or1 (zi (qd hr.units1) (pq 7) ze (zk _)))))  (zd (zw (qH ap aA az zS (pq 2) (za (zT (za z9 (za (pq 11) (za (pq 9) (za (zn zb) zb))))) zb))))  (zd (zw (qH ap aA az zS (pq 2) (za (zT (za z9 (za (pq 11) (za (pq 9) (za (zn zb) zb))))) zb))))))))))  zl))))))))))),?_⟩;exists⟨_,iA3 (.inl ⟨_,SqL.of hR,rfl⟩) gJ ⟨_,iA3 (.inl ⟨_,SqL.of W.hE,rfl⟩) gJ ⟨_,⟨.inl ⟨_,SqL.of W.hB,rfl⟩,?_⟩⟩⟩⟩;rw[lR,zA,zA];exists⟨_,.inl ⟨_,SqL.of hL,rfl⟩,?_⟩;rw[lL];left;have z0:=aU (c/8) (show(4:Int)≠0 by decide);have z1:=aP (c/8) (show(0:Int)<4 by decide);let⟨mn,emn⟩:∃m:Nat,2+c/8%4/3=(m:Int):=⟨(2+c/8%4/3).toNat,by lia⟩;rw[emn];exists cut (λσ' H'=>∃n:Nat,σ'=[some (.int c),some (.ref L),some (.ref R),some (.ref E),some (.ref B),some (.int (8-rs.length-es.length-ks.length)),some (.int (7-bs.length)),some (.int (c%8)),some (.int n),none,none,none]/\H'=H/\2<=n/\n<=4/\(c%8=3->n=2)) ?_ ?_
 .exists zF (λb=>?_) (λb=>?_)
  .left;exact⟨2,iA4 rfl (by decide) (by decide) (λ_=>rfl)⟩
  .exact⟨mn,iA4 rfl (by lia) (by lia) (λz=>absurd z b)⟩
 intro σ' H' p9;refine oE1 p9 λn p7=>oA5 p7 λp8 pj n2 n4 n3=>?_;clear p7 p9;subst p8 pj;have stay:1<=rs.length+es.length+ks.length\/1<=bs.length->Q .non H':=λz=>k H' bs rs es ks W I0 b24 l24 (ar _) (λ_ _=>by lia);exists zay (C:=es.length=0) (λz=>zF (λleft=>zF (λroom=>?_) (λ_=>stay (by lia))) (λ_=>stay (by lia))) (λa0 hp=>⟨gJ,⟨_,⟨.inl ⟨_,SqL.of W.hE,rfl⟩,?_⟩⟩⟩)
 .exists uc (vO T).mono (λX hX=>?_);have sX:=zc (o:=.lst []) hX;refine iE5 c 1 L E X (iE4 es ([]) bv bs (iA9 rfl (by decide) (pG W.hE hX) W.nLE.symm ((pG hL hX).symm) (sX _ _ W.hE) pE (sX _ _ hL) (iA5 ((rL.more (ns:=[E,X,L]) ?_).same sX) (by lia) (by simp) (by lia) ?_)))
  .intro b hb;simp only[aC,aJ,aY]at hb ⊢;rcases hb with rfl|rfl|rfl
   .exact .inl (by simp)
   .exact .inr hX
   .exact .inl (by simp)
  intro H2 O es2 ks2 bs2 outs WO oR;let⟨W2,nO,hO2⟩:=W.outs0 hX WO;have oR:=zfM (ks:=ks) oR;refine oE1 (QT oR) λm p7=>oA5 p7 λn1 n2' n3' n4' n5=>?_;clear p7;clear WO sX hX;let⟨rv2,hR2,rR2⟩:=W2.hR;left;walk_at"d";exists⟨by lia,by lia,λ_ _ _ _ KO nK=>?_⟩;refine vK (n:=(1+c/32%2).toNat) (λq σ H'=>∃(v0:Aq)(kd:A7),σ=[v0,some (.int c)]/\Same H2 H'/\H' KO=some (.lst (iv kd))/\kd.length=q/\ww kd) (iE2 _ ([]) (iA5 rfl (zc nK) pE rfl (λ_ z=>nomatch z))) ?_ ?_
  .intro q σ H3 hq p9;refine oE2 p9 λv0 kd p7=>oA5 p7 λp8 s3 ha lk kk=>?_;ext;simp only[bW];exists uc (vQ T).mono ⟨fd_small (by lia) (by lia),⟨_,⟨rfl,?_⟩⟩⟩;exact⟨_,ha,zm (by rw[zA];lia),_,kd++[_],rfl,(λb o hb=>by rw[pF (pG hb nK)];exact s3 b o hb),by rw[pE,qX],by simp[lk],λn hn=>by
    rcases ax.mp hn with hn|hn
    .exact kk n hn
    .rw[ak.mp hn];exact zav _⟩
  intro σ H3 p9;refine oE2 p9 λv0 kd p7=>oA5 p7 λp8 s3 hK lk kk=>?_;ext;exists⟨.inl ⟨rfl,_,SqL.of (s3 _ _ hR2)⟩,λp1 h1 p2 h2=>?_⟩;let⟨pc,hpc,epc⟩:∃x∈[(1:Int),2,4,1],atI (iv [1,2,4,1]) (c/8%4)=some (.int x):=by
   let⟨j,e,hj⟩:∃j:Nat,c/8%4=j/\j<[(1:Int),2,4,1].length:=⟨(c/8%4).toNat,by lia,by show _<4;lia⟩;rw[e];exact⟨_,cr hj,zJ (xa (af hj))⟩
  have pb:1<=pc/\pc<=4:=by
   simp only[aC,aJ,aY]at hpc
   lia
  have s4:=(zc (o:=.lst []) h1).trans (zc (o:=.lst (iv [1,2,4,1])) h2);have g1:=pH (o:=.lst (iv [1,2,4,1])) (pE (H:=H3) (a:=p1) (o:=.lst [])) h2;refine zu (SqL.of pE) epc λp3 h3=>?_;have s5:=s4.trans (zc (o:=.lst [.int pc]) h3);have g3:=pH (o:=.lst [.int pc]) g1 h3;refine jN (SqL.of pE) (SqL.of (s5 _ _ hK)) (qN (by rw[zA];simp;lia)) λq hq=>?_;intro t ht;have s25:=s3.trans s5;have s6:=(zc (o:=.lst ([.int pc]++iv kd)) hq).trans (zc (o:=.tup [.str "source",.ref p1,.ref O,.ref q]) ht);have s26:=s25.trans s6;have W6:=W2.same s26;have nq:=(W2.same s25).off hq;have nt:=(W2.same s25).off (zx ht);have qq:=Z9 (p:=Off (ms4 L R E B)) (r:=⟨.source,[],outs,pc,kd⟩) nt ((W2.same s3).off h1) nO nq pE (s6 _ _ g3) (s26 _ _ hO2) (pH pE ht);refine oE1 (W6.addR qq) λrv6 p7=>oA3 p7 λhR6 lr6 W7=>?_;clear p7;refine iE3 R rv6 _ (iA5 rfl rfl hR6 (zm (by lia)) (k _ bs2 _ es2 ks W7 (wY (r:=⟨.source,[],outs,pc,kd⟩) I0 (bD _) oR (iA7 rfl (bN.mp n5) pb.1 pb.2 (by show 1<=kd.length;lia) (by show kd.length<=6;lia) kk)) (by lia) ?_ (by lia) (λ_ _=>by lia)));rw[av,bw]
  lia
 rw[zA];refine zF (λq=>hp (by lia)) (λq=>?_);clear hp;have e1:1<=es.length:=by lia
 refine zh7 gJ _ (.inl ⟨_,SqL.of W.hE,rfl⟩) (λz=>?_) ?_
 .exists uc (zdf T).mono (spJoined.i c L R E B bs rs es ks rfl W I0 e1 ?_ b24 l24 (λH2 bs2 rs2 es2 ks2 W2 I2 lb q1 q2=>k H2 bs2 rs2 es2 ks2 W2 I2 ?_ ?_ lb (λ_ _=>by lia)))
  .rw[zA]at z;lia
  .by_cases h5:c%8=5
   .have:=q2 h5;lia
   .have:=q1 h5;lia
  .by_cases h5:c%8=5
   .have:=q2 h5;lia
   .have:=q1 h5;lia
 left;intro tp htp;have sT:=zc (o:=.tup [.int 4,.int 5]) htp;have W1:=W.same sT;refine iE2 tp _ (iA5 rfl (.inr (SqT.of pE)) rfl rfl ?_);generalize upd H' tp (.tup [.int 4,.int 5])=H1 at sT W1 ⊢;have stay1:Q .non H1:=k H1 bs rs es ks W1 I0 b24 l24 (ar _) (λ_ _=>by lia)
 first
  |refine zF (λw45=>zF (λleft=>zF (λroom=>?_) (λ_=>stay1)) (λ_=>stay1)) (λ_=>stay1)
  |refine⟨_,rfl,zF (λw45=>zF (λleft=>zF (λroom=>?_) (λ_=>stay1)) (λ_=>stay1)) (λ_=>stay1)⟩
 exists iA3 (.inl ⟨rfl,_,SqL.of W1.hE⟩) gJ ⟨_,⟨.inl ⟨_,SqL.of W1.hE,rfl⟩,?_⟩⟩;rw[zA];have el:(0:Int)<es.length:=by lia
 refine⟨el,?_⟩;have v0:=aU (c/24) (show(es.length:Int)≠0 by lia);have v1:=aP (c/24) el;generalize c/24%(es.length:Int)=jj at v0 v1 ⊢;let⟨y,hy⟩:∃y,es[jj.toNat]?=some y:=⟨es[jj.toNat]'(by lia),af _⟩;refine iE5 E (iv es) jj jj.toNat (.int y) (iA8 rfl rfl W1.hE (by lia) (by lia) (Xz v0 (by rw[zA];exact v1)) (xa hy) ?_);rw[X0];have W2:=W1.setE (es.eraseIdx jj.toNat);have pp:=vz hy;have pl:=pp.length_eq;rw[br]at pl;generalize upd H1 E (.lst (iv (es.eraseIdx jj.toNat)))=H2 at W2 ⊢;generalize es.eraseIdx jj.toNat=es1 at pp pl W2 ⊢;intro I hI;have W3:=W2.same (zc (o:=.lst [.int y]) hI);have nI:=W2.off hI;have hI3:upd H2 I (.lst [.int y]) I=some (.lst (iv [y])):=pE;generalize upd H2 I (.lst [.int y])=H3 at W3 hI3 ⊢;clear W1 W2 hI stay stay1;let⟨bv3,hL3,rL3⟩:=W3.hL;exists uc (vO T).mono ?_;refine iE5 c n L E B (iE4 es1 ks bv3 bs (iA9 rfl n4 W3.nEB W3.nLE.symm W3.nLB.symm W3.hE W3.hB hL3 (iA5 (rL3.more (by intro b hb;left;simp only[aC,aJ,aY]at hb ⊢;rcases hb with h|h|h<;>simp[h])) (by lia) (by lia) (by lia) ?_)));intro H5 O es5 ks5 bs5 outs WO oR;let⟨W5,nO,hO5⟩:=W3.outs WO;have hI5:H5 I=some (.lst (iv [y])):=zc2 (R:=R) WO.f _ _ nI hI3;refine oE1 (QT oR) λm p7=>oA5 p7 λm1 m2 m3 m4 m5=>?_;clear p7;clear WO;let⟨rv5,hR5,_⟩:=W5.hR;have last:∀(r:Row)(l3 t:Addr)(H6:Hp),r.ins=[y]->r.outs=outs->r.ok->Same H5 H6->H5 l3=none->H5 t=none->H6 l3=some (.lst (iv (jm r)))->H6 t=some (.tup [.str (wdS r.wd),.ref I,.ref O,.ref l3])->zae (.ref R) [.ref t] H6 λx H1=>Q .non H1:=λr l3 t H6 ri ro rk s6 n3 nt g3 gt=>by
  have W6:=W5.same s6;have qq:=Z9 (p:=Off (ms4 L R E B)) (r:=r) (W5.off nt) nI nO (W5.off n3) gt (by rw[ri];exact s6 _ _ hI5) (by rw[ro];exact s6 _ _ hO5) g3;refine oE1 (W6.addR qq) λrv6 p7=>oA3 p7 λhR6 lr6 W7=>?_;clear p7;refine iE3 R rv6 _ (iA5 rfl rfl hR6 (zm (by lia)) (k _ bs5 _ es5 ks5 W7 (wY I0 (by rw[ri];exact pp) (by rw[ro];exact oR) rk) (by lia) ?_ (by lia) (λ_ _=>by lia)));rw[av,bw]
  lia
 left;have two:∀{p t:Addr}{o1 o2:HO},H5 p=none->upd H5 p o1 t=none->Same H5 (upd (upd H5 p o1) t o2)/\H5 t=none/\upd (upd H5 p o1) t o2 p=some o1/\upd (upd H5 p o1) t o2 t=some o2:=λ{p t o1 o2} hp ht=>⟨(zc hp).trans (zc ht),zx ht,pH pE ht,pE⟩;refine zF (λb3=>?_) (λb3=>?_)
 .exists⟨.inl ⟨rfl,_,SqL.of hR5⟩,iE3 _ _ _ ⟨(vQ T).mono,⟨_,rfl,λp hp t ht=>?_⟩⟩⟩;let⟨s6,nt,g3,gt⟩:=two hp ht;exact last ⟨.sieve,[y],outs,0,[Vt (c/8)]⟩ p t _ rfl rfl (iA3 ⟨_,rfl⟩ (m5.trans (n3 b3)) ⟨_,⟨rfl,zav _⟩⟩) s6 hp nt g3 gt
 left;have fst:tyV K "list" (V.ref R) H5/\∀(p:Addr),H5 p=none->∀(t:Addr),upd H5 p (.lst []) t=none->zae (.ref R) [.ref t] (upd (upd H5 p (.lst [])) t (.tup [.str "first",.ref I,.ref O,.ref p])) λx H1=>Q .non H1:=by
  refine⟨.inl ⟨rfl,_,SqL.of hR5⟩,λp hp t ht=>?_⟩;let⟨s6,nt,g3,gt⟩:=two hp ht;exact last ⟨.first,[y],outs,0,[]⟩ p t _ rfl rfl ⟨⟨_,rfl⟩,by show 2<=outs.length;lia,by show outs.length<=4;lia⟩ s6 hp nt g3 gt
 refine zF (λ_=>fst) (λ_=>zF (λ_=>fst) (λ_=>⟨.inl ⟨rfl,_,SqL.of hR5⟩,λp hp t ht=>?_⟩));let⟨s6,nt,g3,gt⟩:=two hp ht;exact last ⟨.parter,[y],outs,0,[]⟩ p t _ rfl rfl ⟨⟨_,rfl⟩,by show 2<=outs.length;lia,by show outs.length<=4;lia⟩ s6 hp nt g3 gt
def zfq{α:Type}(xs:List α)(k:Nat):(xs.drop k++xs.take k).Perm xs:=by
 refine List.perm_append_comm.trans ?_;rw[eR]
def zfr{rs:At}{c:Nat}(h:WInv bs rs [] [])(b1:1<=bs.length)(b24:bs.length<=24)(r24:rs.length<=24):1<=rs.length/\zV bs (rs.drop c++rs.take c)/\(∀r∈rs.drop c++rs.take c,r.ok):=by
 have tk:=h.tk;have fd:=h.fd;rw[cc]at tk fd;have p2:=zfq rs c;have l2:=p2.length_eq;have r1:1<=rs.length:=by
  rcases gz rs.length with z|z
  .have e:=b9.mp z;subst e;have:=tk.length_eq;rw[Z5]at this;simp[qG]at this
   lia
  .exact z
 exact⟨r1,⟨⟨⟨b1,b24⟩,by lia,by lia⟩,(p2.flatMap_right _).trans fd,(p2.flatMap_right _).trans tk⟩,λr hr=>h.ro r (p2.mem_iff.mp hr)⟩
def vM(xs:Ap)(k:Nat)(h:k<=xs.length):Qk xs (some (k:Int)) none=xs.drop k:=by
 unfold Qk;rw[HT.sIx_nat,HT.sIx_none,dF h];exact eJ (by rw[b6];lia)
def vL(xs:Ap)(k:Nat)(h:k<=xs.length):Qk xs none (some (k:Int))=xs.take k:=by
 unfold Qk;rw[HT.sIx_nat,HT.sIx_none,dF h];simp
def WInv.nil:WInv [] [] [] []:=⟨bD _,bD _,(λ_ z=>nomatch z),(λ_ z=>nomatch z)⟩
def WInv.drain{rs:At}{y pc:Int}{es ks:A7}(h:WInv bs rs (y::es) ks)(h0:0<=pc)(h4:pc<=4):WInv bs (rs++[⟨.drain,[y],[],pc,[]⟩]) es ks :=
 wY (r:=⟨.drain,[y],[],pc,[]⟩) h (bD _) XD ⟨⟨_,rfl⟩,rfl,h0,h4⟩
def WInv.source{rs:At}{y pc:Int}{es ks kd:A7}(h:WInv bs rs es (y::ks))(h0:1<=pc)(h4:pc<=4)(k1:1<=kd.length)(k6:kd.length<=6)(kk:ww kd):WInv bs (rs++[⟨.source,[],[y],pc,kd⟩]) es ks :=
 wY (n:=1) (r:=⟨.source,[],[y],pc,kd⟩) h (bD _) (zdy (n:=0) (j:=0) (outs:=[]) (ks':=y::ks) XD rfl) ⟨rfl,⟨_,rfl⟩,h0,h4,k1,k6,kk⟩
def WInv.end_lt{rs:At}{es ks:A7}(h:WInv bs rs es ks):∀y∈es,0<=y/\y<bs.length:=λy hy=>zas (h.tk.mem_iff.mp (aX _ hy))
def WInv.loop_lt{rs:At}{es ks:A7}(h:WInv bs rs es ks):∀y∈ks,0<=y/\y<bs.length:=λy hy=>zas (h.fd.mem_iff.mp (aX _ hy))
abbrev pSt(l:Addr)(tn:Int)(L R E B:Addr)(v6 v7 v8:Aq):St:=[some (.ref l),some (.int tn),some (.ref L),some (.ref R),some (.ref E),some (.ref B),v6,v7,v8]
def GS.rest{H0 H:Hp}{L R E B:Addr}{rs:At}{es ks:A7}(w:GS H0 H L R E B bs rs es ks):GS H H L R E B bs rs es ks:={w with f:=Fr.refl}
def GS.on{H0 H H':Hp}{L R E B:Addr}{bs bs':A1}{rs rs':At}{es ks es' ks':A7}(w:GS H0 H L R E B bs rs es ks)(w':GS H H' L R E B bs' rs' es' ks'):GS H0 H' L R E B bs' rs' es' ks':={w' with f:=w.f.trans w'.f}
def zbw{r:Row}(h:Rep H p v (jX r)):∃t l1 l2 l3,v=.ref t/\H t=some (.tup [.str (wdS r.wd),.ref l1,.ref l2,.ref l3])/\H l1=some (.lst (iv r.ins))/\H l2=some (.lst (iv r.outs))/\H l3=some (.lst (iv (jm r)))/\p l3:=by
 let⟨t,us,rfl,_,ht,rr⟩:=Rep.tup' h;have g:=rr.g;let⟨x0,u1,rfl,e1⟩:=JS rr.len;let⟨x1,u2,rfl,e2⟩:=JS e1;let⟨x2,x3,rfl⟩:=two_of e2;have a0:=g 0 x0 _ rfl rfl;have a1:=g 1 x1 _ rfl rfl;have a2:=g 2 x2 _ rfl rfl;have a3:=g 3 x3 _ rfl rfl;let⟨l1,rfl,_,h1⟩:=a1.ints';let⟨l2,rfl,_,h2⟩:=a2.ints';let⟨l3,rfl,p3,h3⟩:=a3.ints';cases a0;exact⟨t,l1,l2,l3,rfl,ht,h1,h2,h3,p3⟩
inductive spPartsOf(K:A0)(vs:Ap)(H:Hp)(Q:VK)(E:XK):Prop
 |i (l:Addr) (ns:A7) (tn:Int):vs=[.ref l,.int tn]->SqL K H l (iv ns)->ns.length<=64->(∀t bs rs H',Same H H'->Rep H' (Off []) (.ref t) (.tup [.lst (bs.map Zn),.lst (rs.map jX)])->zV bs rs->(∀b∈bs,zH b.1 b.2)->(∀r∈rs,r.ok)->Q (.ref t) H')->spPartsOf K vs H Q E
def zaN(T:Txt K mg a):Cal P w K mg base "_law_parts_of" 4 ["_law_script","_law_turn"] [] (spPartsOf K):=T.mI.cal λF=>by
 refine F.okx Wz ?_ ?_
 .walk_at"i"
 walk_at"j";rcases h with⟨l,ns,tn,rfl,hl,hn,k⟩;walk_at"T";refine⟨_,(zh (zr 2 Wz.nd (zn zb))  (zh (zr 3 Wz.nd (zn zb))  (zh (zr 4 Wz.nd (zn zb))  (zh (zr 5 Wz.nd (zn zb))  (zI (z6 qj rfl (zN (zo zM (zn (za (zE zC zB (za (pq 0) zb)) zb)) (pq 0))) (zX 6 Wz.nd)  (zd (zw ‹(pq 6) (za (pq 2) (za (pq 3) (za (pq 4) (za (pq 5) zb))))›)))  (zI (z6 qj rfl (zN (pq 4)) (zX 7 Wz.nd)  (zd (zw (qH ap aA az zS (pq 3) (za (zT (za z9 (za (zn (za (pq 7) zb)) (za (zn zb) (za (zn (za (zP (zo zM (pq 1) (zo qV (pq 7) (pq 7)))) zb)) zb))))) zb)))))  (zI (z6 qj rfl (zN (pq 5)) (zX 7 Wz.nd)  (zd (zw (qH ap aA az zS (pq 3) (za (zT (za z9 (za (zn zb) (za (zn (za (pq 7) zb)) (za (zn (za (zo zM ze (zP (zo zM (z7 (pq 1)) (pq 7)))) (za ‹(z7 (pq 1)) zb› zb))) zb))))) zb)))))  (zh (zr 8 Wz.nd (zo qD (z7 (pq 1)) (zE zC zB (za (pq 3) zb))))  (zd (zj (zT (za (pq 2) (za (zo zM (qO jZ (pq 3) (jf (pq 8)) jg) (qO jZ (pq 3) jg (jf (pq 8)))) zb))))))))))))),?_⟩;left;intro L hL;left;intro R hR;left;intro E hE;left;intro B hB;have s1:=(((zc (o:=.lst []) hL).trans (zc (o:=.lst []) hR)).trans (zc (o:=.lst []) hE)).trans (zc (o:=.lst []) hB);have nw:∀m∈ms4 L R E B,H m=none:=λm hm=>by
  simp only[aC,aJ,aY]at hm;rcases hm with rfl|rfl|rfl|rfl
  .exact hL
  .exact zx hR
  .exact zx (zx hE)
  .exact zx (zx (zx hB))
 have W0:GS (upd (upd (upd (upd H L (.lst [])) R (.lst [])) E (.lst [])) B (.lst [])) (upd (upd (upd (upd H L (.lst [])) R (.lst [])) E (.lst [])) B (.lst [])) L R E B [] [] [] [] :=
  ⟨Fr.refl,pG pE hR,pG (pH pE hR) hE,pG (pH (pH pE hR) hE) hB,pG pE hE,pG (pH pE hE) hB,pG pE hB,
   ⟨[],pH (pH (pH pE hR) hE) hB,.nil⟩,⟨[],pH (pH pE hE) hB,.nil⟩,pH pE hB,pE⟩
 generalize upd (upd (upd (upd H L (.lst [])) R (.lst [])) E (.lst [])) B (.lst [])=H1 at s1 W0 ⊢;clear hL hR hE hB;exists cut (λσ' H'=>∃v5 bs rs es ks,σ'=pSt l tn L R E B v5 none none/\GS H1 H' L R E B bs rs es ks/\WInv bs rs es ks/\1<=bs.length/\bs.length<=24/\rs.length+es.length+ks.length<=24) ?_ ?_
 .walk_at"c";exists⟨_,.inl ⟨_,w6 s1 hl,rfl⟩,λp0 hp0=>?_⟩;rw[zA];have sp0:=zc (o:=.lst [.int ns.length]) hp0;refine jN (SqL.of pE) (w6 (s1.trans sp0) hl) (qN (by rw[zA];simp;lia)) λp hp=>?_;have W1:=(W0.same sp0).same (zc (o:=.lst ([.int ns.length]++iv ns)) hp);have np:=(W0.same sp0).off hp;have gp:upd (upd H1 p0 (.lst [.int ns.length])) p (.lst ([.int ns.length]++iv ns)) p=some (.lst (iv ((ns.length:Int)::ns))):=pE;generalize upd (upd H1 p0 (.lst [.int ns.length])) p (.lst ([.int ns.length]++iv ns))=H2 at W1 gp ⊢;refine⟨p,rfl,.inl ⟨⟨_,SqL.of gp⟩,?_⟩⟩;refine qb (K:=K) (a:=p) (xs:=iv ((ns.length:Int)::ns)) (λi σ' H'=>∃v5 bs rs es ks,σ'=pSt l tn L R E B v5 none none/\GS H1 H' L R E B bs rs es ks/\H' p=some (.lst (iv ((ns.length:Int)::ns)))/\WInv bs rs es ks/\bs.length<=24/\rs.length+es.length+ks.length<=24/\(i=0->rs.length+es.length+ks.length=0/\bs.length=0)/\(1<=i->1<=bs.length))
   ⟨_,[],[],[],[],rfl,W1,gp,WInv.nil,by decide,by decide,λ_=>⟨rfl,rfl⟩,λz=>absurd z (by decide)⟩ (λi σ H' _ h=>by let⟨_,_,_,_,_,_,_,g,_⟩:=h;exact SqL.of g) ?_ ?_
  .clear W1 gp W0;intro i x σ' H3 hi p9;refine oE5 p9 λv5 bs rs es ks p7=>oA8 p7 λp8 W gp I0 b24 l24 i0 i1=>?_;ext;let⟨c,_,rfl⟩:=xz hi;exists uc (zgw T).mono (iE5 c L R E B (iE4 bs rs es ks (iA6 rfl W.rest I0 b24 l24 (λH4 bs2 rs2 es2 ks2 W2 I2 c24 m24 lb hz=>?_))));exists iE5 _ bs2 rs2 es2 ks2 (iA8 rfl (W.on W2) (W2.f _ _ np gp) I2 c24 m24 (λz=>nomatch z) (λ_=>?_));rcases gz i with z|z
   .exact hz (i0 z).1 (i0 z).2
   .exact aR (i1 z) lb
  .intro σ' H3 p9;refine oE5 p9 λv5 bs rs es ks p7=>oA8 p7 λp8 W gp I0 b24 l24 i0 i1=>?_;ext;exact iE5 v5 bs rs es ks (iA6 rfl W I0 (i1 (by rw[zA];simp)) b24 l24)
 intro σ' H2 p9;refine oE5 p9 λv5 bs rs es ks p7=>oA6 p7 λp8 W I0 b1 b24 l24=>?_;ext;clear W0;have sH:∀{H'} {bs:A1} {rs:At} {es ks:A7},GS H1 H' L R E B bs rs es ks->Same H H':=λW=>(s1.fr.trans W.f).same nw;exists cut (λσ' H'=>∃v7 rs2,σ'=pSt l tn L R E B v5 v7 none/\GS H1 H' L R E B bs rs2 es ks/\WInv bs rs2 [] ks/\rs2.length+ks.length<=24) ?_ ?_
 .walk_at"c";exists⟨E,rfl,.inl ⟨⟨_,SqL.of W.hE⟩,?_⟩⟩;refine qb (K:=K) (a:=E) (xs:=iv es) (λi σ' H'=>∃v7 rs2,σ'=pSt l tn L R E B v5 v7 none/\GS H1 H' L R E B bs rs2 es ks/\WInv bs rs2 (es.drop i) ks/\rs2.length+(es.drop i).length+ks.length<=24)
   ⟨_,rs,rfl,W,I0,l24⟩ (λi σ H' _ h=>by let⟨_,_,_,W,_⟩:=h;exact SqL.of W.hE) ?_ ?_
  .intro i x σ' H3 hi p9;refine oE2 p9 λv7 rs2 p7=>oA4 p7 λp8 W2 I2 l2=>?_;ext;let⟨y,hy,rfl⟩:=xz hi;rw[zdP hy]at I2 l2;have yb:=I2.end_lt y (bt ..);let⟨rv,hR,_⟩:=W2.hR;exists⟨.inl ⟨rfl,_,SqL.of hR⟩,λp1 h1 p2 h2=>⟨mul_okR (by lia) (by lia),λp3 h3 t ht=>?_⟩⟩;have u0:=aU (tn+y*y) (show(5:Int)≠0 by decide);have u1:=aP (tn+y*y) (show(0:Int)<5 by decide);generalize (tn+y*y)%5=pc at u0 u1 h3 ht ⊢;let⟨s4,q4⟩:=Qd ⟨.drain,[y],[],pc,[]⟩ h1 h2 h3 ht;have W3:=W2.same s4;refine oE1 (W3.addR (q4 (Off (ms4 L R E B)) λb hb=>W2.off hb)) λrv3 p7=>oA3 p7 λhR3 lr3 W4=>?_;clear p7;rw[br]at l2;refine iE3 R rv3 _ (iA5 rfl rfl hR3 (zm (by lia)) (iE2 _ _ (iA4 rfl W4 (I2.drain u0 (by lia)) ?_)));rw[av,bw]
   lia
  .intro σ' H3 p9;refine oE2 p9 λv7 rs2 p7=>oA4 p7 λp8 W2 I2 l2=>?_;ext;rw[zA,dD]at I2 l2;exact iE2 v7 rs2 (iA4 rfl W2 I2 (by simpa using l2))
 intro σ' H3 p9;refine oE2 p9 λv7 rs2 p7=>oA4 p7 λp8 W2 I2 l2=>?_;ext;clear W I0 l24;exists cut (λσ' H'=>∃v7 rs2,σ'=pSt l tn L R E B v5 v7 none/\GS H1 H' L R E B bs rs2 es ks/\WInv bs rs2 [] []/\rs2.length<=24) ?_ ?_
 .walk_at"c";exists⟨B,rfl,.inl ⟨⟨_,SqL.of W2.hB⟩,?_⟩⟩;refine qb (K:=K) (a:=B) (xs:=iv ks) (λi σ' H'=>∃v7 rs2,σ'=pSt l tn L R E B v5 v7 none/\GS H1 H' L R E B bs rs2 es ks/\WInv bs rs2 [] (ks.drop i)/\rs2.length+(ks.drop i).length<=24)
   ⟨_,rs2,rfl,W2,I2,l2⟩ (λi σ H' _ h=>by let⟨_,_,_,W,_⟩:=h;exact SqL.of W.hB) ?_ ?_
  .clear W2 I2 l2;intro i x σ' H3 hi p9;refine oE2 p9 λv7 rs2 p7=>oA4 p7 λp8 W2 I2 l2=>?_;ext;let⟨y,hy,rfl⟩:=xz hi;rw[zdP hy]at I2 l2;have yb:=I2.loop_lt y (bt ..);let⟨rv,hR,_⟩:=W2.hR;rw[br]at l2;exists⟨.inl ⟨rfl,_,SqL.of hR⟩,λp1 h1 p2 h2=>(uc (vQ T).mono ⟨_,rfl,λp3 h3 t ht=>?_⟩)⟩;let⟨s4,q4⟩:=Qd ⟨.source,[],[y],1+(tn/5+y)%2,[Vt (tn/7)]⟩ h1 h2 h3 ht;have W3:=W2.same s4;refine oE1 (W3.addR (q4 (Off (ms4 L R E B)) λb hb=>W2.off hb)) λrv3 p7=>oA3 p7 λhR3 lr3 W4=>?_;clear p7;refine iE3 R rv3 _ (iA5 rfl rfl hR3 (zm (by lia)) (iE2 _ _ (iA4 rfl W4 (I2.source (by lia) (by lia) (by simp) (by simp) (λn hn=>by rw[ak.mp hn];exact zav _)) ?_)));rw[av,bw]
   lia
  .intro σ' H3 p9;refine oE2 p9 λv7 rs2 p7=>oA4 p7 λp8 W2 I2 l2=>?_;ext;rw[zA,dD]at I2 l2;exact iE2 v7 rs2 (iA4 rfl W2 I2 (by simpa using l2))
 clear W2 I2 l2;intro σ' H4 p9;refine oE2 p9 λv7 rs2 p7=>oA4 p7 λp8 W2 I2 l2=>?_;ext;let⟨bv,hL,rL⟩:=W2.hL;let⟨rv,hR,rR⟩:=W2.hR;have lR:rv.length=rs2.length:=by rw[rR.len,ae]
 have r1:=(zfr (c:=0) I2 b1 b24 l2).1;exists⟨_,.inl ⟨_,SqL.of hR,rfl⟩,?_⟩;rw[lR];refine⟨by lia,?_⟩;have w0:=aU (tn/11) (show(rs2.length:Int)≠0 by lia);have w1:=aP (tn/11) (show(0:Int)<(rs2.length:Int) by lia);let⟨ct,ect⟩:∃m:Nat,tn/11%(rs2.length:Int)=m:=⟨(tn/11%(rs2.length:Int)).toNat,by lia⟩;rw[ect]at w1 ⊢;clear w0 ect;exists j7 (SqL.of hR) λq1 hq1=>?_;rw[vM rv ct (by lia)];have a1:=zc (o:=.lst (rv.drop ct)) hq1;refine j7 (SqL.of (a1 _ _ hR)) λq2 hq2=>?_;rw[vL rv ct (by lia)];have a2:=zc (o:=.lst (rv.take ct)) hq2;refine jN (SqL.of (a2 _ _ pE)) (SqL.of pE) (qN (by rw[b6,aE];lia)) λq4 hq4=>?_;have a3:=zc (o:=.lst (rv.drop ct++rv.take ct)) hq4;have sB:=(a1.trans a2).trans a3;have g4:upd (upd (upd H4 q1 (.lst (rv.drop ct))) q2 (.lst (rv.take ct))) q4 (.lst (rv.drop ct++rv.take ct)) q4=some (.lst (rv.drop ct++rv.take ct)):=pE;generalize upd (upd (upd H4 q1 (.lst (rv.drop ct))) q2 (.lst (rv.take ct))) q4 _=H8 at sB g4 ⊢;clear a1 a2 a3 hq1 hq2 hq4;intro t ht;have sC:=zc (o:=.tup [.ref L,.ref q4]) ht;have s68:=sB.trans sC;let⟨_,k1,k3⟩:=zfr (c:=ct) I2 b1 b24 l2;refine k t _ _ _ ((sH W2).trans s68) ?_ k1 I2.bo k3;have b1:=rL.same s68;have b2:=((rR.drop ct).append (rR.take ct)).same s68;rw[<- map_drop,<- fK,<- aZ]at b2;exact Reps.mkT (.cons (b1.all.mk' (p:=Off []) (λz=>nomatch z) (s68 _ _ hL)) (.cons (b2.all.mk' (p:=Off []) (λz=>nomatch z) (sC _ _ g4)) .nil)) (λz=>nomatch z) pE
def zfe(a:Ad):Sp:=λvs H Q _=>∃(v:V)(r:Row)(p:A6),vs=[v]/\Rep H p v (jX r)/\r.ok/\∀v' H',Same H H'->KnP a H' (New H) v' r->Q v' H'
def zca(T:Txt K mg a):Cal P w K mg base "_law_knot_of" 4 ["_law_part"] [] (zfe a):=T.nh.cal λF=>by
 refine F.okx V5 ?_ ?_
 .walk_at"i"
 walk_at"j";refine oE3 h λv p7 p p8=>oA4 p8 λpj hv ok k=>?_;clear p8 h;let⟨wd,ins,outs,pc,ks⟩:=p7;subst pj;refine oE4 (zbw hv) λt l1 l2 l3 p7=>oA6 p7 λp8 ht h1 h2 h3 _=>?_;clear p7;subst p8;simp only at ht h1 h2 h3;walk_at"T";refine⟨_,(zh (xr (pq 0) (j8 (n:=4) rfl (zR (zX 1 V5.nd) (zR (zX 2 V5.nd) (zR (zX 3 V5.nd) (zR (zX 4 V5.nd) jn))))))  (zh (zy (zi (qd hr.units1) (pq 1) z9 (zk _))  (zd (zj (jT (x:="Source") ⟨rfl,rfl,rfl⟩ hr (za (zq (pq 3) ze) (za (zq (pq 4) ze) (za (qO jZ (pq 4) (jf ze) jg) zb))))))  zl)  (zh (zy (zi (qd hr.units1) (pq 1) z9 (zk _))  (zd (zj (jT (x:="Drain") ⟨rfl,rfl,rfl⟩ hr (za (zq (pq 2) ze) (za (zq (pq 4) ze) zb)))))  zl)  (zh (zy (zi (qd hr.units1) (pq 1) z9 (zk _))  (zd (zj (jT (x:="Parter") ⟨rfl,rfl,rfl⟩ hr (za (zq (pq 2) ze) (za (jA qY qK (za (pq 3) zb)) zb)))))  zl)  (zh (zy (zi (qd hr.units1) (pq 1) z9 (zk _))  (zd (zj (jT (x:="FirstParter") ⟨rfl,rfl,rfl⟩ hr (za (zq (pq 2) ze) (za (jA qY qK (za (pq 3) zb)) zb)))))  zl)  (zh (zy (zi (qd hr.units1) (pq 1) z9 (zk _))  (zd (zj (jT (x:="Sieve") ⟨rfl,rfl,rfl⟩ hr (za (zq (pq 2) ze) (za (jA qY qK (za (pq 3) zb)) (za (zq (pq 4) ze) zb))))))  zl)  (zd (zj (jT (x:="Joiner") ⟨rfl,rfl,rfl⟩ hr (za (jA qY qK (za (pq 2) zb)) (za (zq (pq 3) ze) zb))))))))))),?_⟩;exists iE2 t _ (iA4 rfl (SqT.of ht) rfl (iE2 _ _ ⟨rfl,iE2 _ _ ⟨rfl,iE2 _ _ ⟨rfl,iE2 _ _ (iA3 rfl rfl ?_)⟩⟩⟩));exists zF (λb=>?_) (λb=>?_)
 .have b:=vR (y:=.source) b;subst b;refine oA7 ok λq1 p7 q3 q4 q5 q6 q7=>?_;clear ok;let⟨ov,q2⟩:=p7;simp only at q1 q2 q3 q4 q5 q6 q7;subst q1 q2;exists iE4 a.n _ _ _ ⟨(zbO T).mono,zu (SqL.of h2) at0 (zu (SqL.of h3) at0 (j7 (SqL.of h3) λm3' hm3=>?_))⟩;rw[show Qk (iv (jm ⟨.source,[],[ov],pc,ks⟩)) (some 1) none=iv ks from(vM (iv (pc::ks)) 1 (by simp[iv])).trans rfl]at *;intro z dz hz hdz hne;have hm3':=pE (H:=H) (a:=m3') (o:=.lst (iv ks));refine iE6 z dz m3' (.int ov) pc ks (iA6 rfl pE (SqL.of (qf hz hdz hm3')) (pG hm3' hz) (λ_ H' m1 m2 m3 s' g1 g2 g3 g4 n1 n2 n3=>⟨rfl,?_⟩) (λhbad=>absurd (iA5 q3 q4 q5 q6 q7) hbad));exact k _ _ ((zc hm3).trans (Own.of_new hz hdz s')) (Vo (p:=New H) (ins:=[]) (outs:=[ov]) (zx hz) (zx (zL n1)) (zx (zL n2)) (zx (zL n3)) g1 g2 g3 g4)
 have ns:wd≠.source:=λz=>b (by rw[z];rfl);clear b;exists zF (λb=>?_) (λb=>?_)
 .have b:=vR (y:=.drain) b;subst b;refine oA4 ok λp7 q2 q3 q4=>?_;clear ok;let⟨iv',q1⟩:=p7;simp only at q1 q2 q3 q4;subst q1 q2;exists iE4 a.o _ _ _ ⟨(zaw T).mono,zu (SqL.of h1) at0 (zu (SqL.of h3) at0 ?_)⟩;intro z dz hz hdz hne;refine iE4 z dz (.int iv') pc (iA3 rfl pE ?_);rw[aq ⟨q3,q4⟩];intro H' m1 m2 s' g1 g2 g3 n1 n2;exact⟨rfl,k _ _ (Own.of_new hz hdz s') (XY (p:=New H) (ins:=[iv']) (outs:=[]) hz (zL n1) (zL n2) g1 g2 g3)⟩
 have nd:wd≠.drain:=λz=>b (by rw[z];rfl);clear b;exists zF (λb=>?_) (λb=>?_)
 .have b:=vR (y:=.parter) b;subst b;let⟨⟨iv',q1⟩,q3,q4⟩:=ok;simp only at q1 q3 q4;subst q1;exists iE4 a.p _ _ _ ⟨(zbP T).mono,zu (SqL.of h1) at0 ?_⟩;exists iE2 l2 _ (iA3 rfl (.inl (SqL.of h2)) (λm3 hm3=>?_));intro z dz hz hdz hne;have hm3':=pE (H:=H) (a:=m3) (o:=.lst (iv outs));refine iE5 z dz m3 (.int iv') (iv outs) (iA5 rfl pE (SqL.of (qf hz hdz hm3')) (pG hm3' hz) ?_);rw[aq (by rw[zA];exact⟨q3,q4⟩)];intro H' m1 m2 s' g1 g2 g3 n1 n2;exact⟨rfl,k _ _ ((zc hm3).trans (Own.of_new hz hdz s')) (Vp (p:=New H) (ins:=[iv']) (outs:=outs) (zx hz) (zx (zL n1)) (zx (zL n2)) g1 g2 g3)⟩
 have np:wd≠.parter:=λz=>b (by rw[z];rfl);clear b;exists zF (λb=>?_) (λb=>?_)
 .have b:=vR (y:=.first) b;subst b;let⟨⟨iv',q1⟩,q3,q4⟩:=ok;simp only at q1 q3 q4;subst q1;exists iE4 a.q _ _ _ ⟨(Zm T).mono,zu (SqL.of h1) at0 ?_⟩;exists iE2 l2 _ (iA3 rfl (.inl (SqL.of h2)) (λm3 hm3=>?_));intro z dz hz hdz hne;have hm3':=pE (H:=H) (a:=m3) (o:=.lst (iv outs));refine iE5 z dz m3 (.int iv') (iv outs) (iA5 rfl pE (SqL.of (qf hz hdz hm3')) (pG hm3' hz) ?_);rw[aq (by rw[zA];exact⟨q3,q4⟩)];intro H' m1 m2 s' g1 g2 g3 n1 n2;exact⟨rfl,k _ _ ((zc hm3).trans (Own.of_new hz hdz s')) (zbL (p:=New H) (ins:=[iv']) (outs:=outs) (zx hz) (zx (zL n1)) (zx (zL n2)) g1 g2 g3)⟩
 have nf:wd≠.first:=λz=>b (by rw[z];rfl);clear b;exists zF (λb=>?_) (λb=>?_)
 .have b:=vR (y:=.sieve) b;subst b;refine oA3 ok λp7 q3 p8=>oE1 p8 λkk pj=>oA3 pj λq4 q5 q6=>?_;clear p8 pj ok;let⟨iv',q1⟩:=p7;simp only at q1 q3 q4;subst q1 q4;exists iE4 a.r _ _ _ ⟨(zdC T).mono,zu (SqL.of h1) at0 ?_⟩;exists iE2 l2 _ (iA3 rfl (.inl (SqL.of h2)) (λm3 hm3=>?_));refine zu (SqL.of (pH h3 hm3)) at0 ?_;intro z dz hz hdz hne;have hm3':=pE (H:=H) (a:=m3) (o:=.lst (iv outs));refine iE6 z dz m3 (.int iv') (iv outs) kk (iA5 rfl pE (SqL.of (qf hz hdz hm3')) (pG hm3' hz) ?_);rw[aq (by rw[zA];exact⟨q3,q5,q6⟩)];intro H' m1 m2 s' g1 g2 g3 n1 n2;exact⟨rfl,k _ _ ((zc hm3).trans (Own.of_new hz hdz s')) (zbK (p:=New H) (ins:=[iv']) (outs:=outs) (zx hz) (zx (zL n1)) (zx (zL n2)) g1 g2 g3)⟩
 have nv:wd≠.sieve:=λz=>b (by rw[z];rfl);have hj:wd=.joiner:=by cases wd<;>first|rfl|contradiction
 subst hj;let⟨⟨ov,q1⟩,q3,q4⟩:=ok;simp only at q1 q3 q4;subst q1;exists iE4 a.s _ _ _ ⟨(zbQ T).mono,?_⟩;exists iE2 l1 _ (iA3 rfl (.inl (SqL.of h1)) (λm3 hm3=>?_));refine zu (SqL.of (pH h2 hm3)) at0 ?_;intro z dz hz hdz hne;have hm3':=pE (H:=H) (a:=m3) (o:=.lst (iv ins));refine iE5 z dz m3 (.int ov) (iv ins) (iA5 rfl pE (SqL.of (qf hz hdz hm3')) (pG hm3' hz) ?_);rw[aq (by rw[zA];exact⟨q3,q4⟩)];intro H' m1 m2 s' g1 g2 g3 n1 n2;exact⟨rfl,k _ _ ((zc hm3).trans (Own.of_new hz hdz s')) (Vq (p:=New H) (ins:=ins) (outs:=[ov]) (zx hz) (zx (zL n1)) (zx (zL n2)) g1 g2 g3)⟩
noncomputable def qy(a:Ad)(bs:A1)(rs:At):D:=.ob a.u [("belts",.lst (bs.map (Jj a))),("knots",.lst (rs.map (Ji a)))]
def zhK{l1 l2:Addr}:wf l1 l2=([(("belts":Str),V.ref l1),(("knots":Str),V.ref l2)]:Ar):=by
 unfold wf;simp only[qr];rw[ao (by symm)]
def zaT{a:Ad}{rs:At}:([("belts",.lst (bs.map (Jj a))),("knots",.lst (rs.map (Ji a)))]:List (Str×D)).lookup ("belts":Str)=some (.lst (bs.map (Jj a))):=jd
def zeZ{a:Ad}{rs:At}:([("belts",.lst (bs.map (Jj a))),("knots",.lst (rs.map (Ji a)))]:List (Str×D)).lookup ("knots":Str)=some (.lst (rs.map (Ji a))):=(zW (by symm)).trans jd
def zja{a:Ad}{rs:At}{f:Str}(h1:f≠"belts")(h2:f≠"knots"):([("belts",.lst (bs.map (Jj a))),("knots",.lst (rs.map (Ji a)))]:List (Str×D)).lookup f=none:=(zW h1).trans (zW h2)
def zao{x b:Addr}(h:H x=some o)(hb:H b=none):b∉[x]:=λz=>by rw[ak.mp z,h]at hb;cases hb
theorem at1{x y:V}:atI [x,y] 1=some y:=rfl
inductive spWorkOf2(a:Ad)(vs:Ap)(H:Hp)(Q:VK)(E:XK):Prop
 |i (v:V) (bs:A1) (rs:At):vs=[v]->Rep H (Off []) v (.tup [.lst (bs.map Zn),.lst (rs.map jX)])->zV bs rs->(∀b∈bs,zH b.1 b.2)->(∀r∈rs,r.ok)->(∀v H',Same H H'->Rep H' (Off []) v (qy a bs rs)->Q v H')->spWorkOf2 a vs H Q E
def zb6(T:Txt K mg a):Cal P w K mg base "_law_work_of" 7 ["_law_made"] [] (spWorkOf2 a):=T.nk.cal λF=>by
 refine F.okx V0 ?_ ?_
 .walk_at"i"
 walk_at"j";rcases h with⟨v,bs,rs,rfl,hv,wok,bo,ro,k⟩;refine oE2 hv.tup' λt0 us0 p7=>oA4 p7 λp8 _ ht0 rr0=>?_;clear p7;subst p8;let⟨v1,v2,rfl⟩:=two_of rr0.len;have hv1:=rr0.g 0 v1 _ rfl rfl;have hv2:=rr0.g 1 v2 _ rfl rfl;refine oE2 hv1.lst' λl1 us1 p7=>oA4 p7 λp8 _ hl1 hb=>?_;clear p7;subst p8;refine oE2 hv2.lst' λl2 us2 p7=>oA4 p7 λp8 _ hl2 hrr=>?_;clear p7;subst p8;have ln1:us1.length=bs.length:=by rw[hb.len,ae]
 have ln2:us2.length=rs.length:=by rw[hrr.len,ae]
 have lb:=wok.1.1.2;have lr:=wok.1.2.2;walk_at"T";refine⟨_,(zd (zj (jT (x:="Work") ⟨rfl,rfl,rfl⟩ hr (za (jk (vars:=["_law_room","_law_pace"]) (caps:=[]) (N:=["_law_room","_law_pace"]) (ON:=["_law_made"]) (osc:=zf xH) rfl rfl (by right) rfl rfl (zN (zq (pq 0) ze)) (λ_ _ _ _=>(j8 (n:=2) rfl (zR (zX 0 (show(["_law_room","_law_pace"]:A9).Nodup from by symm)) (zR (zX 1 (show(["_law_room","_law_pace"]:A9).Nodup from by symm)) jn)))) (λ_ _ _ _=>z8) (λ_ _ _ _=>(zfH (x:="Belt") hr (za (pq 0) (za (pq 1) zb))))) (za (jk (vars:=["_law_part"]) (caps:=[]) (N:=["_law_part"]) (ON:=["_law_made"]) (osc:=zf xH) rfl rfl (by right) rfl rfl (zN (zq (pq 0) ze)) (λ_ _ _ _=>(zX 0 (show(["_law_part"]:A9).Nodup from by symm))) (λ_ _ _ _=>z8) (λ_ _ _ _=>(vA hr (za (pq 0) zb)))) zb))))),?_⟩;exists iE4 a.u _ _ _ ⟨(zf8 T).mono,?_⟩;walk_at"d";exists pI ht0 at0 ?_;refine⟨l1,rfl,.inl ⟨⟨_,SqL.of hl1⟩,λ_ _ _ _ ph hacc=>?_⟩⟩;refine qb (K:=K) (a:=l1) (xs:=us1) (λi σ H'=>∃(v0 v1:Aq)(us:Ap),σ=[v0,v1]/\Same H H'/\H' ph=some (.lst us)/\Bts a H' (Off [ph]) us (bs.take i)) (iE3 _ _ ([]) (iA4 rfl (zc hacc) pE (by rw[bT];exact .nil))) (λi σ H' _ h=>by let⟨_,_,_,_,s,_⟩:=h;exact SqL.of (s _ _ hl1)) ?_ ?_
 .intro i x σ H' hi p9;refine oE3 p9 λv0 v1 us p7=>oA4 p7 λp8 s7 e1 hU=>?_;ext;let⟨dx,hdx,rx⟩:=hb.at hi;rw[ai,am]at hdx;let⟨⟨rm,pc⟩,hr',rfl⟩:=hdx;let⟨t,rfl,ht⟩:=Qa rx;have hok:=bo _ (ah hr');have hil:=(aa.mp hr').1;refine un2 ((s7 _ _ ht)) ?_;exists iE4 a.l _ _ _ ⟨(zf9 T).mono,?_⟩;intro z dz hz hdz hne;refine iE4 z dz rm pc (iA3 rfl pE ?_);rw[aq hok,ZH];have sN:Same H' (upd (upd H' dz (.own z)) z (.ins a.l dz (bf rm pc))):=λb o h=>by rw[pF (pG h hz),pF (pG h hdz)];exact h
  have hz':upd (upd H' dz (.own z)) z (.ins a.l dz (bf rm pc)) z=some (.ins a.l dz (bf rm pc)):=pE;generalize upd (upd H' dz (.own z)) z (.ins a.l dz (bf rm pc))=H4 at sN hz' ⊢;have hzn:=zao e1 hz;have f5:Fr [ph] H4 (upd H4 ph (.lst (us++[.ref z]))):=qx (by simp);refine⟨rfl,⟨_,iA3 (sN _ _ e1) (zm (by have:=hU.len;rw[aE]at this;lia)) (iE3 _ _ (us++[.ref z]) (iA4 rfl (((s7.trans sN).fr.trans f5).same (by intro m hm;rw[ak.mp hm];exact hacc)) pE ?_))⟩⟩;rw[aO,hr'];refine Bts.push (hU.keep λb o hp hb=>⟨hp,f5 _ _ hp (sN _ _ hb)⟩) (zh4 (p:=Off [ph]) hzn (f5 _ _ hzn hz'))
 intro σ H2 p9;refine oE3 p9 λv0 v1 us p7=>oA4 p7 λp8 s2 e2 hU=>?_;ext;rw[ln1,aG]at hU;walk_at"d";exists pI (s2 _ _ ht0) at1 ?_;refine⟨l2,rfl,.inl ⟨⟨_,SqL.of (s2 _ _ hl2)⟩,λ_ _ _ _ ac2 hac2=>?_⟩⟩;refine qb (K:=K) (a:=l2) (xs:=us2) (λi σ H'=>∃(v0:Aq)(ks:Ap),σ=[v0]/\Same H2 H'/\H' ac2=some (.lst ks)/\Kns a H' (Off [ac2]) ks (rs.take i)) (iE2 _ ([]) (iA4 rfl (zc hac2) pE (by rw[bT];exact .nil))) (λi σ H' _ h=>by let⟨_,_,_,s,_⟩:=h;exact SqL.of (s _ _ (s2 _ _ hl2))) ?_ ?_
 .intro i x σ H' hi p9;refine oE2 p9 λv0 ks p7=>oA4 p7 λp8 s7 e1 hV=>?_;ext;let⟨dx,hdx,rx⟩:=hrr.at hi;rw[ai,am]at hdx;let⟨r,hr',rfl⟩:=hdx;have hok:=ro _ (ah hr');have hil:=(aa.mp hr').1;exists uc (zca T).mono (iE3 x r _ (iA4 rfl (rx.same (s2.trans s7)) hok (λv' H3 s3 hN=>?_)));have f5:Fr [ac2] H3 (upd H3 ac2 (.lst (ks++[v']))):=qx (by simp);refine⟨_,iA3 (s3 _ _ e1) (zm (by have:=hV.len;rw[aE]at this;lia)) (iE2 _ (ks++[v']) (iA4 rfl (((s7.trans s3).fr.trans f5).same (by intro m hm;rw[ak.mp hm];exact hac2)) pE ?_))⟩;rw[aO,hr'];refine Kns.append (hV.keep λb o hp hb=>⟨hp,f5 _ _ hp (s3 _ _ hb)⟩) (Kns.one (hN.keep λb o hp hb=>?_));have nb:=zao e1 hp;exact⟨nb,f5 _ _ nb hb⟩
 intro σ H3 p9;refine oE2 p9 λv0' ks p7=>oA4 p7 λp8 s3 e3 hV=>?_;ext;rw[ln2,aG]at hV;have hU3:Bts a H3 (Off [ph]) us bs:=hU.keep λb o hp hb=>⟨hp,s3 _ _ hb⟩;have e2':=s3 _ _ e2;intro y dy hy hdy hne;refine⟨y,dy,ph,ac2,us,ks,bs,rs,λb=>b≠y,rfl,pE,pG e2' hy,pG e3 hy,λ_ h=>h,qf hy hdy e2',qf hy hdy e3,
  hU3.keep λb o _ hb=>⟨pG hb hy,qf hy hdy hb⟩,hV.keep λb o _ hb=>⟨pG hb hy,qf hy hdy hb⟩,bo,ro,by rw[wok.2.1.length_eq,Z5];lia,by rw[wok.2.2.length_eq,Z5];lia,by lia,λ_ H4 m1 m2 bv kv o4 g0 g1 g2 gB gK n1 n2=>⟨rfl,?_⟩,λz=>absurd wok z⟩
 refine k _ _ ((s2.trans s3).trans (Own.of_new hy hdy o4)) ?_;rw[zhK]at g0;exact xU (λz=>nomatch z) g0 rfl (.cons (gB.reps.all.mk' (λz=>nomatch z) g1) (.cons (gK.reps.all.mk' (λz=>nomatch z) g2) .nil))
def Told(H:Hp)(v:V)(r:Option Ap):Prop:=match r with
 |none=>v=.non
 |some xs=>∃p,v=.ref p/\H p=some (.tup xs)
def Told.same{H H':Hp}{r:Option Ap}(h:Told H v r)(s:Same H H'):Told H' v r:=by
 cases r with
 |none=>exact h
 |some xs=>exact let⟨p,e,hp⟩:=h;⟨p,e,s _ _ hp⟩
noncomputable def VQ(side:V)(p:Int)(t:Int)(b:Bool):Option Ap:=if b=true/\t%p=0 then some [.non,.int 0,side]else none
def J0(K:A0)(C:Addr):Sp:=λvs H Q _=>∃(y dx l1 l2 l3 fl:Addr)(p t:Int)(hs side:V)(b:Bool)(bs:Ap),vs=[.ref y,hs,.ref fl,.int t,side]/\H y=some (.ins C dx (sf l1 l2 p l3))/\1<=p /\
 SqL K H fl (.bl b::bs)/\∀v H',Same H H'->Told H' v (VQ side p t b)->Q v H'
theorem Jy(T:Txt K mg a):MCal P w K mg base a.n "choice" 1 ["self","heads","free","turn","side"] [] (J0 K a.n):=T.lf.cal T.gW λF=>by
 refine F.okx QG ?_ ?_
 .walk_at"i"
 walk_at"k";refine oE8 h λy dx l1 l2 l3 fl p t p7=>oE4 p7 λhs side b bs p8=>oA5 p8 λpj hy p1 hf k=>?_;clear p7 p8 h;subst pj;unfold VQ at k;walk_at"T";refine⟨_,(zg (zy (PW.pt (pw_or (qw (zY (zq (pq 2) ze) (λ_=>rfl))) (pw_or1 (zi (wl hr.units1) (zo qD (pq 3) (zt (pq 0) rfl)) ze (zk _)))))  (zd (zj zG))  zl)  (zd (zj (zT (za zG (za ze (za (pq 4) zb))))))),?_⟩;exists zu hf at0 ?_;left;cases b with
 |false =>
  rw[ao (by simp)]at k;left;exact k _ _ (Same.refl _) rfl
 |true =>
  exists ra hy T.gW T.ie zgW ?_;exists zF (λh=>?_) (λh=>?_)
  .rw[ao (λz=>h z.2)]at k;left;exact k _ _ (Same.refl _) rfl
  .rw[aq ⟨rfl,fX h⟩]at k;left;intro q hq;exact k _ _ (zc hq) ⟨q,rfl,pE⟩
noncomputable def zc6(side:V)(p:Int)(t:Int)(hd:V):Option Ap:=if p=0\/hd=.non\/t%p≠0 then none else some [.int 0,.non,side]
def Wj(K:A0)(C:Addr):Sp:=λvs H Q _=>∃(y dx l1 l2 hl:Addr)(p t:Int)(fr side:V)(hd:V)(hs:Ap),vs=[.ref y,.ref hl,fr,.int t,side]/\H y=some (.ins C dx (df l1 l2 p))/\0<=p/\p<=4 /\
 SqL K H hl (hd::hs)/\∀v H',Same H H'->Told H' v (zc6 side p t hd)->Q v H'
def XW(T:Txt K mg a):MCal P w K mg base a.o "choice" 1 ["self","heads","free","turn","side"] [] (Wj K a.o):=T.lQ.cal T.gY λF=>by
 refine F.okx Jv ?_ ?_
 .walk_at"i"
 walk_at"k";refine oE8 h λy dx l1 l2 hl p t fr p7=>oE3 p7 λside hd hs p8=>oA6 p8 λpj hy p0 p4 hh k=>?_;clear p7 p8 h;subst pj;unfold zc6 at k;walk_at"T";refine⟨_,(zg (zy (zi (qd hr.units1) (zt (pq 0) rfl) ze (zk _))  (zd (zj zG))  zl)  (zg (zy (PW.pt (pw_or (zi jq (zq (pq 1) ze) zG (zk _)) (pw_or1 (zi (wl hr.units1) (zo qD (pq 3) (zt (pq 0) rfl)) ze (zk _)))))  (zd (zj zG))  zl)  (zd (zj (zT (za ze (za zG (za (pq 4) zb)))))))),?_⟩;exists ra hy T.gY T.hJ zaF ?_;exists zF (λh1=>?_) (λh1=>?_)
 .rw[aq (.inl h1)]at k;left;exact k _ _ (Same.refl _) rfl
 .exists zu hh at0 ?_;exists zF (λh2=>?_) (λh2=>?_)
  .rw[aq (.inr (.inl h2))]at k;left;exact k _ _ (Same.refl _) rfl
  .exists ra hy T.gY T.hJ zaF ?_;exists And.intro (by lia) ?_;refine zF (λh3=>?_) (λh3=>?_)
   .rw[aq (.inr (.inr h3))]at k;left;exact k _ _ (Same.refl _) rfl
   .rw[ao (λz=>z.elim h1 λz=>z.elim h2 h3)]at k;left;intro q hq;exact k _ _ (zc hq) ⟨q,rfl,pE⟩
noncomputable def zhW(n:Nat)(p:Option Nat):Option Ap:=p.map λ(p:Nat)=>[.int 0,.int p,.int ((p+1)%n:Nat)]
def J1(K:A0)(C:Addr):Sp:=λvs H Q _=>∃(y dx l1 l2 hl fl:Addr)(turn:V)(side:Nat)(hd:V)(hs outs:Ap)(bs:Ai),vs=[.ref y,.ref hl,.ref fl,turn,.int side]/\H y=some (.ins C dx (kf l1 l2))/\H l2=some (.lst outs) /\
 SqL K H hl (hd::hs)/\SqL K H fl (bs.map V.bl)/\bs.length=outs.length/\bs.length<=1000 /\
 ∀v H',Same H H'->Told H' v (if hd=.non then none else zhW bs.length (jK bs side))->Q v H'
theorem JA(T:Txt K mg a):MCal P w K mg base a.p "choice" 3 ["self","heads","free","turn","side"] [] (J1 K a.p):=T.lj.cal T.ij λF=>by
 refine F.okx QI ?_ ?_
 .walk_at"i"
 walk_at"k";refine oE8 h λy dx l1 l2 hl fl turn side p7=>oE4 p7 λhd hs outs bs p8=>oA8 p8 λpj hy h2 hh hf hbl hb k=>?_;clear p7 p8 h;subst pj;walk_at"T";refine⟨_,(zg (zr 5 QI.nd ‹(zq (pq 1) ze) (za (pq 2) (za (pq 4) zb))›)  (zg (zy (zi jq (pq 5) zG (zk _))  (zd (zj zG))  zl)  (zd (zj (zT (za ze (za (pq 5) (za (zo qD (zo zM (pq 5) ze) (zE zC zB (za (zt (pq 0) rfl) zb))) zb)))))))),?_⟩;exists iE3 _ _ _ ⟨wt T,zu hh at0 (iE4 hd fl bs side (iA4 rfl hf hb ?_))⟩;by_cases hn:hd=.non
 .rw[aq hn]at k ⊢;left;exact k _ _ (Same.refl _) rfl
 .rw[ao hn]at k ⊢;cases hp:jK bs side with
  |none =>
   rw[hp]at k;simp only[Zb];left;exact k _ _ (Same.refl _) rfl
  |some p =>
   rw[hp]at k;simp only[Zb];have hlt:=wo hp;exists ra hy T.ij T.ig zhk ⟨_,.inl ⟨_,SqL.of h2,rfl⟩,?_⟩;left;rw[<- hbl];refine And.intro (by lia) ?_;left;intro q hq;have e:((p:Int)+1)%(bs.length:Int)=(((p+1)%bs.length:Nat):Int):=by push_cast;rfl
   rw[e];exact k _ _ (zc hq) ⟨q,rfl,pE⟩
noncomputable def zgo(side:V)(p:Option Nat):Option Ap:=p.map λ(p:Nat)=>[.int 0,.int p,side]
def Wi(K:A0):Sp:=λvs H Q _=>∃(y hl fl:Addr)(turn side:V)(hd:V)(hs:Ap)(bs:Ai),vs=[.ref y,.ref hl,.ref fl,turn,side] /\
 SqL K H hl (hd::hs)/\SqL K H fl (bs.map V.bl)/\bs.length<=1000/\∀v H',Same H H'->Told H' v (if hd=.non then none else zgo side (jK bs 0))->Q v H'
theorem vG(T:Txt K mg a):MCal P w K mg base a.q "choice" 3 ["self","heads","free","turn","side"] [] (Wi K):=T.iT.cal T.gU λF=>by
 refine F.okx wX ?_ ?_
 .walk_at"i"
 walk_at"k";refine oE8 h λy hl fl turn side hd hs bs p7=>oA5 p7 λp8 hh hf hb k=>?_;clear p7 h;subst p8;walk_at"T";refine⟨_,(zg (zr 5 wX.nd ‹(zq (pq 1) ze) (za (pq 2) (za ze zb))›)  (zg (zy (zi jq (pq 5) zG (zk _))  (zd (zj zG))  zl)  (zd (zj (zT (za ze (za (pq 5) (za (pq 4) zb)))))))),?_⟩;exists iE3 _ _ _ ⟨wt T,zu hh at0 (iE4 hd fl bs 0 (iA4 rfl hf hb ?_))⟩;by_cases hn:hd=.non
 .rw[aq hn]at k ⊢;left;exact k _ _ (Same.refl _) rfl
 .rw[ao hn]at k ⊢;cases hp:jK bs 0 with
  |none =>
   rw[hp]at k;simp only[Zb];left;exact k _ _ (Same.refl _) rfl
  |some p =>
   rw[hp]at k;simp only[Zb];left;intro q hq;exact k _ _ (zc hq) ⟨q,rfl,pE⟩
def zgQ(C:Addr):Sp:=λvs H Q _=>∃(y dx l1 l2:Addr)(n j:Int),vs=[.ref y,.int j]/\H y=some (.ins C dx (vf l1 l2 n))/\Q (.int (if j=n then 0 else 1)) H
def WG(T:Txt K mg a):MCal P w K mg base a.r "place_for" 1 ["self","kind"] [] (zgQ a.r):=T.kI.cal T.gZ λF=>by
 refine F.okx Zw ?_ ?_
 .walk_at"i"
 walk_at"k";refine oE6 h λy dx l1 l2 n j p7=>oA3 p7 λp8 hy k=>?_;clear p7 h;subst p8;walk_at"T";refine⟨_,(zd (zj (xu (zi (qd hr.units1) (pq 1) (zt (pq 0) rfl) (zk _)) ze ze))),?_⟩;exists ra hy T.gZ T.iF zgK ?_;exists zF (λh=>?_) (λh=>?_)
 .rw[aq h]at k;left;exact k
 .rw[ao h]at k;left;exact k
noncomputable def zct(side:V)(n:Int)(bs:Ai)(hd:V):Option Ap:=if hd=.non then none else if bs.getD (if hd=.int n then 0 else 1) false=true then some [.int 0,.int (if hd=.int n then 0 else 1),side]else none
def Wh(K:A0)(C:Addr):Sp:=λvs H Q _=>∃(y dx l1 l2 hl fl:Addr)(n:Int)(turn side:V)(hd:V)(hs:Ap)(bs:Ai),vs=[.ref y,.ref hl,.ref fl,turn,side]/\H y=some (.ins C dx (vf l1 l2 n)) /\
 SqL K H hl (hd::hs)/\(hd=.non\/∃j,hd=.int j)/\SqL K H fl (bs.map V.bl)/\bs.length=2/\∀v H',Same H H'->Told H' v (zct side n bs hd)->Q v H'
theorem XU(T:Txt K mg a):MCal P w K mg base a.r "choice" 2 ["self","heads","free","turn","side"] [] (Wh K a.r):=T.lU.cal T.gZ λF=>by
 refine F.okx Jt ?_ ?_
 .walk_at"i"
 walk_at"k";refine oE8 h λy dx l1 l2 hl fl n turn p7=>oE4 p7 λside hd hs bs p8=>oA7 p8 λpj hy hh hhd hf hb k=>?_;clear p7 p8 h;subst pj;walk_at"T";refine⟨_,(zg (zy (zi jq (zq (pq 1) ze) zG (zk _))  (zd (zj zG))  zl)  (zg (zr 5 Jt.nd (zfG ⟨rfl,rfl,rfl⟩ hr (pq 0) (za (zq (pq 1) ze) zb)))  (zg (zy (qw (zY (zq (pq 2) (pq 5)) (λ_=>rfl)))  (zd (zj zG))  zl)  (zd (zj (zT (za ze (za (pq 5) (za (pq 4) zb))))))))),?_⟩;exists zu hh at0 ?_;rcases hhd with rfl|⟨j,rfl⟩
 .left;exact k _ _ (Same.refl _) rfl
 .exists iE7 y a.r dx _ _ _ _ (iA5 rfl hy (zjb (by symm) (by symm) (by symm)) (WG T) (zu hh at0 (iE6 y dx l1 l2 n j (iA3 rfl hy ?_))));left;let⟨pp,hpp,hp2⟩:∃pp:Nat,(if j=n then(0:Int)else 1)=pp/\pp<2:=by split;exact⟨0,rfl,by decide⟩;exact⟨1,rfl,by decide⟩
  have e1:(if V.int j=V.int n then(0:Nat)else 1)=pp:=by
   by_cases h:j=n
   .rw[aq h]at hpp;rw[aq (by rw[h])];lia
   .rw[ao h]at hpp;rw[ao (λz=>h (by cases z;rfl))];lia
  have e2:(if V.int j=V.int n then(0:Int)else 1)=pp:=by
   by_cases h:j=n
   .rw[aq h]at hpp;rw[aq (by rw[h])];lia
   .rw[ao h]at hpp;rw[ao (λz=>h (by cases z;rfl))];lia
  rw[hpp];have hlt:pp<bs.length:=by lia
  refine zu hf (zJ (by rw[ai,af hlt];rfl)) ?_;have eg:bs.getD pp false=bs[pp]:=by simp[hlt]
  unfold zct at k;rw[ao (by intro z;cases z),e1,e2,eg]at k;left;cases hbb:bs[pp]with
  |true =>
   rw[hbb,aq rfl]at k;left;intro q hq;exact k _ _ (zc hq) ⟨q,rfl,pE⟩
  |false =>
   rw[hbb,ao (by decide)]at k;left;exact k _ _ (Same.refl _) rfl
noncomputable def zh2(n:Nat)(p:Option Nat):Option Ap:=p.map λ(p:Nat)=>[.int p,.int 0,.int ((p+1)%n:Nat)]
noncomputable def there(hs:Ap):List Bool:=hs.map λh=>!decide (h=.non)
def J9(K:A0)(C:Addr):Sp:=λvs H Q _=>∃(y dx l1 l2 hl fl:Addr)(turn:V)(side:Nat)(hs ins:Ap)(b:Bool)(bs:Ap),vs=[.ref y,.ref hl,.ref fl,turn,.int side]/\H y=some (.ins C dx (kf l1 l2))/\H l1=some (.lst ins) /\
 SqL K H hl hs/\SqL K H fl (.bl b::bs)/\hs.length=ins.length/\hs.length<=900/\∀v H',Same H H'->Told H' v (if b=true then zh2 hs.length (jK (there hs) side)else none)->Q v H'
theorem JC(T:Txt K mg a):MCal P w K mg base a.s "choice" 2 ["self","heads","free","turn","side"] [] (J9 K a.s):=T.lB.cal T.ik λF=>by
 refine F.okx QM ?_ ?_
 .walk_at"i"
 walk_at"k";refine oE8 h λy dx l1 l2 hl fl turn side p7=>oE4 p7 λhs ins b bs p8=>oA8 p8 λpj hy h1 hh hf hlen hb k=>?_;clear p7 p8 h;subst pj;walk_at"T";refine⟨_,(zg (zy (qw (zY (zq (pq 2) ze) (λ_=>rfl)))  (zd (zj zG))  zl)  (zg (zr 5 QM.nd ‹(jk (vars:=["head"]) (caps:=[]) (N:=["head"]) (ON:=["self","heads","free","turn","side","place"]) (osc:=zf j6) rfl rfl (by right) rfl rfl (zN (pq 1)) (λ_ _ _ _=>(zX 0 (show(["head"]:A9).Nodup from by symm))) (λ_ _ _ _=>z8) (λ_ _ _ _=>(xI op_notN (pq 0) zG (zk _)))) (za (pq 4) zb)›)  (zg (zy (zi jq (pq 5) zG (zk _))  (zd (zj zG))  zl)  (zd (zj (zT (za (pq 5) (za ze (za (zo qD (zo zM (pq 5) ze) (zE zC zB (za (zt (pq 0) rfl) zb))) zb))))))))),?_⟩;exists zu hf at0 ?_;left;cases b with
 |false =>
  rw[ao (by decide)]at k;left;exact k _ _ (Same.refl _) rfl
 |true =>
  rw[aq rfl]at k;exists iE3 _ _ _ ⟨Zp T,?_⟩;walk_at"d";exists⟨hl,rfl,.inl ⟨⟨_,hh⟩,λ_ _ _ _ ph hacc=>?_⟩⟩;refine qb (K:=K) (a:=hl) (xs:=hs) (λi σ H'=>∃(v:Aq),σ=[v]/\Same H H'/\H' ph=some (.lst ((there (hs.take i)).map V.bl))) ⟨_,iA3 rfl (zc hacc) pE⟩ (λi σ H' _ ⟨_,_,s,_⟩=>s.seq hh) ?_ ?_
  .intro i x σ H' hi p9;refine oE1 p9 λv p7=>oA3 p7 λp8 s ha=>?_;ext;exists⟨_,iA3 ha ?_ ⟨_,iA3 rfl ?_ ?_⟩⟩
   .simp only[there,ae,aE];exact zm (by lia)
   .intro b o hb;rw[pF (pG hb hacc)];exact s b o hb
   .rw[pE,gw,hi];simp[there]
  .intro σ H' p9;refine oE1 p9 λv p7=>oA3 p7 λp8 s ha=>?_;ext;rw[aG]at ha;refine iE3 ph (there hs) side (iA4 rfl (SqL.of ha) (by simp[there];lia) ?_);have hlt:(there hs).length=hs.length:=by simp[there]
   cases hp:jK (there hs) side with
   |none =>
    rw[hp]at k;simp only[Zb];left;exact k _ _ s rfl
   |some p =>
    rw[hp]at k;simp only[Zb];have hlt':=wo hp;exists ra (s _ _ hy) T.ik T.ir ziL ⟨_,.inl ⟨_,SqL.of (s _ _ h1),rfl⟩,?_⟩;left;rw[<- hlen];refine And.intro (by lia) ?_;left;intro q hq;have e:((p:Int)+1)%(hs.length:Int)=(((p+1)%hs.length:Nat):Int):=by push_cast;rfl
    rw[e];exact k _ _ (s.trans (zc hq)) ⟨q,rfl,pE⟩
def MCal.imp{C:Addr}{m:Str}{ps:A9}{dvs:Ap}{sp sp':Sp}(c:MCal P w K mg base C m k ps dvs sp)(h:∀vs H Q E,sp' vs H Q E->sp vs H Q E):MCal P w K mg base C m k ps dvs sp' :=
 let⟨f,fd,ds,x,y⟩:=c.ex;⟨c.cl,f,fd,ds,x.imp h,y⟩
def zaD{k:Str}{ks:A9}(n:fs.map (·.1)=k::ks):∃v gs,fs=(k,v)::gs/\gs.map (·.1)=ks:=by
 cases fs with
 |nil=>cases n
 |cons x gs =>
  let⟨k',v⟩:=x;injection n with n1 n2
  exact⟨v,gs,by rw[<- n1],n2⟩
def ziU(n:fs.map (·.1)=[]):fs=[]:=List.map_eq_nil_iff.mp n
def fs2{k1 k2:Str}{d1 d2:D}(n:fs.map (·.1)=[k1,k2])(g:∀(i:Nat) f g,fs[i]?=some f->[(k1,d1),(k2,d2)][i]?=some g->Rep H p f.2 g.2):∃v1 v2,fs=[(k1,v1),(k2,v2)]/\Rep H p v1 d1/\Rep H p v2 d2:=by
 let⟨v1,f1,rfl,n1⟩:=zaD n;let⟨v2,f2,rfl,n2⟩:=zaD n1;obtain rfl:=ziU n2;exact⟨v1,v2,rfl,g 0 _ _ rfl rfl,g 1 _ _ rfl rfl⟩
section
variable{H:Hp}{p:A6}{y:Addr}{ins outs kinds:A7}{pace:Int}
def KnP.parter(h:KnP a H p (.ref y) ⟨.parter,ins,outs,pace,kinds⟩):∃dx l1 l2,H y=some (.ins a.p dx (kf l1 l2))/\H l2=some (.lst (iv outs)):=by
 cases h with|ob _ hy n g =>
  let⟨v1,v2,rfl,r1,r2⟩:=fs2 n g;let⟨l1,rfl,_,_⟩:=r1.ints';let⟨l2,rfl,_,h2⟩:=r2.ints';exact⟨_,l1,l2,by rw[XZ];exact hy,h2⟩
end
def fs3{k1 k2 k3:Str}{d1 d2 d3:D}(n:fs.map (·.1)=[k1,k2,k3])(g:∀(i:Nat) f g,fs[i]?=some f->[(k1,d1),(k2,d2),(k3,d3)][i]?=some g->Rep H p f.2 g.2):∃v1 v2 v3,fs=[(k1,v1),(k2,v2),(k3,v3)]/\Rep H p v1 d1/\Rep H p v2 d2/\Rep H p v3 d3:=by
 let⟨v1,f1,rfl,n1⟩:=zaD n;let⟨v2,f2,rfl,n2⟩:=zaD n1;let⟨v3,f3,rfl,n3⟩:=zaD n2;obtain rfl:=ziU n3;exact⟨v1,v2,v3,rfl,g 0 _ _ rfl rfl,g 1 _ _ rfl rfl,g 2 _ _ rfl rfl⟩
def fs4{k1 k2 k3 k4:Str}{d1 d2 d3 d4:D}(n:fs.map (·.1)=[k1,k2,k3,k4])(g:∀(i:Nat) f g,fs[i]?=some f->[(k1,d1),(k2,d2),(k3,d3),(k4,d4)][i]?=some g->Rep H p f.2 g.2):∃v1 v2 v3 v4,fs=[(k1,v1),(k2,v2),(k3,v3),(k4,v4)]/\Rep H p v1 d1/\Rep H p v2 d2/\Rep H p v3 d3/\Rep H p v4 d4:=by
 let⟨v1,f1,rfl,n1⟩:=zaD n;let⟨v2,f2,rfl,n2⟩:=zaD n1;let⟨v3,f3,rfl,n3⟩:=zaD n2;let⟨v4,f4,rfl,n4⟩:=zaD n3;obtain rfl:=ziU n4;exact⟨v1,v2,v3,v4,rfl,g 0 _ _ rfl rfl,g 1 _ _ rfl rfl,g 2 _ _ rfl rfl,g 3 _ _ rfl rfl⟩
section
variable{H:Hp}{p:A6}{y:Addr}{ins outs kinds:A7}{pace:Int}
def KnP.source(h:KnP a H p (.ref y) ⟨.source,ins,outs,pace,kinds⟩):∃dx l1 l2 l3,H y=some (.ins a.n dx (sf l1 l2 pace l3)):=by
 cases h with|ob _ hy n g =>
  let⟨v1,v2,v3,v4,rfl,r1,r2,r3,r4⟩:=fs4 n g;let⟨l1,rfl,_,_⟩:=r1.ints';let⟨l2,rfl,_,_⟩:=r2.ints';cases r3;let⟨l4,rfl,_,_⟩:=r4.ints';exact⟨_,l1,l2,l4,by rw[zhS];exact hy⟩
def KnP.drain(h:KnP a H p (.ref y) ⟨.drain,ins,outs,pace,kinds⟩):∃dx l1 l2,H y=some (.ins a.o dx (df l1 l2 pace)):=by
 cases h with|ob _ hy n g =>
  let⟨v1,v2,v3,rfl,r1,r2,r3⟩:=fs3 n g;let⟨l1,rfl,_,_⟩:=r1.ints';let⟨l2,rfl,_,_⟩:=r2.ints';cases r3;exact⟨_,l1,l2,by rw[zgr];exact hy⟩
def KnP.sieve{k:Int}(h:KnP a H p (.ref y) ⟨.sieve,ins,outs,pace,[k]⟩):∃dx l1 l2,H y=some (.ins a.r dx (vf l1 l2 k)):=by
 cases h with|ob _ hy n g =>
  let⟨v1,v2,v3,rfl,r1,r2,r3⟩:=fs3 n g;let⟨l1,rfl,_,_⟩:=r1.ints';let⟨l2,rfl,_,_⟩:=r2.ints';cases r3;exact⟨_,l1,l2,by rw[zhM];exact hy⟩
def KnP.joiner(h:KnP a H p (.ref y) ⟨.joiner,ins,outs,pace,kinds⟩):∃dx l1 l2,H y=some (.ins a.s dx (kf l1 l2))/\H l1=some (.lst (iv ins)):=by
 cases h with|ob _ hy n g =>
  let⟨v1,v2,rfl,r1,r2⟩:=fs2 n g;let⟨l1,rfl,_,h1⟩:=r1.ints';let⟨l2,rfl,_,_⟩:=r2.ints';exact⟨_,l1,l2,by rw[XZ];exact hy,h1⟩
end
noncomputable def hdV:Option Int->V
 |none=>.non
 |some k=>.int k
noncomputable def qu(r:Row)(hs:List Aa)(bs:Ai)(t:Int)(side:Nat):Option Ak:=match r.wd with
 | .source=>if bs.getD 0 false=true/\t%r.pace=0 then some (none,some 0,side)else none
 | .drain=>if r.pace=0\/hs.getD 0 none=none\/t%r.pace≠0 then none else some (some 0,none,side)
 | .parter=>if hs.getD 0 none=none then none else(jK bs side).map λp=>(some 0,some p,(p+1)%bs.length)
 | .first=>if hs.getD 0 none=none then none else(jK bs 0).map λp=>(some 0,some p,side)
 | .sieve=>if hs.getD 0 none=none then none else if bs.getD (if hs.getD 0 none=some (r.kinds.headD 0)then 0 else 1) false=true then some (some 0,some (if hs.getD 0 none=some (r.kinds.headD 0)then 0 else 1),side)else none
 | .joiner=>if bs.getD 0 false=true then(jK (hs.map Option.isSome) side).map λp=>(some p,some 0,(p+1)%hs.length)else none
noncomputable def chV(x:Ak):List V:=[Zb x.1,Zb x.2.1,.int (x.2.2:Nat)]
def zfi(K:A0)(a:Ad)(wd:Wd):Sp:=λvs H Q _=>∃(y hl fl:Addr)(r:Row)(p:A6)(hs:List Aa)(bs:Ai)(t:Int)(side:Nat),vs=[.ref y,.ref hl,.ref fl,.int t,.int side]/\KnP a H p (.ref y) r/\r.wd=wd/\r.ok /\
 H hl=some (.lst (hs.map hdV))/\H fl=some (.lst (bs.map V.bl))/\hs.length=r.ins.length/\bs.length=r.outs.length/\∀v H',Same H H'->Told H' v ((qu r hs bs t side).map chV)->Q v H'
def JR{x:Aa}:(hdV x=.non)=(x=none):=by
 cases x<;>simp[hdV]
def ze4(hs:List Aa):there (hs.map hdV)=hs.map Option.isSome:=by
 simp only[there,d6]
 congr 1
 funext x
 cases x<;>simp[hdV]
def zfW(T:Txt K mg a)(wd:Wd):MCal P w K mg base (wK a wd) "choice" 3 ["self","heads","free","turn","side"] [] (zfi K a wd):=by
 cases wd with
 |source =>
  refine MCal.imp (Jy T).mono λvs H Q E h=>?_;let⟨y,hl,fl,⟨wd,ins,outs,pace,kinds⟩,p,hs,bs,t,side,rfl,hK,hw,ok,hh,hf,l1,l2,k⟩:=h;simp only at hw;subst hw;let⟨dx,m1,m2,m3,hy⟩:=hK.source;let⟨_,⟨o,eo⟩,p1,_⟩:=ok;simp only at eo p1 l2;subst eo
  match bs,l2 with
  |[b],_ =>
   refine⟨y,dx,m1,m2,m3,fl,pace,t,_,_,b,[],rfl,hy,p1,SqL.of hf,λv H' s ht=>k v H' s ?_⟩;unfold VQ at ht;simp only[qu];by_cases hc:b=true/\t%pace=0
   .rw[aq hc]at ht;rw[aq (by simpa using hc)];exact ht
   .rw[ao hc]at ht;rw[ao (by simpa using hc)];exact ht
 |drain =>
  refine MCal.imp (XW T).mono λvs H Q E h=>?_;let⟨y,hl,fl,⟨wd,ins,outs,pace,kinds⟩,p,hs,bs,t,side,rfl,hK,hw,ok,hh,hf,l1,l2,k⟩:=h;simp only at hw;subst hw;let⟨dx,m1,m2,hy⟩:=hK.drain;let⟨⟨o,eo⟩,_,p1,p4⟩:=ok;simp only at eo p1 p4 l1;subst eo
  match hs,l1 with
  |[hd],_ =>
   refine⟨y,dx,m1,m2,hl,pace,t,_,_,hdV hd,[],rfl,hy,p1,p4,SqL.of hh,λv H' s ht=>k v H' s ?_⟩;unfold zc6 at ht;simp only[JR]at ht;simp only[qu];by_cases hc:pace=0\/hd=none\/t%pace≠0
   .rw[aq hc]at ht;rw[aq (by simpa using hc)];exact ht
   .rw[ao hc]at ht;rw[ao (by simpa using hc)];exact ht
 |parter =>
  refine MCal.imp (JA T).mono λvs H Q E h=>?_;let⟨y,hl,fl,⟨wd,ins,outs,pace,kinds⟩,p,hs,bs,t,side,rfl,hK,hw,ok,hh,hf,l1,l2,k⟩:=h;simp only at hw;subst hw;let⟨dx,m1,m2,hy,h2⟩:=hK.parter;let⟨⟨o,eo⟩,q1,q2⟩:=ok;simp only at eo l1 l2 q1 q2;subst eo
  match hs,l1 with
  |[hd],_ =>
   refine⟨y,dx,m1,m2,hl,fl,_,side,hdV hd,[],iv outs,bs,rfl,hy,h2,SqL.of hh,SqL.of hf,by rw[zA];exact l2,by lia,λv H' s ht=>k v H' s ?_⟩;simp only[JR]at ht;simp only[qu];by_cases hc:hd=none
   .rw[aq hc]at ht;rw[aq (by simpa using hc)];exact ht
   .rw[ao hc]at ht;rw[ao (by simpa using hc)];unfold zhW at ht;rw[eO];exact ht
 |first =>
  refine MCal.imp (vG T).mono λvs H Q E h=>?_;let⟨y,hl,fl,⟨wd,ins,outs,pace,kinds⟩,p,hs,bs,t,side,rfl,hK,hw,ok,hh,hf,l1,l2,k⟩:=h;simp only at hw;subst hw;let⟨⟨o,eo⟩,q1,q2⟩:=ok;simp only at eo l1 l2 q1 q2;subst eo
  match hs,l1 with
  |[hd],_ =>
   refine⟨y,hl,fl,_,_,hdV hd,[],bs,rfl,SqL.of hh,SqL.of hf,by lia,λv H' s ht=>k v H' s ?_⟩;simp only[JR]at ht;simp only[qu];by_cases hc:hd=none
   .rw[aq hc]at ht;rw[aq (by simpa using hc)];exact ht
   .rw[ao hc]at ht;rw[ao (by simpa using hc)];unfold zgo at ht;rw[eO];exact ht
 |sieve =>
  refine MCal.imp (XU T).mono λvs H Q E h=>?_;let⟨y,hl,fl,⟨wd,ins,outs,pace,kinds⟩,p,hs,bs,t,side,rfl,hK,hw,ok,hh,hf,l1,l2,k⟩:=h;simp only at hw;subst hw;let⟨⟨o,eo⟩,q1,kk,q2,_⟩:=ok;simp only at eo l1 l2 q1 q2;subst eo q2;let⟨dx,m1,m2,hy⟩:=hK.sieve
  match hs,l1 with
  |[hd],_ =>
   refine⟨y,dx,m1,m2,hl,fl,kk,_,_,hdV hd,[],bs,rfl,hy,SqL.of hh,by cases hd;exact .inl rfl;exact .inr ⟨_,rfl⟩,SqL.of hf,by lia,λv H' s ht=>k v H' s ?_⟩;unfold zct at ht;simp only[JR]at ht;simp only[qu];by_cases hc:hd=none
   .rw[aq hc]at ht;rw[aq (by simpa using hc)];exact ht
   .rw[ao hc]at ht;rw[ao (by simpa using hc)];have e:(hdV hd=.int kk)=([hd].getD 0 none=some (List.headD [kk] 0)):=by
     cases hd with
     |none=>exact absurd rfl hc
     |some x=>simp[hdV]
    have e1:(if hdV hd=V.int kk then(0:Nat)else 1)=(if [hd].getD 0 none=some (List.headD [kk] 0)then 0 else 1):=by simp only[e]
    have e2:(if hdV hd=V.int kk then(0:Int)else 1)=((if [hd].getD 0 none=some (List.headD [kk] 0)then 0 else 1:Nat):Int):=by simp only[e];split<;>rfl
    rw[e1,e2]at ht;generalize (if [hd].getD 0 none=some (List.headD [kk] 0)then 0 else 1)=q at ht ⊢;by_cases hb:bs.getD q false=true
    .rw[aq hb]at ht ⊢;exact ht
    .rw[ao hb]at ht ⊢;exact ht
 |joiner =>
  refine MCal.imp (JC T).mono λvs H Q E h=>?_;let⟨y,hl,fl,⟨wd,ins,outs,pace,kinds⟩,p,hs,bs,t,side,rfl,hK,hw,ok,hh,hf,l1,l2,k⟩:=h;simp only at hw;subst hw;let⟨⟨o,eo⟩,q1,q2⟩:=ok;simp only at eo l1 l2 q1 q2;subst eo;let⟨dx,m1,m2,hy,h1⟩:=hK.joiner
  match bs,l2 with
  |[b],_ =>
   refine⟨y,dx,m1,m2,hl,fl,_,side,hs.map hdV,iv ins,b,[],rfl,hy,h1,SqL.of hh,SqL.of hf,by rw[ae,zA];exact l1,by rw[ae];lia,λv H' s ht=>k v H' s ?_⟩;rw[ze4,ae]at ht;simp only[qu];by_cases hc:b=true
   .rw[aq hc]at ht;rw[aq (by simpa using hc)];unfold zh2 at ht;rw[eO];exact ht
   .rw[ao hc]at ht;rw[ao (by simpa using hc)];exact ht
abbrev qp:=Option (Int×Int)
abbrev Av:=List qp
abbrev Au:=List Av
noncomputable def qB:qp->D
 |none=>.non
 |some (s,n)=>.tup [.int s,.int n]
def zeG(x:qp):Hard (qB x):=by
 cases x with
 |none=>exact .non
 |some x =>
  refine .tup λi d h=>?_;have:d∈[D.int x.1,D.int x.2]:=ah h;simp at this;rcases this with rfl|rfl<;>exact .int
structure PSt where
 turn:Int
 cells:List Av
 sides:List Int
 gone:List A7
noncomputable abbrev qF(cs:Au):List (List D):=cs.map λc=>c.map qB
noncomputable abbrev qJ(gs:List A7):List (List D):=gs.map λg=>g.map D.int
noncomputable def stF(st:PSt):List (Str×D):=[("turn",.int st.turn),("cells",.lst ((qF st.cells).map D.lst)),("sides",.ints st.sides),("gone",.lst ((qJ st.gone).map D.lst))]
noncomputable def X7(a:Ad)(st:PSt):D:=.ob a.t (stF st)
def za0(st:PSt):(stF st).lookup ("turn":Str)=some (.int st.turn):=jd
def WU(st:PSt):(stF st).lookup ("cells":Str)=some (.lst ((qF st.cells).map D.lst)):=(zW (by symm)).trans jd
def WS(st:PSt):(stF st).lookup ("sides":Str)=some (.ints st.sides):=(zW (by symm)).trans ((zW (by symm)).trans jd)
def za1(st:PSt):(stF st).lookup ("gone":Str)=some (.lst ((qJ st.gone).map D.lst)):=(zW (by symm)).trans ((zW (by symm)).trans ((zW (by symm)).trans jd))
noncomputable def sff(t:Int)(lc ls lg:Addr):List (Str×V):=[(("turn":Str),V.int t),(("cells":Str),V.ref lc),(("sides":Str),V.ref ls),(("gone":Str),V.ref lg)]
theorem zjJ{t:Int}:qr "turn" (.int t) []=([(("turn":Str),V.int t)]:Ar):=rfl
def zjI{t:Int}{lc:Addr}:qr "cells" (.ref lc) [(("turn":Str),V.int t)]=([(("turn":Str),V.int t),(("cells":Str),V.ref lc)]:Ar):=by
 simp only[qr];rw[ao (by symm)]
def zjH{t:Int}{lc ls:Addr}:qr "sides" (.ref ls) [(("turn":Str),V.int t),(("cells":Str),V.ref lc)]=([(("turn":Str),V.int t),(("cells":Str),V.ref lc),(("sides":Str),V.ref ls)]:Ar):=by
 simp only[qr];rw[ao (by symm),ao (by symm)]
def zjG{t:Int}{lc ls lg:Addr}:qr "gone" (.ref lg) [(("turn":Str),V.int t),(("cells":Str),V.ref lc),(("sides":Str),V.ref ls)]=sff t lc ls lg:=by
 unfold sff;simp only[qr];rw[ao (by symm),ao (by symm),ao (by symm)]
structure SN where
 dx:Addr
 lc:Addr
 ls:Addr
 lg:Addr
 acs:List Addr
 ags:List Addr
noncomputable def SN.all(n:SN):List Addr:=n.ls::n.lc::n.lg::(n.acs++n.ags)
structure StO(a:Ad)(H:Hp)(y:Addr)(n:SN)(st:PSt):Prop where
 hy:H y=some (.ins a.t n.dx (sff st.turn n.lc n.ls n.lg))
 hc:NL H (zZ H) n.lc n.acs (qF st.cells)
 hs:H n.ls=some (.lst (iv st.sides))
 hg:NL H (zZ H) n.lg n.ags (qJ st.gone)
 nd:n.all.Nodup
def StO.rep{y:Addr}{n:SN}{st:PSt}(h:StO a H y n st):Rep H (Off []) (.ref y) (X7 a st) :=
 xU (λz=>nomatch z) h.hy rfl (.cons .int (.cons h.hc.rep (.cons (qe (λz=>nomatch z) h.hs) (.cons h.hg.rep .nil))))
def StO.same{H H':Hp}{y:Addr}{n:SN}{st:PSt}(h:StO a H y n st)(s:Same H H'):StO a H' y n st :=
 ⟨s _ _ h.hy,h.hc.keep (λb o _ hb=>s b o hb) (λb ⟨xs,hx⟩ _=>⟨xs,s _ _ hx⟩),s _ _ h.hs,h.hg.keep (λb o _ hb=>s b o hb) (λb ⟨xs,hx⟩ _=>⟨xs,s _ _ hx⟩),h.nd⟩
def w9(a:Ad):Sp:=λvs H Q _=>∃(y dx:Addr)(vc vs' vg:V)(st:PSt)(p:A6),vs=[.ref y,.int st.turn,vc,vs',vg]/\H y=some (.ins a.t dx [])/\(∀b,p b->b≠y) /\
 Rep H p vc (.lst ((qF st.cells).map D.lst))/\Rep H p vs' (.ints st.sides)/\Rep H p vg (.lst ((qJ st.gone).map D.lst))/\st.cells.length<=100/\st.gone.length<=100 /\
 ∀H' n,n.dx=dx->Own H H' y->StO a H' y n st->(∀b∈n.all,H b=none)->Q .non H'
def zbl{ds:List D}(h:Reps H p vs ds)(hd:∀d∈ds,Hard d):Reps H (zZ H) vs ds :=
 ⟨h.len,λi v d e1 e2=>(h.g i v d e1 e2).hard (hd d (ah e2)) λb xs _ hb=>⟨xs,hb⟩⟩
def zcY(c:Av):∀d∈c.map qB,Hard d:=λd hd=>by
 let⟨x,_,rfl⟩:=bb.mp hd;exact zeG x
def zeH(c:A7):∀d∈c.map D.int,Hard d:=λd hd=>by
 let⟨x,_,rfl⟩:=bb.mp hd;exact .int
def WD(T:Txt K mg a)(F:Fun K "__init__" "State.__init__" jx f fd):FnOk P w K mg base (CXr P w) 1 f fd ["self","turn","cells","sides","gone"] (w9 a):=by
 refine F.okx Ww ?_ ?_
 .walk_at"i"
 walk_at"j";refine oE7 h λy dx vc vs' vg st p p7=>oA9 p7 λp8 hy hp rc rs rg lc lg k=>?_;clear p7 h;subst p8;refine oE2 rc.lst' λc0 ucs p7=>oA4 p7 λp8 pc0 hc0 rcs=>?_;clear p7;subst p8;refine oE1 rs.ints' λs0 p7=>oA3 p7 λp8 ps0 hs0=>?_;clear p7;subst p8;have hs0:H s0=some (.lst (iv st.sides)):=hs0;refine oE2 rg.lst' λg0 ugs p7=>oA4 p7 λp8 pg0 hg0 rgs=>?_;clear p7;subst p8;have lcs:ucs.length=st.cells.length:=by rw[rcs.len,ae,ae]
 have lgs:ugs.length=st.gone.length:=by rw[rgs.len,ae,ae]
 walk_at"T";refine⟨_,(zh (jz (pq 0) (pq 1) rfl)  (zh (jz (pq 0) (jk (vars:=["belt_cells"]) (caps:=[]) (N:=["belt_cells"]) (ON:=["self","turn","cells","sides","gone"]) (osc:=zf jx) rfl rfl (by right) rfl rfl (zN (pq 2)) (λ_ _ _ _=>(zX 0 (show(["belt_cells"]:A9).Nodup from by symm))) (λ_ _ _ _=>z8) (λ_ _ _ _=>(jA qY qK (za (pq 0) zb)))) rfl)  (zh (jz (pq 0) (jA qY qK (za (pq 3) zb)) rfl)  (zd (jz (pq 0) (jk (vars:=["counts"]) (caps:=[]) (N:=["counts"]) (ON:=["self","turn","cells","sides","gone"]) (osc:=zf jx) rfl rfl (by right) rfl rfl (zN (pq 4)) (λ_ _ _ _=>(zX 0 (show(["counts"]:A9).Nodup from by symm))) (λ_ _ _ _=>z8) (λ_ _ _ _=>(jA qY qK (za (pq 0) zb)))) rfl))))),?_⟩;exists iE4 y a.t dx ([]) (iA6 rfl hy T.ad T.gQ (by decide) ?_);rw[zjJ];have o1:Own H (upd H y (.ins a.t dx [(("turn":Str),V.int st.turn)])) y:=jo;have y1:upd H y (.ins a.t dx [(("turn":Str),V.int st.turn)]) y=some (.ins a.t dx [(("turn":Str),V.int st.turn)]):=pE;generalize upd H y (.ins a.t dx [(("turn":Str),V.int st.turn)])=H1 at o1 y1 ⊢;have kp:∀b,zZ H b->H b≠none->b≠y:=λb ⟨xs,hx⟩ _ z=>by rw[z,hy]at hx;cases hx
 walk_at"d";exists⟨c0,rfl,.inl ⟨⟨_,SqL.of (o1 _ _ (hp _ pc0) hc0)⟩,λ_ _ _ _ ph hacc=>?_⟩⟩;let pk:Nat->St->Hp->Prop:=λi σ H'=>∃(v0:Aq)(as:Ac),σ=[v0]/\Same H1 H'/\NL H' (zZ H) ph as (qF (st.cells.take i))/\∀b∈as,H1 b=none;refine qb (K:=K) (a:=c0) (xs:=ucs) pk (iE2 _ ([]) (iA4 rfl (zc hacc) (by rw[bT];exact zaq pE) (by simp))) (λi σ H' _ h=>by let⟨_,_,_,s,_⟩:=h;exact SqL.of (s _ _ (o1 _ _ (hp _ pc0) hc0))) ?_ ?_
 .intro i x σ H2 hi p9;refine oE2 p9 λv0 as p7=>oA4 p7 λp8 s2 nl fr=>?_;ext;let⟨d,hd,rx⟩:=rcs.at hi;rw[ai,ai]at hd;let⟨c,hc⟩:∃c,st.cells[i]?=some c:=by
   cases e:st.cells[i]? with
   |none=>rw[e]at hd;cases hd
   |some c=>exact⟨c,rfl⟩
  rw[hc]at hd;cases hd;refine oE2 (Rep.lst' rx) λli vi p7=>oA4 p7 λp8 pli hli ri=>?_;clear p7;subst p8;have hil:=(aa.mp hc).1;have hli2:=s2 _ _ (o1 _ _ (hp _ pli) hli);exists iE2 li _ (iA3 rfl (.inl (SqL.of hli2)) (λb hb=>?_));have nb:b∉as:=λz=>by
   let⟨j,hj⟩:=bF z;let⟨vs,h1,_⟩:=nl.g j b _ hj (af (by rw[<- nl.len];exact(aa.mp hj).1));rw[h1]at hb;cases hb
  have nG:b≠ph:=λz=>by rw[z,nl.out]at hb;cases hb
  have s3:Same H2 (upd H2 b (.lst vi)):=zc hb;have ac3:=pH (o:=.lst vi) nl.out hb;refine⟨_,iA3 ac3 (zm (by rw[ae,nl.len,ae,aE];lia)) ?_⟩;have ri3:Reps (upd H2 b (.lst vi)) (zZ H) vi (c.map qB):=(zbl ri (zcY c)).keep λz o pz hz=>⟨pz,s3 _ _ (s2 _ _ (o1 _ _ (kp z pz (by rw[hz];intro q;cases q)) hz))⟩;have nl3:=(nl.same s3).push (b:=b) (vs:=vi) (ys:=c.map qB) pE nb nG (λ⟨xs,hx⟩=>by
   have:=o1 _ _ (kp ph ⟨xs,hx⟩ (by rw[hx];intro q;cases q)) hx;rw[hacc]at this;cases this) ri3
  refine iE2 _ (as++[b]) (iA4 rfl ?_ ?_ ?_)
  .exactλz o hz=>by rw[pF (pG hz hacc)];exact s3 _ _ (s2 _ _ hz)
  .rw[aO,hc];rw[show qF (st.cells.take i++(some c).toList)=qF (st.cells.take i)++[c.map qB] by simp[qF]];exact nl3
  .intro z hz;rcases ax.mp hz with hz|hz
   .exact fr z hz
   .rw[ak.mp hz];exact zK s2 hb
 intro σ H2 p9;refine oE2 p9 λv0 acs p7=>oA4 p7 λp8 s2 nlc frc=>?_;ext;rw[lcs,aG]at nlc;have y2:=s2 _ _ y1;exists iE4 y a.t dx _ (iA6 rfl y2 T.ad T.gL (by simp) ?_);rw[zjI];have nay:ph≠y:=λz=>by rw[z,y1]at hacc;cases hacc
 have hx0:∀{z:Addr},H1 z=none->z≠y/\H z=none:=λ{z} hz=>by
  have n1:z≠y:=λq=>by rw[q,y1]at hz;cases hz
  refine⟨n1,?_⟩;cases e:H z with
  |none=>rfl
  |some o=>rw[o1 z o n1 e]at hz;cases hz
 have o3:Own H (upd H2 y (.ins a.t dx [(("turn":Str),V.int st.turn),(("cells":Str),V.ref ph)])) y:=(o1.trans (Same.own s2)).trans jo;have y3:upd H2 y (.ins a.t dx [(("turn":Str),V.int st.turn),(("cells":Str),V.ref ph)]) y=some (.ins a.t dx [(("turn":Str),V.int st.turn),(("cells":Str),V.ref ph)]):=pE;have nl3:NL (upd H2 y (.ins a.t dx [(("turn":Str),V.int st.turn),(("cells":Str),V.ref ph)])) (zZ H) ph acs (qF st.cells):=nlc.keep (λz o hz ho=>by
  refine(pF (λq=>?_)).trans ho;rcases hz with h|h|h
  .exact nay (h.symm.trans q)
  .exact(hx0 (frc z h)).1 q
  .obtain⟨xs,hx⟩:=h;rw[q,hy]at hx;cases hx) λ_ hp _=>hp
 generalize upd H2 y (.ins a.t dx [(("turn":Str),V.int st.turn),(("cells":Str),V.ref ph)])=H3 at o3 y3 nl3 ⊢;exists iE2 s0 _ (iA3 rfl (.inl (SqL.of (o3 _ _ (hp _ ps0) hs0))) (λls hls=>?_));left;have y4:=pH (o:=.lst (iv st.sides)) y3 hls;refine iE4 y a.t dx _ (iA6 rfl y4 T.ad T.gX (by simp) ?_);rw[zjH];have nlsy:ls≠y:=λz=>by rw[z,y3]at hls;cases hls
 have hls0:H ls=none:=by
  cases e:H ls with
  |none=>rfl
  |some o=>rw[o3 ls o nlsy e]at hls;cases hls
 have o5:Own H (upd (upd H3 ls (.lst (iv st.sides))) y (.ins a.t dx [(("turn":Str),V.int st.turn),(("cells":Str),V.ref ph),(("sides":Str),V.ref ls)])) y:=(o3.trans (Same.own (zc hls))).trans jo;have y5:upd (upd H3 ls (.lst (iv st.sides))) y (.ins a.t dx [(("turn":Str),V.int st.turn),(("cells":Str),V.ref ph),(("sides":Str),V.ref ls)]) y=some (.ins a.t dx [(("turn":Str),V.int st.turn),(("cells":Str),V.ref ph),(("sides":Str),V.ref ls)]):=pE;have nl5:NL (upd (upd H3 ls (.lst (iv st.sides))) y (.ins a.t dx [(("turn":Str),V.int st.turn),(("cells":Str),V.ref ph),(("sides":Str),V.ref ls)])) (zZ H) ph acs (qF st.cells):=nl3.keep (λz o hz ho=>by
  refine(pF (λq=>?_)).trans (pH ho hls);rcases hz with h|h|h
  .exact nay (h.symm.trans q)
  .exact(hx0 (frc z h)).1 q
  .obtain⟨xs,hx⟩:=h;rw[q,hy]at hx;cases hx) λ_ hp _=>hp
 have ls5:upd (upd H3 ls (.lst (iv st.sides))) y (.ins a.t dx [(("turn":Str),V.int st.turn),(("cells":Str),V.ref ph),(("sides":Str),V.ref ls)]) ls=some (.lst (iv st.sides)):=by rw[pF nlsy];exact pE
 have nlsa:ls∉ph::acs:=λz=>by
  rcases aC.mp z with h|h
  .rw[h,nl3.out]at hls;cases hls
  .obtain⟨j,hj⟩:=bF h;let⟨vs,h1,_⟩:=nl3.g j ls _ hj (af (by rw[<- nl3.len];exact(aa.mp hj).1));rw[h1]at hls;cases hls
 generalize upd (upd H3 ls (.lst (iv st.sides))) y (.ins a.t dx [(("turn":Str),V.int st.turn),(("cells":Str),V.ref ph),(("sides":Str),V.ref ls)])=H5 at o5 y5 nl5 ls5 ⊢;clear nl3 o3 y3 hls y4;walk_at"d";exists⟨g0,rfl,.inl ⟨⟨_,SqL.of (o5 _ _ (hp _ pg0) hg0)⟩,λ_ _ _ _ ag hag=>?_⟩⟩;let pw:Nat->St->Hp->Prop:=λi σ H'=>∃(v0:Aq)(as:Ac),σ=[v0]/\Same H5 H'/\NL H' (zZ H) ag as (qJ (st.gone.take i))/\∀b∈as,H5 b=none;refine qb (K:=K) (a:=g0) (xs:=ugs) pw (iE2 _ ([]) (iA4 rfl (zc hag) (by rw[bT];exact zaq pE) (by simp))) (λi σ H' _ h=>by let⟨_,_,_,s,_⟩:=h;exact SqL.of (s _ _ (o5 _ _ (hp _ pg0) hg0))) ?_ ?_
 .intro i x σ H2 hi p9;refine oE2 p9 λv0 as p7=>oA4 p7 λp8 s2 nl fr=>?_;ext;let⟨d,hd,rx⟩:=rgs.at hi;rw[ai,ai]at hd;let⟨c,hc⟩:∃c,st.gone[i]?=some c:=by
   cases e:st.gone[i]? with
   |none=>rw[e]at hd;cases hd
   |some c=>exact⟨c,rfl⟩
  rw[hc]at hd;cases hd;refine oE2 (Rep.lst' rx) λli vi p7=>oA4 p7 λp8 pli hli ri=>?_;clear p7;subst p8;have hil:=(aa.mp hc).1;have hli2:=s2 _ _ (o5 _ _ (hp _ pli) hli);exists iE2 li _ (iA3 rfl (.inl (SqL.of hli2)) (λb hb=>?_));have nb:b∉as:=λz=>by
   let⟨j,hj⟩:=bF z;let⟨vs,h1,_⟩:=nl.g j b _ hj (af (by rw[<- nl.len];exact(aa.mp hj).1));rw[h1]at hb;cases hb
  have nG:b≠ag:=λz=>by rw[z,nl.out]at hb;cases hb
  have s3:Same H2 (upd H2 b (.lst vi)):=zc hb;have ac3:=pH (o:=.lst vi) nl.out hb;refine⟨_,iA3 ac3 (zm (by rw[ae,nl.len,ae,aE];lia)) ?_⟩;have ri3:Reps (upd H2 b (.lst vi)) (zZ H) vi (c.map D.int):=(zbl ri (zeH c)).keep λz o pz hz=>⟨pz,s3 _ _ (s2 _ _ (o5 _ _ (kp z pz (by rw[hz];intro q;cases q)) hz))⟩;have nl3:=(nl.same s3).push (b:=b) (vs:=vi) (ys:=c.map D.int) pE nb nG (λ⟨xs,hx⟩=>by
   have:=o5 _ _ (kp ag ⟨xs,hx⟩ (by rw[hx];intro q;cases q)) hx;rw[hag]at this;cases this) ri3
  refine iE2 _ (as++[b]) (iA4 rfl ?_ ?_ ?_)
  .exactλz o hz=>by rw[pF (pG hz hag)];exact s3 _ _ (s2 _ _ hz)
  .rw[aO,hc];rw[show qJ (st.gone.take i++(some c).toList)=qJ (st.gone.take i)++[c.map D.int] by simp[qJ]];exact nl3
  .intro z hz;rcases ax.mp hz with hz|hz
   .exact fr z hz
   .rw[ak.mp hz];exact zK s2 hb
 intro σ H6 p9;refine oE2 p9 λv0' ags p7=>oA4 p7 λp8 s6 nlg frg=>?_;ext;rw[lgs,aG]at nlg;have y6:=s6 _ _ y5;exists iE4 y a.t dx _ (iA6 rfl y6 T.ad T.gS (by simp) ?_);rw[zjG];have hx5:∀{z:Addr},H5 z=none->z≠y/\H z=none:=λ{z} hz=>by
  have n1:z≠y:=λq=>by rw[q,y5]at hz;cases hz
  refine⟨n1,?_⟩;cases e:H z with
  |none=>rfl
  |some o=>rw[o5 z o n1 e]at hz;cases hz
 have ngy:=(hx5 hag).1;have o7:Own H (upd H6 y (.ins a.t dx (sff st.turn ph ls ag))) y:=(o5.trans (Same.own s6)).trans jo;have tp:∀b,zZ H b->H b≠none->zZ (upd H6 y (.ins a.t dx (sff st.turn ph ls ag))) b:=λb ⟨xs,hx⟩ hn=>⟨xs,o7 _ _ (kp b ⟨xs,hx⟩ hn) hx⟩;have inA:∀z,z∈ph::acs->∃o,H5 z=some o:=λz hz=>by
  rcases aC.mp hz with h|h
  .exact⟨_,h ▸ nl5.out⟩
  .obtain⟨j,hj⟩:=bF h;let⟨vs,h1,_⟩:=nl5.g j z _ hj (af (by rw[<- nl5.len];exact(aa.mp hj).1));exact⟨_,h1⟩
 refine k _ ⟨dx,ph,ls,ag,acs,ags⟩ rfl o7 ⟨pE,?_,?_,?_,?_⟩ ?_
 .exact(nl5.same s6).keep (λz o hz ho=>by
   refine(pF (λq=>?_)).trans ho;rcases hz with h|h|h
   .exact nay (h.symm.trans q)
   .exact(hx0 (frc z h)).1 q
   .obtain⟨xs,hx⟩:=h;rw[q,hy]at hx;cases hx) λb hb hn=>by
    let⟨xs,hx⟩:=hb;exact tp b ⟨xs,hx⟩ (by rw[hx];intro q;cases q)
 .show upd H6 y _ ls=_
  rw[pF nlsy];exact s6 _ _ ls5
 .exact nlg.keep (λz o hz ho=>by
   refine(pF (λq=>?_)).trans ho;rcases hz with h|h|h
   .exact ngy (h.symm.trans q)
   .exact(hx5 (frg z h)).1 q
   .obtain⟨xs,hx⟩:=h;rw[q,hy]at hx;cases hx) λb hb hn=>by
    let⟨xs,hx⟩:=hb;exact tp b ⟨xs,hx⟩ (by rw[hx];intro q;cases q)
 .show(ls::ph::ag::(acs++ags)).Nodup
  have ls5':∀z,H5 z=none->z≠ls:=λz hz q=>by rw[q,ls5]at hz;cases hz
  rw[cT,cT,cT];refine iA4 (λz=>?_) (λz=>?_) (λz=>?_) ?_
  .rcases aC.mp z with h|z
   .exact nlsa (h ▸ bt ..)
   rcases aC.mp z with h|z
   .exact ls5' ag hag h.symm
   rcases ax.mp z with z|z
   .exact nlsa (aF _ z)
   .exact ls5' ls (frg ls z) rfl
  .rcases aC.mp z with h|z
   .rw[<- h,nl5.out]at hag;cases hag
   rcases ax.mp z with z|z
   .exact nl5.nG z
   .have:=frg ph z;rw[nl5.out]at this;cases this
  .rcases ax.mp z with z|z
   .obtain⟨o,ho⟩:=inA ag (aF _ z);rw[hag]at ho;cases ho
   .exact nlg.nG z
  .rw[nodup_append];refine⟨nl5.nd,nlg.nd,λu hu v hv q=>?_⟩;subst q;let⟨o,ho⟩:=inA u (aF _ hu);rw[frg u hv]at ho;cases ho
 .intro b hb;rcases aC.mp hb with rfl|hb
  .exact hls0
  rcases aC.mp hb with rfl|hb
  .exact(hx0 hacc).2
  rcases aC.mp hb with rfl|hb
  .exact(hx5 hag).2
  rcases ax.mp hb with hb|hb
  .exact(hx0 (frc b hb)).2
  .exact(hx5 (frg b hb)).2
def zdB(T:Txt K mg a):KCal P w K mg base "State" a.t 1 ["self","turn","cells","sides","gone"] [] (w9 a):=T.mS.cal T.oZ (WD T)
def qS{rs:At}(h:Rep H p v (qy a bs rs)):∃y dx fs l1 l2 bvs pi,v=.ref y/\H y=some (.ins a.u dx fs)/\fs.lookup ("belts":Str)=some (.ref l1)/\fs.lookup ("knots":Str)=some (.ref l2) /\
  H l1=some (.lst bvs)/\H l2=some (.lst pi)/\Bts a H p bvs bs/\Kns a H p pi rs/\∀f:Str,f≠"belts"->f≠"knots"->fs.lookup f=none:=by
 let⟨y,dx,fs,rfl,py,hy,g1,g2⟩:=Rep.ob' h;let⟨u1,e1,r1⟩:=g1 _ _ zaT;let⟨u2,e2,r2⟩:=g1 _ _ zeZ;let⟨l1,bvs,rfl,_,h1,b1⟩:=r1.lst';let⟨l2,pi,rfl,_,h2,b2⟩:=r2.lst';exact⟨y,dx,fs,l1,l2,bvs,pi,rfl,hy,e1,e2,h1,h2,.of b1,.of b2,λf n1 n2=>g2 f (zja n1 n2)⟩
noncomputable def vJ(ks:A7)(n:Int):Int:=ks.getD (n%(ks.length:Int)).toNat 0
def zeD(n:Int)(h:0<ks.length):atI (iv ks) (n%(ks.length:Int))=some (.int (vJ ks n)):=by
 have h0:=aU n (show(ks.length:Int)≠0 by lia);have h1:=aP n (show(0:Int)<ks.length by lia);unfold vJ;generalize n%(ks.length:Int)=m at h0 h1 ⊢;have hlt:m.toNat<ks.length:=by lia
 have e:m=(m.toNat:Int):=by lia
 have:=zJ (xa (af hlt));rw[<- e]at this;rw[this];simp[hlt]
def zaV{s n:Int}(h:Rep H p v (.tup [.int s,.int n])):∃t,v=.ref t/\H t=some (.tup [.int s,.int n]):=Qa (b:=(s,n)) h
def zau{pi:Ap}{rs:At}{r:Row}(hK:Kns a H p pi rs)(h:rs[j]?=some r):∃kv,pi[j]?=some kv/\KnP a H p kv r:=by
 have hj:=(aa.mp h).1;have e:pi[j]?=some (pi[j]'(by rw[hK.len];exact hj)):=af _;exact⟨_,e,hK.g j _ r e h⟩
def zff(a:Ad):Sp:=λvs H Q _=>∃(v vwr:V)(bs:A1)(rs:At)(p q:A6)(s:Nat)(n:Int)(r:Row),vs=[v,vwr]/\Rep H p v (qy a bs rs)/\Rep H q vwr (.tup [.int s,.int n])/\rs[s]?=some r/\r.wd=.source/\0<r.kinds.length/\Q (.int (vJ r.kinds n)) H
def VC(T:Txt K mg a):Cal P w K mg base "kind_of" 1 ["work","ware"] [] (zff a):=T.oo.cal λF=>by
 refine F.okx zcv ?_ ?_
 .walk_at"i"
 walk_at"j";refine oE5 h λv vwr bs rs p p7=>oE4 p7 λq sc n r p8=>oA7 p8 λpj hv hw hr' hs hk k=>?_;clear p7 p8 h;subst pj;refine oE7 (qS hv) λy dx fs l1 l2 bvs pi p7=>oA9 p7 λp8 hy e1 e2 h1 h2 hB hK no=>?_;clear p7;subst p8;let⟨t,rfl,ht⟩:=zaV hw;let⟨kv,hkv,hKn⟩:=zau hK hr';refine oE6 hKn.inv λy1 dx1 m1 m2 m3 fs1 p7=>oA9 p7 λp8 _ _ _ _ g0 _ _ pj=>oA5 pj λ_ _ _ g3 _=>?_;clear p7 pj;subst p8;let⟨g3a,g3b⟩:=g3 hs;walk_at"T";refine⟨_,(zg (zr 2 zcv.nd (zt (zq (zt (pq 0) rfl) (zq (pq 1) ze)) rfl))  (zd (zj (zq (pq 2) (zo qD (zq (pq 1) ze) (zE zC zB (za (pq 2) zb))))))),?_⟩;exists ra hy T.gM T.gI e2 (pI ht at0 (zu (SqL.of h2) (zJ hkv) ?_));refine iE5 y1 (wK a r.wd) dx1 fs1 _ (iA6 rfl g0 (CT T _) (by rw[hs];exact T.ib) g3a ?_);exists pI ht rfl ?_;exists⟨_,.inl ⟨_,SqL.of g3b,rfl⟩,?_⟩;rw[zA];left;exact⟨by lia,zu (SqL.of g3b) (zeD n hk) k⟩
noncomputable def qW(r:Row):List Int:=List.replicate (max r.ins.length r.outs.length) 0
def zim{α:Type}(n:Nat)(x:α):(List.replicate n [x]).flatten=List.replicate n x:=by
 induction n with
 |zero=>rfl
 |succ n ih=>rw[cO,dO,ih];rfl
def zgc(n:Nat)(x:Int):List.replicate n (V.int x)=iv (List.replicate n x):=by simp[iv]
def ziI(m n:Nat):(if (n:Int)>(m:Int)then(n:Int)else(m:Int))=((max m n:Nat):Int):=by
 by_cases h:(n:Int)>(m:Int)
 .rw[aq h];lia
 .rw[ao h];lia
def vx{r:Row}(h:r.ok):r.ins.length<=4/\r.outs.length<=4:=by
 let⟨wd,ins,outs,pc,ks⟩:=r;cases wd
 .obtain⟨h1,⟨o,h2⟩,_⟩:=h;simp only at h1 h2;subst h1 h2;simp
 .obtain⟨⟨o,h1⟩,h2,_⟩:=h;simp only at h1 h2;subst h1 h2;simp
 .obtain⟨⟨o,h1⟩,_,h2⟩:=h;simp only at h1 h2;subst h1;exact⟨by simp,h2⟩
 .obtain⟨⟨o,h1⟩,_,h2⟩:=h;simp only at h1 h2;subst h1;exact⟨by simp,h2⟩
 .obtain⟨⟨o,h1⟩,h2,_⟩:=h;simp only at h1 h2;subst h1;exact⟨by simp,by show outs.length<=4;lia⟩
 .obtain⟨⟨o,h1⟩,_,h2⟩:=h;simp only at h1 h2;subst h1;exact⟨h2,by simp⟩
def zd3(a:Ad)(H H':Hp)(v:V)(st:PSt):Prop:=∃y n,v=.ref y/\StO a H' y n st/\H y=none/\H n.dx=none/\∀b∈n.all,H b=none
def zbD(T:Txt K mg a){st:PSt}{vc vs' vg:V}{Q:Addr->Hp->Prop}{E:XK}(rc:Rep H p vc (.lst ((qF st.cells).map D.lst)))(rs:Rep H p vs' (.ints st.sides))(rg:Rep H p vg (.lst ((qJ st.gone).map D.lst)))(lc:st.cells.length<=100)(lg:st.gone.length<=100)(k:∀y H',Same H H'->zd3 a H H' (.ref y) st->Q y H'):∀(x dx:Addr),H x=none->H dx=none->dx≠x->w9 a [.ref x,.int st.turn,vc,vs',vg] (upd (upd H dx (.own x)) x (.ins a.t dx [])) (λv H2=>v=.non/\Q x H2) E:=by
 intro y dy hy hdy hne;have kp:∀b o,p b->H b=some o->b≠y/\upd (upd H dy (.own y)) y (.ins a.t dy []) b=some o:=λb o _ hb=>⟨pG hb hy,qf hy hdy hb⟩;refine⟨y,dy,vc,vs',vg,st,λb=>b≠y,rfl,pE,λ_ h=>h,rc.keep kp,rs.keep kp,rg.keep kp,lc,lg,λH' n en o so fr=>⟨rfl,?_⟩⟩;exact k _ _ (Own.of_new hy hdy o) ⟨y,n,rfl,so,hy,by rw[en];exact hdy,λb hb=>zL (fr b hb)⟩
def zco(a:Ad):Sp:=λvs H Q _=>∃(v:V)(r:Row)(p:A6),vs=[v]/\KnP a H p v r/\r.ins.length<=100/\r.outs.length<=100/\∀q H',Same H H'->H q=none->H' q=some (.lst (iv (qW r)))->Q (.ref q) H'
def zb2(T:Txt K mg a):Cal P w K mg base "no_counts" 1 ["knot"] [] (zco a):=T.mW.cal λF=>by
 refine F.okx VV ?_ ?_
 .walk_at"i"
 walk_at"j";let⟨v,r,p,rfl,hKn,l1,l2,k⟩:=h;let⟨y1,dx1,m1,m2,m3,fs1,rfl,_,_,_,_,g0,f1,f2,_,g1,g2,g3,_⟩:=hKn.inv;walk_at"T";refine⟨_,(zd (zj (zo zcJ (zn (za ze zb)) (zE (VB rfl) zgy (za (zE zC zB (za (zt (pq 0) rfl) zb)) (za (zE zC zB (za (zt (pq 0) rfl) zb)) zb)))))),?_⟩;left;intro q hq;have sq:=zc (o:=.lst [V.int 0]) hq;refine⟨og,gJ,?_⟩;refine ra (sq _ _ g0) (CT T _) (NI T _) f1 ⟨_,.inl ⟨_,SqL.of (sq _ _ g1),rfl⟩,?_⟩;refine⟨gJ,?_⟩;refine ra (sq _ _ g0) (CT T _) (NO T _) f2 ⟨_,.inl ⟨_,SqL.of (sq _ _ g2),rfl⟩,?_⟩;rw[zA,zA];refine⟨_,_,rfl,?_⟩;rw[ziI];refine⟨q,_,_,rfl,rfl,pE,by lia,by lia,?_,λq2 hq2=>?_⟩
 .refine qN ?_;simp
  lia
 .rw[zim,aK,zgc];exact k q2 _ (sq.trans (zc hq2)) (zK sq hq2) pE
noncomputable def qR(bs:A1)(rs:At):PSt:=⟨0,bs.map λb=>List.replicate b.1.toNat none,List.replicate rs.length 0,rs.map qW⟩
def zgT(a:Ad):Sp:=λvs H Q _=>∃(v:V)(bs:A1)(rs:At)(p:A6),vs=[v]/\Rep H p v (qy a bs rs)/\bs.length<=24/\rs.length<=24/\(∀b∈bs,zH b.1 b.2)/\(∀r∈rs,r.ok)/\∀v' H',Same H H'->zd3 a H H' v' (qR bs rs)->Q v' H'
def WL(T:Txt K mg a):Cal P w K mg base "empty_state" 3 ["work"] [] (zgT a):=T.l9.cal λF=>by
 refine F.okx Xl ?_ ?_
 .walk_at"i"
 walk_at"j";refine oE4 h λv bs rs p p7=>oA7 p7 λp8 hv lb lr bo ro k=>?_;clear p7 h;subst p8;refine oE7 (qS hv) λy dx fs l1 l2 bvs pi p7=>oA9 p7 λp8 hy e1 e2 h1 h2 hB hK no=>?_;clear p7;subst p8;walk_at"T";refine⟨_,(zh (Z7 (i:=1) Xl.nd rfl (Or.inl rfl) (vars:=["belt"]) (caps:=[]) (N:=["belt"]) (ON:=["work","cells","sides"]) (osc:=zf jL) rfl rfl (by right) rfl rfl (zN (zt (pq 0) rfl)) (λ_ _ _ _=>(zX 0 (show(["belt"]:A9).Nodup from by symm))) (λ_ _ _ _=>z8) (λ_ _ _ _=>(zo zcJ (zn (za zG zb)) (zt (pq 0) rfl))))  (zh (zr 2 Xl.nd (zo zcJ (zn (za ze zb)) (zE zC zB (za (zt (pq 0) rfl) zb))))  (zd (zj (jT (x:="State") ⟨rfl,rfl,rfl⟩ hr (za ze (za (pq 1) (za (pq 2) (za (jk (vars:=["knot"]) (caps:=[]) (N:=["knot"]) (ON:=["work","cells","sides"]) (osc:=zf jL) rfl rfl (by right) rfl rfl (zN (zt (pq 0) rfl)) (λ_ _ _ _=>(zX 0 (show(["knot"]:A9).Nodup from by symm))) (λ_ _ _ _=>z8) (λ_ _ _ _=>(vA hr (za (pq 0) zb)))) zb))))))))),?_⟩;left;walk_at"d";exists ra hy T.gM T.hZ e1 ⟨l1,rfl,.inl ⟨⟨_,SqL.of h1⟩,λ_ _ _ _ ph hacc=>?_⟩⟩;let pk:Nat->St->Hp->Prop:=λi σ H'=>∃(v0:Aq)(us:Ap),σ=[v0]/\Same H H'/\H' ph=some (.lst us)/\Reps H' (Off [ph]) us ((bs.take i).map λb=>D.lst (List.replicate b.1.toNat .non));refine qb (K:=K) (a:=l1) (xs:=bvs) pk (iE2 _ ([]) (iA4 rfl (zc hacc) pE (by rw[bT];exact .nil))) (λi σ H' _ h=>by let⟨_,_,_,s,_⟩:=h;exact SqL.of (s _ _ h1)) ?_ ?_
 .intro i x σ H2 hi p9;refine oE2 p9 λv0 us p7=>oA4 p7 λp8 s2 ha ru=>?_;ext;let⟨b,hb',hBt⟩:=hB.at hi;refine oE3 hBt.inv λy1 dx1 fs1 p7=>oA5 p7 λp8 _ g0 f1 f2=>?_;clear p7;subst p8;have hil:=(aa.mp hb').1;have bk:=bo b (ah hb');left;intro q hq;have sq:=zc (o:=.lst [V.non]) hq;refine ra (sq _ _ (s2 _ _ g0)) T.iD T.iI f1 ?_;have b1:=bk.1;have b2:=bk.2.1;refine iE3 q _ _ (iA7 rfl rfl pE (by lia) (by lia) (qN (by simp;lia)) (λq2 hq2=>?_));rw[zim];have s3:=sq.trans (zc (o:=.lst (List.replicate b.1.toNat V.non)) hq2);have h3:upd (upd H2 q (.lst [V.non])) q2 (.lst (List.replicate b.1.toNat V.non)) q2=some (.lst (List.replicate b.1.toNat V.non)):=pE;have n2:H2 q2=none:=zK sq hq2;generalize upd (upd H2 q (.lst [V.non])) q2 (.lst (List.replicate b.1.toNat V.non))=H3 at s3 h3 ⊢;have f5:Fr [ph] H3 (upd H3 ph (.lst (us++[.ref q2]))):=qx (by simp);have nq:=zao ha n2;refine⟨_,iA3 (s3 _ _ ha) (zm (by rw[ru.len,ae,aE];lia)) (iE2 _ (us++[.ref q2]) (iA4 rfl (((s2.trans s3).fr.trans f5).same (by intro m hm;rw[ak.mp hm];exact hacc)) pE ?_))⟩;rw[aO,hb',aZ];refine((ru.same s3).fr f5).append (.one ?_);refine Reps.mk' ⟨by simp,λj u d a1 a2=>?_⟩ nq (f5 _ _ nq h3);have a1:=ah a1;have a2:=ah a2;rw[(cx.mp a1).2,(cx.mp a2).2];exact .non
 intro σ H2 p9;refine oE2 p9 λv0 us p7=>oA4 p7 λp8 s2 ha ru=>?_;ext;rw[hB.len,aG]at ru;left;intro q hq;have sq:=zc (o:=.lst [V.int 0]) hq;exists ra (sq _ _ (s2 _ _ hy)) T.gM T.gI e2 ⟨_,.inl ⟨_,SqL.of (sq _ _ (s2 _ _ h2)),rfl⟩,?_⟩;rw[hK.len];refine iE3 q _ _ (iA7 rfl rfl pE (by lia) (by lia) (qN (by simp;lia)) (λls hls=>?_));rw[zim,aK,zgc];have s3:Same H (upd (upd H2 q (.lst [V.int 0])) ls (.lst (iv (List.replicate rs.length 0)))):=(s2.trans sq).trans (zc hls);have ha3:=pH (o:=.lst (iv (List.replicate rs.length 0))) (sq _ _ ha) hls;have ru3:=(ru.same sq).same (zc (o:=.lst (iv (List.replicate rs.length 0))) hls);have h3:upd (upd H2 q (.lst [V.int 0])) ls (.lst (iv (List.replicate rs.length 0))) ls=some (.lst (iv (List.replicate rs.length 0))):=pE;generalize upd (upd H2 q (.lst [V.int 0])) ls (.lst (iv (List.replicate rs.length 0)))=H3 at s3 ha3 ru3 h3 ⊢;exists iE4 a.t _ _ _ ⟨(zdB T).mono,?_⟩;walk_at"d";exists ra (s3 _ _ hy) T.gM T.gI e2 ⟨l2,rfl,.inl ⟨⟨_,SqL.of (s3 _ _ h2)⟩,λ_ _ _ _ ac2 hac2=>?_⟩⟩;let pw:Nat->St->Hp->Prop:=λi σ H'=>∃(v0:Aq)(us:Ap),σ=[v0]/\Same H3 H'/\H' ac2=some (.lst us)/\Reps H' (Off [ac2]) us ((rs.take i).map λr=>D.ints (qW r));refine qb (K:=K) (a:=l2) (xs:=pi) pw (iE2 _ ([]) (iA4 rfl (zc hac2) pE (by rw[bT];exact .nil))) (λi σ H' _ h=>by let⟨_,_,_,s,_⟩:=h;exact SqL.of (s _ _ (s3 _ _ h2))) ?_ ?_
 .intro i x σ H4 hi p9;refine oE2 p9 λv0 us p7=>oA4 p7 λp8 s4 ha4 ru4=>?_;ext;let⟨r,hr',hKn⟩:=hK.at hi;have hil:=(aa.mp hr').1;have rl:=vx (ro r (ah hr'));exists uc (zb2 T).mono (iE3 x r p (iA5 rfl (hKn.keep (λb o pb hb=>⟨pb,s4 _ _ (s3 _ _ hb)⟩)) (by lia) (by lia) (λq2 H5 s5 n2 h5=>?_)));have f5:Fr [ac2] H5 (upd H5 ac2 (.lst (us++[.ref q2]))):=qx (by simp);have nq:=zao ha4 n2;refine⟨_,iA3 (s5 _ _ ha4) (zm (by rw[ru4.len,ae,aE];lia)) (iE2 _ (us++[.ref q2]) (iA4 rfl (((s4.trans s5).fr.trans f5).same (by intro m hm;rw[ak.mp hm];exact hac2)) pE ?_))⟩;rw[aO,hr',aZ];exact((ru4.same s5).fr f5).append (.one (qe nq (f5 _ _ nq h5)))
 intro σ H4 p9;refine oE2 p9 λv0' us4 p7=>oA4 p7 λp8 s4 ha4 ru4=>?_;ext;rw[hK.len,aG]at ru4;have s34:=s3.trans s4;refine zbD T (st:=qR bs rs) (p:=Off []) ?_ ?_ ?_ (by simp[qR];lia) (by simp[qR];lia) (λv' H5 s5 so=>k _ _ (s34.trans s5) ?_)
 .have:=(ru3.same s4).all;rw[show(bs.map λb=>D.lst (List.replicate b.1.toNat .non))=(qF (qR bs rs).cells).map D.lst by simp[qR,qF,qB,eD]]at this;exact this.mk' (λz=>nomatch z) (s4 _ _ ha3)
 .exact qe (λz=>nomatch z) (s4 _ _ h3)
 .have:=ru4.all;rw[show(rs.map λr=>D.ints (qW r))=(qJ (qR bs rs).gone).map D.lst by simp[qR,qJ,eD]]at this;exact this.mk' (λz=>nomatch z) ha4
 .refine oE2 so λy5 n5 p7=>oA5 p7 λe5 o5 f1 f2 f3=>?_;clear p7 so;exact iE2 y5 n5 (iA5 e5 o5 (zK s34 f1) (zK s34 f2) (λb hb=>zK s34 (f3 b hb)))
def zbX{r:Row}(h:r.ok)(hw:r.wd=.joiner):qW r=List.replicate r.ins.length 0:=by
 let⟨wd,ins,outs,pc,ks⟩:=r;simp only at hw;subst hw;let⟨⟨o,h1⟩,h2,_⟩:=h;simp only at h1 h2;subst h1;unfold qW;rw[Nat.max_eq_left (by simp;lia)]
def zc9{r:Row}(h:r.ok)(hw:r.wd≠.joiner):qW r=List.replicate (max 1 r.outs.length) 0:=by
 let⟨wd,ins,outs,pc,ks⟩:=r;unfold qW;cases wd
 .obtain⟨h1,⟨o,h2⟩,_⟩:=h;simp only at h1 h2;subst h1 h2;rfl
 .obtain⟨⟨o,h1⟩,h2,_⟩:=h;simp only at h1 h2;subst h1 h2;rfl
 .obtain⟨⟨o,h1⟩,h2,_⟩:=h;simp only at h1 h2;subst h1;rfl
 .obtain⟨⟨o,h1⟩,h2,_⟩:=h;simp only at h1 h2;subst h1;rfl
 .obtain⟨⟨o,h1⟩,h2,_⟩:=h;simp only at h1 h2;subst h1;rfl
 .exact absurd rfl hw
def Ql{r:Row}(h:r.ok):1<=(qW r).length/\(qW r).length<=4:=by
 have:=vx h;by_cases hw:r.wd=.joiner
 .rw[zbX h hw,bx];let⟨wd,ins,outs,pc,ks⟩:=r;simp only at hw;subst hw;have:=h.2.1;simp only at this;constructor
  .show 1<=ins.length;lia
  .exact h.2.2
 .rw[zc9 h hw,bx]
  lia
def Zr(rs:At)(x:qp):Prop:=∀s n,x=some (s,n)->∃(j:Nat)(r:Row),s=j/\rs[j]?=some r/\r.wd=.source/\0<=n
def zc0(rs:At)(gss:List A7):Prop:=gss.length=rs.length/\∀(i:Nat) r g,rs[i]?=some r->gss[i]?=some g->g.length=(qW r).length/\∀n∈g,0<=n
def xm(bs:A1)(rs:At)(css:Au):Prop:=css.length=bs.length/\∀(i:Nat) b c,bs[i]?=some b->css[i]?=some c->c.length=b.1.toNat/\∀x∈c,Zr rs x
def zgi{rs:At}{gss:List A7}(h:zc0 rs gss){g g':A7}(e:gss[j]?=some g)(l:g'.length=g.length)(n:∀x∈g',0<=x):zc0 rs (gss.set j g'):=by
 refine⟨by rw[a7];exact h.1,λi r x h1 h2=>?_⟩;by_cases hj:i=j
 .subst hj;rw[aN (aa.mp e).1]at h2;cases h2;exact⟨by rw[l];exact(h.2 i r g h1 e).1,n⟩
 .rw[aW (ba hj)]at h2;exact h.2 i r x h1 h2
def QB(r:Row)(s:Int):Prop:=0<=s/\(r.wd=.parter->s<r.outs.length)/\(r.wd=.joiner->s<r.ins.length)/\(r.wd≠.parter->r.wd≠.joiner->s=0)
def VS(rs:At)(sds:A7):Prop:=sds.length=rs.length/\∀(i:Nat) r s,rs[i]?=some r->sds[i]?=some s->QB r s
noncomputable def qi(cs:Au)(b:Int):List qp:=cs.getD b.toNat []
noncomputable def Zd(c:Av):qp:=c.getLastD none
noncomputable def zgB(c:Av):qp:=c.headD none
noncomputable def Zl(rs:At):qp->Option Int:=Option.map λx=>vJ ((rs[x.1.toNat]?.map Row.kinds).getD []) x.2
noncomputable def qM(rs:At)(cs:Au)(r:Row):List Aa:=r.ins.map λb=>Zl rs (Zd (qi cs b))
noncomputable def jD(cs:Au)(r:Row):List Bool:=r.outs.map λb=>decide (zgB (qi cs b)=none)
def zdA{α:Type}{xs:List α}{d:α}(h:xs≠[]):atI xs (-1)=some (xs.getLastD d):=by
 have hl:0<xs.length:=dP.mpr h;unfold atI ixN;rw[ao (by decide),aq (by lia)];have e:((-1:Int)+xs.length).toNat=xs.length-1:=by lia
 simp only[Option.bind_some,e];rw[af (by lia),b7,List.getLast?_eq_getElem?,af (by lia)]
 rfl
def zbE{c:Av}:(c.map qB).getLastD .non=qB (Zd c):=by
 unfold Zd;rw[b7,b7,List.getLast?_map];cases c.getLast? <;> rfl
structure stWf(bs:A1)(rs:At)(st:PSt):Prop where
 co:xm bs rs st.cells
 so:VS rs st.sides
 go:zc0 rs st.gone
def wL{rs:At}{cs:Au}(h:xm bs rs cs)(bo:∀b∈bs,zH b.1 b.2){b:Int}(hb:b∈rgI bs.length):∃(i:Nat),b=i/\i<cs.length/\cs[i]?=some (qi cs b)/\qi cs b≠[]/\∀x∈qi cs b,Zr rs x:=by
 let⟨h0,h1⟩:=zas hb;let⟨i,rfl⟩:∃i:Nat,b=i:=⟨b.toNat,by lia⟩;have hi:i<cs.length:=by rw[h.1];lia
 have e:cs[i]?=some (qi cs i):=by
  unfold qi;rw[aK,af hi];simp[hi]
 have hib:i<bs.length:=by lia
 let⟨q1,q2⟩:=h.2 i bs[i] _ (af hib) e;refine⟨i,rfl,hi,e,?_,q2⟩;intro z;rw[z]at q1;have:=(bo _ (cr hib)).1;simp at q1
 lia
def JP{rs:At}{r:Row}{b:Int}(w:zV bs rs)(h:rs[k]?=some r)(hb:b∈r.ins):b∈rgI bs.length :=
 w.2.2.mem_iff.mp (dn.mpr ⟨r,ah h,hb⟩)
def XE{rs:At}{r:Row}{b:Int}(w:zV bs rs)(h:rs[k]?=some r)(hb:b∈r.outs):b∈rgI bs.length :=
 w.2.1.mem_iff.mp (dn.mpr ⟨r,ah h,hb⟩)
def zdO{c:Av}(h:c≠[]):Zd c∈c:=by
 unfold Zd;rw[b7,List.getLast?_eq_some_getLast h];exact List.getLast_mem h
def zd9{st:PSt}(h:Rep H p v (X7 a st)):∃y dx fs lc ls lg ucs ugs,v=.ref y/\H y=some (.ins a.t dx fs)/\fs.lookup ("turn":Str)=some (.int st.turn)/\fs.lookup ("cells":Str)=some (.ref lc)/\fs.lookup ("sides":Str)=some (.ref ls)/\fs.lookup ("gone":Str)=some (.ref lg) /\
  H lc=some (.lst ucs)/\Reps H p ucs ((qF st.cells).map D.lst)/\H ls=some (.lst (iv st.sides))/\H lg=some (.lst ugs)/\Reps H p ugs ((qJ st.gone).map D.lst):=by
 let⟨y,dx,fs,rfl,py,hy,g1,g2⟩:=Rep.ob' h;let⟨u1,e1,r1⟩:=g1 _ _ (za0 st);let⟨u2,e2,r2⟩:=g1 _ _ (WU st);let⟨u3,e3,r3⟩:=g1 _ _ (WS st);let⟨u4,e4,r4⟩:=g1 _ _ (za1 st);cases r1;let⟨lc,ucs,rfl,_,hc,rc⟩:=r2.lst';let⟨ls,rfl,_,hs⟩:=r3.ints';let⟨lg,ugs,rfl,_,hg,rg⟩:=r4.lst';exact⟨y,dx,fs,lc,ls,lg,ucs,ugs,rfl,hy,e1,e2,e3,e4,hc,rc,hs,hg,rg⟩
def zgg{dss:List (List D)}(h:Reps H p us (dss.map D.lst)){ds:List D}(e:dss[i]?=some ds):∃l vs,us[i]?=some (.ref l)/\H l=some (.lst vs)/\Reps H p vs ds:=by
 let⟨v,h1,h2⟩:=h.of (i:=i) (d:=.lst ds) (by rw[ai,e];rfl);let⟨l,vs,rfl,_,h3,h4⟩:=h2.lst';exact⟨l,vs,h1,h3,h4⟩
inductive spHeads(a:Ad)(vs:Ap)(H:Hp)(Q:VK)(E:XK):Prop
 |i (vw vs' vk:V) (bs:A1) (rs:At) (st:PSt) (k:Nat) (r:Row) (p q:A6):vs=[vw,vs',vk]->Rep H p vw (qy a bs rs)->Rep H q vs' (X7 a st)->KnP a H p vk r->rs[k]?=some r->zV bs rs->(∀b∈bs,zH b.1 b.2)->(∀r∈rs,r.ok)->xm bs rs st.cells->(∀l H',Same H H'->H l=none->H' l=some (.lst ((qM rs st.cells r).map hdV))->Q (.ref l) H')->spHeads a vs H Q E
theorem zdd(T:Txt K mg a):Cal P w K mg base "heads_of" 2 ["work","state","knot"] [] (spHeads a):=T.nY.cal λF=>by
 refine F.okx zbd ?_ ?_
 .walk_at"i"
 walk_at"j";rcases h with⟨vw,vs',vk,bs,rs,st,kn,r,p,q,rfl,hw,hs,hk,hr',wok,bo,ro,co,k⟩;refine oE8 (zd9 hs) λy dx fs lc ls lg ucs ugs p7=>oA9 p7 λp8 hy e1 e2 e3 e4 hc rc pj=>oA3 pj λhsd hg rg=>?_;clear p7 pj;subst p8;refine oE6 hk.inv λy1 dx1 m1 m2 m3 fs1 p7=>oA9 p7 λp8 _ _ _ _ g0 f1 f2 pj=>oA5 pj λ_ g1 g2 _ _=>?_;clear p7 pj;subst p8;have rl:=vx (ro r (ah hr'));walk_at"T";refine⟨_,(zh (Z7 (i:=3) zbd.nd rfl (Or.inl rfl) (vars:=["belt"]) (caps:=[1]) (N:=["belt","state"]) (ON:=["work","state","knot","ends"]) (osc:=zf wB) rfl rfl (by right) rfl rfl (zN (zt (pq 2) rfl)) (λ_ _ _ _=>(zX 0 (show(["belt","state"]:A9).Nodup from by symm))) (λ_ _ _ _=>z8) (λ_ _ _ _=>(zq (zq (zt (pq 1) rfl) (pq 0)) (Jd wZ ze))))  (zd (zj (jk (vars:=["ware"]) (caps:=[0]) (N:=["ware","work"]) (ON:=["work","state","knot","ends"]) (osc:=zf wB) rfl rfl (by right) rfl rfl (zN (pq 3)) (λ_ _ _ _=>(zX 0 (show(["ware","work"]:A9).Nodup from by symm))) (λ_ _ _ _=>z8) (λ_ _ _ _=>(xu (zi jq (pq 0) zG (zk _)) zG (vA hr (za (pq 1) (za (pq 0) zb))))))))),?_⟩;left;walk_at"d";exists ra g0 (CT T _) (NI T _) f1 ⟨m1,rfl,.inl ⟨⟨_,SqL.of g1⟩,λ_ _ _ _ ph hacc=>?_⟩⟩;let pk:Nat->St->Hp->Prop:=λi σ H'=>∃(v0:Aq)(us:Ap),σ=[v0,some (.ref y)]/\Same H H'/\H' ph=some (.lst us)/\Reps H q us ((r.ins.take i).map λb=>qB (Zd (qi st.cells b)));refine qb (K:=K) (a:=m1) (xs:=iv r.ins) pk (iE2 _ ([]) (iA4 rfl (zc hacc) pE (by rw[bT];exact .nil))) (λi σ H' _ h=>by let⟨_,_,_,s,_⟩:=h;exact SqL.of (s _ _ g1)) ?_ ?_
 .intro i x σ H2 hi p9;refine oE2 p9 λv0 us p7=>oA4 p7 λp8 s2 ha ru=>?_;ext;let⟨b,hb,rfl⟩:=xz hi;have hil:=(aa.mp hb).1;refine oE1 (wL co bo (JP wok hr' (ah hb))) λj p7=>oA5 p7 λp8 hj ej nej _=>?_;clear p7;subst p8;let⟨li,vi,hu,hli,ri⟩:=zgg rc (i:=j) (ds:=(qi st.cells j).map qB) (by rw[qF,ai,ej];rfl);let⟨ve,he,re⟩:=zh5 ri (zdA (d:=.non) (by simpa using nej));rw[zbE]at re;exists ra (s2 _ _ hy) T.ad T.gL e2 (zu (SqL.of (s2 _ _ hc)) (zJ hu) ?_);exists zu (SqL.of (s2 _ _ hli)) he ?_;refine⟨_,iA3 ha (zm (by rw[ru.len,ae,aE];lia)) (iE2 _ (us++[ve]) (iA4 rfl (λb o hb=>by rw[pF (pG hb hacc)];exact s2 b o hb) pE ?_))⟩;rw[aO,hb,aZ];exact ru.append (.one re)
 intro σ H2 p9;refine oE2 p9 λv0 us p7=>oA4 p7 λp8 s2 ha ru=>?_;ext;rw[zA,aG]at ru;have lu:us.length=r.ins.length:=by rw[ru.len,ae]
 left;walk_at"d";exists⟨ph,rfl,.inl ⟨⟨_,SqL.of ha⟩,λ_ _ _ _ ac2 hac2=>?_⟩⟩;let pw:Nat->St->Hp->Prop:=λi σ H'=>∃(v0:Aq),σ=[v0,some vw]/\Same H2 H'/\H' ac2=some (.lst ((((qM rs st.cells r).take i).map hdV)));refine qb (K:=K) (a:=ph) (xs:=us) pw ⟨_,iA3 rfl (zc hac2) (by rw[bT];exact pE)⟩ (λi σ H' _ h=>by let⟨_,_,s,_⟩:=h;exact SqL.of (s _ _ ha)) ?_ ?_
 .intro i x σ H3 hi p9;refine oE1 p9 λv0 p7=>oA3 p7 λp8 s3 ha3=>?_;ext;let⟨d,hd,rx⟩:=ru.at hi;rw[ai,am]at hd;let⟨b,hb,rfl⟩:=hd;have hil:=(aa.mp hb).1;refine oE1 (wL co bo (JP wok hr' (ah hb))) λj p7=>oA5 p7 λp8 hj ej nej wk=>?_;clear p7;subst p8;have hwk:=wk _ (zdO nej);have hh:(qM rs st.cells r)[i]?=some (Zl rs (Zd (qi st.cells j))):=by rw[qM,ai,hb];rfl
  have s23:=s2.trans s3;have fin:∀u:V,u=hdV (Zl rs (Zd (qi st.cells j)))->∃ys,H3 ac2=some (.lst ys)/\ys.length<sizeLine/\∃(v0:Aq),([some x,some vw]:St)=[v0,some vw]/\Same H2 (upd H3 ac2 (.lst (ys++[u])))/\upd H3 ac2 (.lst (ys++[u])) ac2=some (.lst ((((qM rs st.cells r).take (i+1)).map hdV))):=by
   rintro u rfl;refine⟨_,iA3 ha3 (zm (by rw[ae,aE];lia)) ⟨_,iA3 rfl (λb o hb=>by rw[pF (pG hb hac2)];exact s3 b o hb) ?_⟩⟩;rw[pE,aO,hh,aZ]
   rfl
  left;cases hE:Zd (qi st.cells j)with
  |none =>
   rw[hE]at rx fin;cases rx;rw[aq rfl];exact fin _ rfl
  |some wr =>
   let⟨sr,nr⟩:=wr;rw[hE]at rx fin hwk;refine oE2 (hwk _ _ rfl) λj0 r0 p7=>oA4 p7 λp8 hr0 hw0 _=>?_;clear p7;subst p8;have ok0:=ro r0 (ah hr0);have kp:0<r0.kinds.length:=by
    let⟨wd,ins,outs,pc,ks⟩:=r0;simp only at hw0;subst hw0;exact ok0.2.2.2.2.1
   let⟨tw,rfl,htw⟩:=zaV rx;rw[ao (by intro z;cases z)];refine uc (VC T).mono (iE5 vw _ bs rs p (iE4 q j0 nr r0 (iA7 rfl (xq hw s23) (xq rx s23) hr0 hw0 kp ?_)));exact fin _ (by simp[Zl,hr0,hdV])
 .intro σ H3 p9;refine oE1 p9 λv0 p7=>oA3 p7 λp8 s3 ha3=>?_;ext;rw[lu,eJ (by simp[qM])]at ha3;left;exact k _ _ (s2.trans s3) (zK s2 hac2) ha3
def zfj(K:A0):Sp:=λvs H Q _=>∃(l:Addr)(ns:A7)(o:Option Nat),vs=[.ref l,Zb o]/\H l=some (.lst (iv ns))/\(∀j,o=some j->j<ns.length)/\Q (hdV (o.bind λj=>ns[j]?)) H
theorem VD(T:Txt K mg a):Cal P w K mg base "belt_at" 1 ["belts","place"] [] (zfj K):=T.oq.cal λF=>by
 refine F.okx zcw ?_ ?_
 .walk_at"i"
 walk_at"j";refine oE3 h λl ns o p7=>oA4 p7 λp8 hl ho k=>?_;clear p7 h;subst p8;walk_at"T";refine⟨_,(zd (zj (xu (zi jq (pq 1) zG (zk _)) zG (zq (pq 0) (pq 1))))),?_⟩;left;cases o with
 |none=>exact zF (λ_=>k) (λb=>absurd rfl b)
 |some j =>
  have hj:=ho j rfl;refine zF (λb=>by cases b) (λ_=>?_);refine zu (SqL.of hl) (zJ (xa (af hj))) ?_;have e:hdV ((some j).bind λj=>ns[j]?)=.int ns[j]:=by simp[hj,hdV]
  rw[e]at k;exact k
def zjT(T:Txt K mg a)(wd:Wd):kitOne K (.ref (wK a wd)) (.ref a.s)=some (decide (wd=.joiner)):=by
 cases wd
 .exact T.kS
 .exact T.lH
 .exact T.kT
 .exact T.iN
 .exact T.lI
 .exact T.kU
noncomputable def wq(r:Row)(ch:Ak):Nat:=if r.wd=.joiner then ch.1.getD 0 else ch.2.1.getD 0
inductive spCounted(a:Ad)(vs:Ap)(H:Hp)(Q:VK)(E:XK):Prop
 |i (vk:V) (t:Addr) (r:Row) (ch:Ak) (p:A6):vs=[vk,.ref t]->KnP a H p vk r->H t=some (.tup (chV ch))->(r.wd=.joiner->∃j,ch.1=some j)->Q (.int (wq r ch)) H->spCounted a vs H Q E
theorem JF(T:Txt K mg a):Cal P w K mg base "counted_place" 1 ["knot","chosen"] [] (spCounted a):=T.k8.cal λF=>by
 refine F.okx QE ?_ ?_
 .walk_at"i"
 walk_at"j";rcases h with⟨vk,t,r,ch,p,rfl,hk,ht,hj,k⟩;let⟨y1,dx1,m1,m2,m3,fs1,rfl,_,_,_,_,g0,f1,f2,_,g1,g2,_,_⟩:=hk.inv;walk_at"T";refine⟨_,(zg (zy (zY (zE jr zO (za (pq 0) (za jc zb))) (λ_=>rfl))  (zd (zj (zq (pq 1) ze)))  zl)  (zd (zj (xu (zi jq (zq (pq 1) ze) zG (zk _)) ze (zq (pq 1) ze))))),?_⟩;exists⟨.ref a.s,_,T.mP,rfl,_,_,_,_,rfl,(WT T r.wd).ty (CT T r.wd) g0,.inl ⟨_,rfl,zjT T r.wd⟩,?_⟩;left;unfold wq at k;refine zF (λb=>?_) (λb=>?_)
 .rw[aq b]at k;let⟨j,ej⟩:=hj b;exists pI ht at0 ?_;rw[ej]at k ⊢;exact k
 .rw[ao b]at k;exists pI ht (show atI (chV ch) 1=some (Zb ch.2.1)from rfl) ?_;left;cases e:ch.2.1 with
  |none =>
   rw[e]at k;exact zF (λ_=>k) (λb=>absurd rfl b)
  |some j =>
   rw[e]at k;refine zF (λb=>by cases b) (λ_=>?_);refine pI ht (show atI (chV ch) 1=some (Zb ch.2.1)from rfl) ?_;rw[e];exact k
section
variable{H:Hp}{y:Addr}{n:SN}{st:PSt}
def StO.nds(h:StO a H y n st):n.ls∉n.lc::n.lg::(n.acs++n.ags)/\n.lc∉n.lg::(n.acs++n.ags)/\n.lg∉n.acs++n.ags/\∀x∈n.acs,x∉n.ags:=by
 have nd:=h.nd;unfold SN.all at nd;rw[cT,cT,cT,nodup_append]at nd;exact⟨nd.1,nd.2.1,nd.2.2.1,λx hx hy=>nd.2.2.2.2.2 x hx x hy rfl⟩
def JK{x:Addr}{us vs:Ap}(hx:H x=some (.lst us))(h:zZ H b):zZ (upd H x (.lst vs)) b:=by
 let⟨xs,hb⟩:=h;exact⟨xs,by rw[pF (λz=>by rw[z,hx]at hb;cases hb)];exact hb⟩
def StO.putC{c':Av}(h:StO a H y n st)(e:n.acs[i]?=some b)(r:Reps H (zZ H) vs (c'.map qB)):StO a (upd H b (.lst vs)) y n {st with cells:=st.cells.set i c'}:=by
 have hb:=ah e;let⟨us,hu⟩:=h.hc.isl (aF _ hb);let⟨n1,n2,n3,n4⟩:=h.nds;have k:∀c o,c≠b->H c=some o->upd H b (.lst vs) c=some o:=λc o nc hc=>by rw[pF nc];exact hc
 have ntb:¬zZ H b:=λ⟨xs,hx⟩=>by rw[hu]at hx;cases hx
 refine⟨k _ _ (λz=>by rw[<- z,h.hy]at hu;cases hu) h.hy,?_,k _ _ (λz=>n1 (by rw[z];simp[hb])) h.hs,h.hg.tup λc o hz hc=>k c o (λz=>?_) hc,h.nd⟩
 .have:=h.hc.put (vs:=vs) (ys:=c'.map qB) e ntb r;rw[show qF (st.cells.set i c')=(qF st.cells).set i (c'.map qB) by simp[qF,de]];exact this.keep (λ_ _ _ hc=>hc) λc hc _=>JK hu hc
 .subst z;rcases hz with rfl|hz|hz
  .exact n3 (bP _ hb)
  .exact n4 c hb hz
  .exact ntb hz
def StO.putG{g':A7}(h:StO a H y n st)(e:n.ags[i]?=some b):StO a (upd H b (.lst (iv g'))) y n {st with gone:=st.gone.set i g'}:=by
 have hb:=ah e;let⟨us,hu⟩:=h.hg.isl (aF _ hb);let⟨n1,n2,n3,n4⟩:=h.nds;have k:∀c o,c≠b->H c=some o->upd H b (.lst (iv g')) c=some o:=λc o nc hc=>by rw[pF nc];exact hc
 have ntb:¬zZ H b:=λ⟨xs,hx⟩=>by rw[hu]at hx;cases hx
 refine⟨k _ _ (λz=>by rw[<- z,h.hy]at hu;cases hu) h.hy,h.hc.tup λc o hz hc=>k c o (λz=>?_) hc,k _ _ (λz=>n1 (by rw[z];simp[hb])) h.hs,?_,h.nd⟩
 .subst z;rcases hz with rfl|hz|hz
  .exact n2 (aF _ (aX _ hb))
  .exact n4 c hz hb
  .exact ntb hz
 .have:=h.hg.put (vs:=iv g') (ys:=g'.map D.int) e ntb reps_ints;rw[show qJ (st.gone.set i g')=(qJ st.gone).set i (g'.map D.int) by simp[qJ,de]];exact this.keep (λ_ _ _ hc=>hc) λc hc _=>JK hu hc
def StO.putS{s':A7}(h:StO a H y n st):StO a (upd H n.ls (.lst (iv s'))) y n {st with sides:=s'}:=by
 let⟨n1,n2,n3,n4⟩:=h.nds;have k:∀c o,c≠n.ls->H c=some o->upd H n.ls (.lst (iv s')) c=some o:=λc o nc hc=>by rw[pF nc];exact hc
 have kt:∀c,zZ H c->c≠n.ls:=λc ⟨xs,hx⟩ z=>by rw[z,h.hs]at hx;cases hx
 refine⟨k _ _ (λz=>by have:=h.hy;rw[z,h.hs]at this;cases this) h.hy,h.hc.tup λc o hz hc=>k c o (λz=>?_) hc,pE,h.hg.tup λc o hz hc=>k c o (λz=>?_) hc,h.nd⟩
 .rcases hz with rfl|hz|hz
  .exact n1 (by rw[<- z];simp)
  .exact n1 (by rw[<- z];simp[hz])
  .exact kt c hz z
 .rcases hz with rfl|hz|hz
  .exact n1 (by rw[<- z];simp)
  .exact n1 (by rw[<- z];simp[hz])
  .exact kt c hz z
def StO.cell{c:Av}(h:StO a H y n st)(e:st.cells[i]?=some c):∃b vs,n.acs[i]?=some b/\H b=some (.lst vs)/\Reps H (zZ H) vs (c.map qB):=h.hc.at (by rw[qF,ai,e];rfl)
def StO.goneL{g:A7}(h:StO a H y n st)(e:st.gone[i]?=some g):∃b,n.ags[i]?=some b/\H b=some (.lst (iv g)):=by
 let⟨b,vs,h1,h2,h3⟩:=h.hg.at (i:=i) (xs:=g.map D.int) (by rw[qJ,ai,e];rfl);rw[JO h3]at h2;exact⟨b,h1,h2⟩
def sff_l{t:Int}{lc ls lg:Addr}:(sff t lc ls lg).lookup ("cells":Str)=some (.ref lc)/\(sff t lc ls lg).lookup ("sides":Str)=some (.ref ls)/\(sff t lc ls lg).lookup ("gone":Str)=some (.ref lg)/\(sff t lc ls lg).lookup ("turn":Str)=some (.int t):=by
 unfold sff;refine⟨(zW (by symm)).trans jd,(zW (by symm)).trans ((zW (by symm)).trans jd),(zW (by symm)).trans ((zW (by symm)).trans ((zW (by symm)).trans jd)),jd⟩
def Qu(e:n.acs[i]?=some b):(n.acs.map V.ref)[i]?=some (.ref b):=by rw[ai,e];rfl
def zd1(e:n.ags[i]?=some b):(n.ags.map V.ref)[i]?=some (.ref b):=by rw[ai,e];rfl
def zaS(e:n.acs[i]?=some b):b∈y::n.all:=by simp[SN.all,ah e]
def zhG(e:n.ags[i]?=some b):b∈y::n.all:=by simp[SN.all,ah e]
end
noncomputable def xo(c:Av):List qp:=c.set (c.length-1) none
noncomputable def ja(st:PSt)(k:Nat):Option Int->qp×PSt
 |none=>(some ((k:Int),(st.gone.getD k []).headD 0),st)
 |some b=>(Zd (qi st.cells b),{st with cells:=st.cells.set b.toNat (xo (qi st.cells b))})
def Reps.set{ds:List D}{d:D}(h:Reps H p vs ds)(i:Nat)(r:Rep H p v d):Reps H p (vs.set i v) (ds.set i d):=by
 refine⟨by rw[a7,a7,h.len],λj u e h1 h2=>?_⟩;by_cases hj:j=i
 .subst hj;have hl:j<vs.length:=by have:=(aa.mp h1).1;rw[a7]at this;exact this
  rw[aN hl]at h1;rw[aN (by rw[<- h.len];exact hl)]at h2;cases h1;cases h2;exact r
 .rw[aW (ba hj)]at h1 h2;exact h.g j u e h1 h2
inductive spTaken(a:Ad)(vs:Ap)(H:Hp)(Q:VK)(E:XK):Prop
 |i (y:Addr) (n:SN) (st:PSt) (k:Nat) (fb:Aa) (g0:Int) (gs:A7):vs=[.ref y,.int k,hdV fb]->StO a H y n st->st.gone[k]?=some (g0::gs)->(∀b,fb=some b->∃i:Nat,b=i/\st.cells[i]?=some (qi st.cells b)/\qi st.cells b≠[])->(∀v H',Fr (y::n.all) H H'->StO a H' y n (ja st k fb).2->Rep H' (zZ H') v (qB (ja st k fb).1)->Q v H')->spTaken a vs H Q E
theorem zaH(T:Txt K mg a):Cal P w K mg base "taken_ware" 1 ["state","number","from_belt"] [] (spTaken a):=T.mD.cal λF=>by
 refine F.okx Wm ?_ ?_
 .walk_at"i"
 walk_at"j";rcases h with⟨y,n,st,kn,fb,g0,gs,rfl,so,hg,hf,k⟩;refine oA4 (sff_l (t:=st.turn) (lc:=n.lc) (ls:=n.ls) (lg:=n.lg)) λlk1 lk2 lk3 lk4=>?_;walk_at"T";refine⟨_,(zg (zy (zi jq (pq 2) zG (zk _))  (zd (zj (zT (za (pq 1) (za (zq (zq (zt (pq 0) rfl) (pq 1)) ze) zb)))))  zl)  (zg (zr 3 Wm.nd (zq (zq (zt (pq 0) rfl) (pq 2)) (Jd wZ ze)))  (zg (xr zG (xX (zq (zt (pq 0) rfl) (pq 2)) (Jd wZ ze) jb))  (zd (zj (pq 3)))))),?_⟩;left;cases fb with
 |none =>
  refine zF (λ_=>?_) (λb=>absurd rfl b);let⟨bG,hbG,hgG⟩:=so.goneL hg;exists ra so.hy T.ad T.gS lk3 (zu (SqL.of so.hg.out) (zJ (zd1 hbG)) (zu (SqL.of hgG) at0 ?_));left;intro t ht;refine k _ _ (zc1 ht) (so.same (zc ht)) ?_;have e:(st.gone.getD kn []).headD 0=g0:=by simp[List.getD,hg]
  show Rep _ _ _ (D.tup [.int kn,.int ((st.gone.getD kn []).headD 0)])
  rw[e];exact Reps.mkT (vs:=[.int kn,.int g0]) (.cons .int (.cons .int .nil)) ⟨_,pE⟩ pE
 |some b =>
  refine oE1 (hf b rfl) λi p7=>oA3 p7 λp8 hc nc=>?_;clear p7;subst p8;refine oE2 (so.cell hc) λbC vs p7=>oA3 p7 λhbC hvC rvC=>?_;clear p7;have lv:vs.length=(qi st.cells i).length:=by rw[rvC.len,ae]
  have lp:0<vs.length:=by rw[lv];exact dP.mpr nc
  let⟨ve,he,re⟩:=zh5 rvC (zdA (d:=.non) (by simpa using nc));rw[zbE]at re;refine zF (λb=>by cases b) (λ_=>?_);exists ra so.hy T.ad T.gL lk1 (zu (SqL.of so.hc.out) (zJ (Qu hbC)) ?_);exists zu (SqL.of hvC) he ?_;exists ra so.hy T.ad T.gL lk1 (zu (SqL.of so.hc.out) (zJ (Qu hbC)) ?_);exists jM (j:=vs.length-1) hvC ?_ ?_
  .unfold ixN;rw[ao (by decide),aq (by lia)]
   congr 1
   lia
  have e2:(xo (qi st.cells i)).map qB=((qi st.cells i).map qB).set (vs.length-1) .non:=by
   unfold xo;rw[de,lv]
   rfl
  have r2:Reps H (zZ H) (vs.set (vs.length-1) .non) ((xo (qi st.cells i)).map qB):=by rw[e2];exact Reps.set rvC _ .non
  refine k _ _ (qx (zaS hbC)) ?_ ?_
  .have:=so.putC hbC r2;simpa[ja]using this
  .refine Rep.keep (λc o pc hc=>⟨JK hvC pc,?_⟩) re;let⟨xs,hx⟩:=pc;rw[pF (λz=>by rw[z,hvC]at hx;cases hx)];exact hc
structure Move where
 k:Nat
 ware:qp
 fr:Option Int
 to:Option Int
noncomputable def ziZ:Option Int->D
 |none=>.non
 |some b=>.int b
def zdt(o:Aa):Rep H p (hdV o) (ziZ o):=by
 cases o
 .exact .non
 .exact .int
noncomputable def Vz(m:Move):D:=.tup [.int m.k,qB m.ware,ziZ m.fr,ziZ m.to]
noncomputable def zi0:Option Move->D
 |none=>.non
 |some m=>Vz m
noncomputable def QR(st:PSt)(x:qp):Option Int->PSt
 |none=>st
 |some b=>{st with cells:=st.cells.set b.toNat ((qi st.cells b).set 0 x)}
noncomputable def JJ(g:A7)(j:Nat):List Int:=g.set j (g.getD j 0+1)
noncomputable def xl(r:Row)(ch:Ak):Option Int:=ch.1.bind λj=>r.ins[j]?
noncomputable def Qx(r:Row)(ch:Ak):Option Int:=ch.2.1.bind λj=>r.outs[j]?
noncomputable def movedF(r:Row)(st:PSt)(k:Nat)(ch:Ak):PSt:=QR (ja st k (xl r ch)).2 (ja st k (xl r ch)).1 (Qx r ch)
noncomputable def zbU(r:Row)(st:PSt)(k:Nat)(ch:Ak):PSt×Move :=
 ({movedF r st k ch with sides:=(movedF r st k ch).sides.set k ch.2.2,gone:=(movedF r st k ch).gone.set k (JJ ((movedF r st k ch).gone.getD k []) (wq r ch))},⟨k,(ja st k (xl r ch)).1,xl r ch,Qx r ch⟩)
noncomputable def jF(rs:At)(st:PSt)(k:Nat):PSt×Option Move:=match rs[k]? with
 |none=>(st,none)
 | some r=>match qu r (qM rs st.cells r) (jD st.cells r) st.turn (st.sides.getD k 0).toNat with
  |none=>(st,none)
  |some ch=>((zbU r st k ch).1,some (zbU r st k ch).2)
def QX{rs:At}{cs:Au}(h:xm bs rs cs){c c':Av}(e:cs[i]?=some c)(l:c'.length=c.length)(k:∀x∈c',Zr rs x):xm bs rs (cs.set i c'):=by
 refine⟨by rw[a7];exact h.1,λj b d h1 h2=>?_⟩;by_cases hj:j=i
 .subst hj;rw[aN (aa.mp e).1]at h2;cases h2;exact⟨by rw[l];exact(h.2 j b c h1 e).1,k⟩
 .rw[aW (ba hj)]at h2;exact h.2 j b d h1 h2
def Qv{rs:At}:Zr rs none:=λ_ _ z=>nomatch z
def vD{α:Type}{xs:List α}{x y:α}(h:y∈xs.set i x):y∈xs\/y=x:=bp h
theorem VA{r:Row}{hs:List Aa}{bs:Ai}{t:Int}{side:Nat}{ch:Ak}(ok:r.ok)(hl:hs.length=r.ins.length)(bl:bs.length=r.outs.length)(sd:QB r side)(h:qu r hs bs t side=some ch) :
  (∀j,ch.1=some j->j<r.ins.length)/\(∀j,ch.2.1=some j->j<r.outs.length)/\(r.wd=.joiner->∃j,ch.1=some j)/\(ch.1=none->r.wd=.source)/\QB r ch.2.2/\wq r ch<(qW r).length:=by
 let⟨wd,ins,outs,pace,kinds⟩:=r;have cp:=Ql ok;unfold qu at h;cases wd with
 |source =>
  simp only at h;let⟨h1,⟨o,h2⟩,_⟩:=ok;simp only at h1 h2;subst h1 h2
  split at h
  .cases h;exact⟨(λj z=>nomatch z),λj z=>by cases z;simp,(λz=>nomatch z),λ_=>rfl,sd,by simp[wq];lia⟩
  .cases h
 |drain =>
  simp only at h;let⟨⟨o,h1⟩,h2,_⟩:=ok;simp only at h1 h2;subst h1 h2
  split at h
  .cases h
  .cases h;exact⟨λj z=>by cases z;simp,(λj z=>nomatch z),(λz=>nomatch z),(λz=>nomatch z),sd,by simp[wq];lia⟩
 |parter =>
  simp only at h;let⟨⟨o,h1⟩,h2,h3⟩:=ok;simp only at h1 h2 h3 bl;subst h1
  split at h
  .cases h
  .rw[am]at h;let⟨q,hq,rfl⟩:=h;have hlt:=wo hq;refine⟨λj z=>by cases z;simp,λj z=>by cases z;show q<outs.length;lia,(λz=>nomatch z),(λz=>nomatch z),⟨bd _,λ_=>?_,(λz=>nomatch z),λz=>absurd rfl z⟩,?_⟩
   .have:=eP (q+1) (show 0<bs.length by lia);show(((q+1)%bs.length:Nat):Int)<outs.length
    lia
   .simp only[wq,bH];rw[ao (by decide)];show q<(List.replicate (max 1 outs.length) 0).length
    rw[bx]
    lia
 |first =>
  simp only at h;let⟨⟨o,h1⟩,h2,h3⟩:=ok;simp only at h1 h2 h3 bl;subst h1
  split at h
  .cases h
  .rw[am]at h;let⟨q,hq,rfl⟩:=h;have hlt:=wo hq;refine⟨λj z=>by cases z;simp,λj z=>by cases z;show q<outs.length;lia,(λz=>nomatch z),(λz=>nomatch z),sd,?_⟩;simp only[wq,bH];rw[ao (by decide)];show q<(List.replicate (max 1 outs.length) 0).length
   rw[bx]
   lia
 |sieve =>
  simp only at h;let⟨⟨o,h1⟩,h2,_⟩:=ok;simp only at h1 h2 bl;subst h1
  split at h
  .cases h
  .generalize (if hs.getD 0 none=some (kinds.headD 0)then 0 else 1)=q at h;have q2:q=q:=rfl
   split at h
   .rename_i hb;cases h;have hlt:q<outs.length:=by
     rcases Nat.lt_or_ge q bs.length with z|z
     .lia
     .rw[ay,eW z]at hb;cases hb
    refine⟨λj z=>by cases z;simp,λj z=>by cases z;exact hlt,(λz=>nomatch z),(λz=>nomatch z),sd,?_⟩;simp only[wq,bH];rw[ao (by decide)];show q<(List.replicate (max 1 outs.length) 0).length
    rw[bx]
    lia
   .cases h
 |joiner =>
  simp only at h;let⟨⟨o,h1⟩,h2,h3⟩:=ok;simp only at h1 h2 h3 hl;subst h1
  split at h
  .rw[am]at h;let⟨q,hq,rfl⟩:=h;have hlt:=wo hq;rw[ae]at hlt;refine⟨λj z=>by cases z;show q<ins.length;lia,λj z=>by cases z;simp,λ_=>⟨q,rfl⟩,(λz=>nomatch z),⟨bd _,(λz=>nomatch z),λ_=>?_,λ_ z=>absurd rfl z⟩,?_⟩
   .have:=eP (q+1) (show 0<hs.length by lia);show(((q+1)%hs.length:Nat):Int)<ins.length
    lia
   .simp only[wq,bH];rw[aq trivial];show q<(List.replicate (max ins.length 1) 0).length
    rw[bx]
    lia
  .cases h
theorem zaX{rs:At}{st:PSt}{r:Row}{fb:Aa}(wf:stWf bs rs st)(wok:zV bs rs)(bo:∀b∈bs,zH b.1 b.2)(ro:∀r∈rs,r.ok)(hr:rs[k]?=some r)(hf:∀b,fb=some b->b∈rgI bs.length)(hn:fb=none->r.wd=.source) :
  stWf bs rs (ja st k fb).2/\Zr rs (ja st k fb).1:=by
 cases fb with
 |none =>
  refine⟨wf,λs n z=>?_⟩;have z:((k:Int),(st.gone.getD k []).headD 0)=(s,n):=aT z;cases z;refine⟨k,r,rfl,hr,hn rfl,?_⟩;have hk:=(aa.mp hr).1;have hg:st.gone[k]?=some (st.gone.getD k []):=by
   rw[ay,af (by rw[wf.go.1];exact hk)]
   rfl
  let⟨q1,q2⟩:=wf.go.2 k r _ hr hg;have cp:=Ql (ro r (ah hr));cases e:st.gone.getD k []with
  |nil=>rw[e]at q1;simp at q1;lia
  |cons x xs=>exact q2 x (by rw[e];simp)
 |some b =>
  let⟨i,rfl,hi,ei,ne,wk⟩:=wL wf.co bo (hf b rfl);refine⟨⟨?_,wf.so,wf.go⟩,wk _ (zdO ne)⟩;show xm bs rs (st.cells.set _ _)
  rw[aK];refine QX wf.co ei (by simp[xo]) λx hx=>?_;rcases vD hx with h|h
  .exact wk x h
  .rw[h];exact Qv
def zbu{rs:At}{st:PSt}{x:qp}{tb:Aa}(wf:stWf bs rs st)(bo:∀b∈bs,zH b.1 b.2)(hf:∀b,tb=some b->b∈rgI bs.length)(hx:Zr rs x):stWf bs rs (QR st x tb):=by
 cases tb with
 |none=>exact wf
 |some b =>
  let⟨i,rfl,hi,ei,ne,wk⟩:=wL wf.co bo (hf b rfl);refine⟨?_,wf.so,wf.go⟩;show xm bs rs (st.cells.set _ _)
  rw[aK];refine QX wf.co ei (by simp) λz hz=>?_;rcases vD hz with h|h
  .exact wk z h
  .rw[h];exact hx
def zfk{rs:At}{sds:A7}{r:Row}{s:Int}(h:VS rs sds)(hr:rs[k]?=some r)(hs:QB r s):VS rs (sds.set k s):=by
 refine⟨by rw[a7];exact h.1,λj r2 s2 h1 h2=>?_⟩;by_cases hj:j=k
 .subst hj;rw[aN (by rw[h.1];exact(aa.mp h1).1)]at h2;cases h2;rw[hr]at h1;cases h1;exact hs
 .rw[aW (ba hj)]at h2;exact h.2 j r2 s2 h1 h2
def jC{α:Type}{xs:List α}{d:α}(h:k<xs.length):xs[k]?=some (xs.getD k d):=by
 rw[ay,af h];rfl
def zdX{g:A7}(h:∀x∈g,0<=x):(JJ g j).length=g.length/\∀x∈JJ g j,0<=x:=by
 refine⟨by simp[JJ],λx hx=>?_⟩;rcases vD hx with z|z
 .exact h x z
 .rw[z];have:0<=g.getD j 0:=by
   rw[ay];cases e:g[j]? with
   |none=>simp
   |some v=>exact h v (ah e)
  lia
def zhH{rs:At}{st:PSt}(wf:stWf bs rs st)(wok:zV bs rs)(bo:∀b∈bs,zH b.1 b.2)(ro:∀r∈rs,r.ok):stWf bs rs (jF rs st k).1:=by
 unfold jF;cases hr:rs[k]? with
 |none=>exact wf
 |some r =>
  simp only;have hk:=(aa.mp hr).1;have ok:=ro r (ah hr);have hsd:=wf.so.2 k r _ hr (jC (d:=0) (by rw[wf.so.1];exact hk));have hsd':QB r ((st.sides.getD k 0).toNat:Int):=by rw[cW hsd.1];exact hsd
  cases hc:qu r (qM rs st.cells r) (jD st.cells r) st.turn (st.sides.getD k 0).toNat with
  |none=>exact wf
  |some ch =>
   let⟨c1,c2,c3,c4,c5,c6⟩:=VA ok (by simp[qM]) (by simp[jD]) hsd' hc;have hfb:∀b,xl r ch=some b->b∈rgI bs.length:=λb hb=>by
    unfold xl at hb;let⟨j,hj1,hj2⟩:=cz.mp hb;exact JP wok hr (ah hj2)
   have htb:∀b,Qx r ch=some b->b∈rgI bs.length:=λb hb=>by
    unfold Qx at hb;let⟨j,hj1,hj2⟩:=cz.mp hb;exact XE wok hr (ah hj2)
   have hfn:xl r ch=none->r.wd=.source:=λhb=>by
    cases e:ch.1 with
    |none=>exact c4 e
    |some j =>
     unfold xl at hb;rw[e]at hb;simp at hb;have:=c1 j e
     lia
   let⟨w1,w2⟩:=zaX wf wok bo ro hr hfb hfn;have w3:=zbu w1 bo htb w2;refine⟨w3.co,zfk w3.so hr c5,?_⟩;have hg:=jC (xs:=(movedF r st k ch).gone) (k:=k) (d:=[]) (by rw[show(movedF r st k ch).gone.length=rs.length from w3.go.1];exact hk);let⟨q1,q2⟩:=w3.go.2 k r _ hr hg;exact zgi w3.go hg (zdX q2).1 (zdX q2).2
def KnP.no{y C dx:Addr}{r:Row}{f:Str}(h:KnP a H p (.ref y) r)(hy:H y=some (.ins C dx fs))(h1:f≠"ins")(h2:f≠"outs")(h3:f≠"pace")(h4:f≠"kinds")(h5:f≠"kind"):fs.lookup f=none:=by
 let⟨y',dx',fs',e,_,hy',_,g⟩:=Rep.ob' h;cases e;rw[hy]at hy';cases hy';exact g f (zf4 h1 h2 h3 h4 h5)
def StO.offT{y:Addr}{n:SN}{st:PSt}(h:StO a H y n st)(t:zZ H b):b∉y::n.all:=by
 let⟨xs,hx⟩:=t;intro hb;have no:∀us,H b≠some (.lst us):=λus e=>by rw[hx]at e;cases e
 unfold SN.all at hb;rcases aC.mp hb with rfl|hb
 .rw[h.hy]at hx;cases hx
 rcases aC.mp hb with rfl|hb
 .exact no _ h.hs
 rcases aC.mp hb with rfl|hb
 .exact no _ h.hc.out
 rcases aC.mp hb with rfl|hb
 .exact no _ h.hg.out
 rcases ax.mp hb with hb|hb
 .obtain⟨us,e⟩:=h.hc.isl (aF _ hb);exact no _ e
 .obtain⟨us,e⟩:=h.hg.isl (aF _ hb);exact no _ e
def StO.repT{H H':Hp}{y:Addr}{n:SN}{st:PSt}(h:StO a H y n st)(s:Fr (y::n.all) H H'){d:D}(r:Rep H (zZ H) v d):Rep H' (zZ H') v d :=
 Rep.keep (λb o hp hb=>⟨by let⟨xs,hx⟩:=hp;exact⟨xs,s _ _ (h.offT ⟨xs,hx⟩) hx⟩,s _ _ (h.offT hp) hb⟩) r
def zga(ns:A7)(k:Nat)(x:Int):(iv ns).set k (.int x)=iv (ns.set k x):=by simp[iv]
def zen{H H':Hp}{d:D}(r:Rep H (zZ H) v d)(s:Same H H'):Rep H' (zZ H') v d:=Rep.keep (λb o ⟨xs,hx⟩ hb=>⟨⟨xs,s _ _ hx⟩,s _ _ hb⟩) r
inductive spAct(a:Ad)(vs:Ap)(H:Hp)(Q:VK)(E:XK):Prop
 |i (vw:V) (y:Addr) (n:SN) (st:PSt) (k:Nat) (bs:A1) (rs:At):vs=[vw,.ref y,.int k]->Rep H (Off (y::n.all)) vw (qy a bs rs)->StO a H y n st->stWf bs rs st->zV bs rs->(∀b∈bs,zH b.1 b.2)->(∀r∈rs,r.ok)->k<rs.length->(∀v H',Fr (y::n.all) H H'->StO a H' y n (jF rs st k).1->Rep H' (zZ H') v (zi0 (jF rs st k).2)->Q v H')->spAct a vs H Q E
def ziE(T:Txt K mg a)(F:Fun K "act" "act" zdp f fd):FnOk P w K mg base (CXr P w) 4 f fd ["work","state","number"] (spAct a):=by
 refine F.okx zij ?_ ?_
 .walk_at"i"
 walk_at"j";rcases h with⟨vw,y,n,st,kn,bs,rs,rfl,hw,so,wf,wok,bo,ro,hk,k⟩;refine oE7 (qS hw) λyw dw fw l1 l2 bvs pi p7=>oA9 p7 λp8 hyw ew1 ew2 hl1 hl2 hB hK no=>?_;clear p7;subst p8;let⟨r,hr'⟩:∃r,rs[kn]?=some r:=⟨rs[kn],af hk⟩;have ok:=ro r (ah hr');have rl:=vx ok;let⟨kv,hkv,hKn⟩:=zau hK hr';refine oE6 hKn.inv λy1 dx1 m1 m2 m3 fs1 p7=>oA9 p7 λp8 _ _ _ _ g0 f1 f2 pj=>oA5 pj λ_ g1 g2 _ _=>?_;clear p7 pj;subst p8;have fno:=hKn.no (f:="choice") g0 (by symm) (by symm) (by symm) (by symm) (by symm);have hsd:=wf.so.2 kn r _ hr' (jC (d:=0) (by rw[wf.so.1];exact hk));let⟨side,esd⟩:∃sd:Nat,st.sides.getD kn 0=sd:=⟨(st.sides.getD kn 0).toNat,(cW hsd.1).symm⟩;have hside:st.sides[kn]?=some (side:Int):=by rw[<- esd];exact jC (by rw[wf.so.1];exact hk)
 have hsd':QB r (side:Int):=by rw[<- esd];exact hsd
 have esd':(st.sides.getD kn 0).toNat=side:=by rw[esd];rfl
 refine oA4 (sff_l (t:=st.turn) (lc:=n.lc) (ls:=n.ls) (lg:=n.lg)) λlk1 lk2 lk3 lk4=>?_;have hAct:∀x,qu r (qM rs st.cells r) (jD st.cells r) st.turn side=x->jF rs st kn=match x with|none=>(st,none)|some ch=>((zbU r st kn ch).1,some (zbU r st kn ch).2):=λx e=>by
  unfold jF;rw[hr'];simp only;rw[esd',e]
  all_goals (cases x<;>rfl)
 walk_at"T";refine⟨_,(zh (zr 3 zij.nd (zq (zt (pq 0) rfl) (pq 2)))  (zh (Z7 (i:=4) zij.nd rfl (Or.inl rfl) (vars:=["belt"]) (caps:=[1]) (N:=["belt","state"]) (ON:=["work","state","number","knot","free","chosen","from_belt","to_belt","ware"]) (osc:=zf zdp) rfl rfl (by right) rfl rfl (zN (zt (pq 3) rfl)) (λ_ _ _ _=>(zX 0 (show(["belt","state"]:A9).Nodup from by symm))) (λ_ _ _ _=>z8) (λ_ _ _ _=>(xI op_isN (zq (zq (zt (pq 1) rfl) (pq 0)) ze) zG (zk _))))  (zh (zr 5 zij.nd (zfG ⟨rfl,rfl,rfl⟩ hr (pq 3) (za ‹(pq 0) (za (pq 1) (za (pq 3) zb))› (za (pq 4) (za (zt (pq 1) rfl) (za (zq (zt (pq 1) rfl) (pq 2)) zb))))))  (zh (zy (zi jq (pq 5) zG (zk _))  (zd (zj zG))  zl)  (zh (zr 6 zij.nd ‹(zt (pq 3) rfl) (za (zq (pq 5) ze) zb)›)  (zh (zr 7 zij.nd ‹(zt (pq 3) rfl) (za (zq (pq 5) ze) zb)›)  (zh (zr 8 zij.nd ‹(pq 1) (za (pq 2) (za (pq 6) zb))›)  (zI (zy (zi JN (pq 7) zG (zk _))  (zd (xr (pq 8) (xX (zq (zt (pq 1) rfl) (pq 7)) ze jb)))  zl)  (zh (xr (zq (pq 5) ze) (xX (zt (pq 1) rfl) (pq 2) jb))  (zh (zg7 (zq (zt (pq 1) rfl) (pq 2)) ‹(pq 3) (za (pq 5) zb)› zgk ze zge jb)  (zd (zj (zT (za (pq 2) (za (pq 8) (za (pq 6) (za (pq 7) zb))))))))))))))))),?_⟩;exists ra hyw T.gM T.gI ew2 (zu (SqL.of hl2) (zJ hkv) ?_);left;walk_at"d";exists ra g0 (CT T _) (NO T _) f2 ⟨m2,rfl,.inl ⟨⟨_,SqL.of g2⟩,λ_ _ _ _ ph hacc=>?_⟩⟩;refine qb (K:=K) (a:=m2) (xs:=iv r.outs) (λi σ H'=>∃(v0:Aq),σ=[v0,some (.ref y)]/\Same H H'/\H' ph=some (.lst (((jD st.cells r).take i).map V.bl))) ⟨_,iA3 rfl (zc hacc) (by rw[bT];exact pE)⟩ (λi σ H' _ h=>by let⟨_,_,s,_⟩:=h;exact SqL.of (s _ _ g2)) ?_ ?_
 .intro i x σ H2 hi p9;refine oE1 p9 λv0 p7=>oA3 p7 λp8 s2 ha=>?_;ext;let⟨b,hb,rfl⟩:=xz hi;have hil:=(aa.mp hb).1;refine oE1 (wL wf.co bo (XE wok hr' (ah hb))) λj p7=>oA5 p7 λp8 hj ej nej _=>?_;clear p7;subst p8;refine oE2 (so.cell ej) λbC vs p7=>oA3 p7 λhbC hvC rvC=>?_;clear p7;let⟨c0,cs,ec⟩:∃c0 cs,qi st.cells j=c0::cs:=dR nej;have hfr:(jD st.cells r)[i]?=some (decide (c0=none)):=by rw[jD,ai,hb];simp[ec,zgB]
  rw[ec]at rvC;let⟨v1,hv1,rv1⟩:=rvC.of (i:=0) (d:=qB c0) rfl;exists ra (s2 _ _ so.hy) T.ad T.gL lk1 (zu (SqL.of (s2 _ _ so.hc.out)) (zJ (Qu hbC)) (zu (SqL.of (s2 _ _ hvC)) (zJ (j:=0) hv1) ?_));left;have ev:decide (v1=V.non)=decide (c0=none):=by
   cases c0 with
   |none=>cases rv1;rfl
   |some x=>let⟨t,us,rfl,_⟩:=Rep.tup' rv1;rfl
  rw[ev];refine⟨_,iA3 ha (zm (by rw[ae,aE];lia)) ⟨_,iA3 rfl (λb o hb=>by rw[pF (pG hb hacc)];exact s2 b o hb) ?_⟩⟩;rw[pE,aO,hfr,aZ]
  rfl
 intro σ H2 p9;refine oE1 p9 λv0 p7=>oA3 p7 λp8 s2 ha=>?_;ext;rw[zA,eJ (by simp[jD])]at ha;exists iE7 y1 (wK a r.wd) dx1 fs1 _ _ _ (iA5 rfl (s2 _ _ g0) fno ((zfW T r.wd).mono) ?_);refine uc (zdd T).mono (spHeads.i _ _ _ bs rs st kn r _ _ rfl (xq hw s2) ((so.same s2).rep) (xq hKn s2) hr' wok bo ro wf.co (λhl H3 s3 nhl hhl=>?_));have s23:=s2.trans s3;refine ra (s23 _ _ so.hy) T.ad T.gQ lk4 ?_;refine ra (s23 _ _ so.hy) T.ad T.gX lk2 (zu (SqL.of (s23 _ _ so.hs)) (zJ (xa hside)) ?_);refine iE5 y1 hl ph r _ (iE4 (qM rs st.cells r) (jD st.cells r) st.turn side (iA9 rfl (xq hKn s23) rfl ok hhl (s3 _ _ ha) (by simp[qM]) (by simp[jD]) (λvc H4 s4 tc=>?_)));have s24:=s23.trans s4;have so4:=so.same s24;have hKn4:=xq hKn s24;left;cases hc:qu r (qM rs st.cells r) (jD st.cells r) st.turn side with
 |none =>
  rw[hc]at tc;have tc:vc=.non:=tc;subst tc;have e:=hAct _ hc;refine zF (λ_=>?_) (λb=>absurd rfl b);exists k _ _ s24.fr ?_ ?_
  .rw[e];exact so4
  .rw[e];exact .non
 |some ch =>
  rw[hc]at tc;let⟨ct,rfl,hct⟩:=tc;have e:=hAct _ hc;refine oA6 (VA ok (by simp[qM]) (by simp[jD]) hsd' hc) λc1 c2 c3 c4 c5 c6=>?_;have hfb:∀b,xl r ch=some b->b∈rgI bs.length:=λb hb=>by
   unfold xl at hb;let⟨j,hj1,hj2⟩:=cz.mp hb;exact JP wok hr' (ah hj2)
  have htb:∀b,Qx r ch=some b->b∈rgI bs.length:=λb hb=>by
   unfold Qx at hb;let⟨j,hj1,hj2⟩:=cz.mp hb;exact XE wok hr' (ah hj2)
  have hfn:xl r ch=none->r.wd=.source:=λhb=>by
   cases e:ch.1 with
   |none=>exact c4 e
   |some j =>
    unfold xl at hb;rw[e]at hb;simp at hb;have:=c1 j e
    lia
  let⟨w1,w2⟩:=zaX wf wok bo ro hr' hfb hfn;have w3:=zbu w1 bo htb w2;have hg0:=jC (xs:=st.gone) (k:=kn) (d:=[]) (by rw[wf.go.1];exact hk);let⟨q1,q2⟩:=wf.go.2 kn r _ hr' hg0;have cp:=Ql ok;let⟨g0',gs,eg⟩:∃g0 gs,st.gone.getD kn []=g0::gs:=dR λz=>by rw[z]at q1;simp at q1;lia
  rw[eg]at hg0;refine zF (λb=>by cases b) (λ_=>?_);exists uc (VD T).mono (ra (s24 _ _ g0) (CT T _) (NI T _) f1 (pI hct at0 ?_));refine iE3 m1 r.ins ch.1 (iA4 rfl (s24 _ _ g1) c1 ?_);exists uc (VD T).mono (ra (s24 _ _ g0) (CT T _) (NO T _) f2 (pI hct (show atI (chV ch) 1=some (Zb ch.2.1)from rfl) ?_));refine iE3 m2 r.outs ch.2.1 (iA4 rfl (s24 _ _ g2) c2 ?_);exists uc (zaH T).mono (spTaken.i y n st kn (xl r ch) g0' gs rfl so4 hg0 (λb hb=>?_) (λv5 H5 f5 so5 rv5=>?_))
  .refine oE1 (wL wf.co bo (hfb b hb)) λi p7=>oA5 p7 λe1 _ e2 e3 _=>?_;clear p7;exact⟨i,iA3 e1 e2 e3⟩
  have hct5:=f5 _ _ (so4.offT ⟨_,hct⟩) hct;have hKn5:=hKn4.fr f5;have fr5:=(s24.fr (ms:=y::n.all)).trans f5;rw[show(ch.1.bind λj=>r.ins[j]?)=xl r ch from rfl,show(ch.2.1.bind λj=>r.outs[j]?)=Qx r ch from rfl];exists cut (λσ' H'=>σ'=[some (.ref yw),some (.ref y),some (.int kn),some (.ref y1),some (.ref ph),some (.ref ct),some (hdV (xl r ch)),some (hdV (Qx r ch)),some v5]/\Fr (y::n.all) H5 H'/\StO a H' y n (movedF r st kn ch)) ?_ ?_
  .have w4:=λb (hb:Qx r ch=some b)=>wL w1.co bo (htb b hb);unfold movedF;generalize Qx r ch=tb at w4 ⊢;left;cases tb with
   |none =>
    refine zF (λb=>absurd rfl b) (λ_=>?_);left;exact⟨.refl,so5⟩
   |some b =>
    refine oE1 (w4 b rfl) λi p7=>oA5 p7 λp8 _ e2 e3 _=>?_;clear p7;subst p8;refine oE2 (so5.cell e2) λbC vs p7=>oA3 p7 λhbC hvC rvC=>?_;clear p7;have lv:vs.length=(qi (ja st kn (xl r ch)).2.cells i).length:=by rw[rvC.len,ae]
    have lp:0<vs.length:=by rw[lv];exact dP.mpr e3
    refine zF (λ_=>?_) (λb=>absurd (λz=>by cases z) b);exists ra so5.hy T.ad T.gL sff_l.1 (zu (SqL.of so5.hc.out) (zJ (Qu hbC)) ?_);exists jM (j:=0) hvC (wI (by decide) (by simpa using lp)) ?_;refine⟨qx (zaS hbC),?_⟩;have:=so5.putC hbC (c':=(qi (ja st kn (xl r ch)).2.cells i).set 0 (ja st kn (xl r ch)).1) (by rw[de];exact Reps.set rvC 0 rv5);simpa[QR]using this
  rintro σ H6 ⟨rfl,f6,so6⟩;have hct6:=f6 _ _ (so5.offT ⟨_,hct5⟩) hct5;have hKn6:=hKn5.fr f6;have rv6:=so5.repT f6 rv5;have fr6:=fr5.trans f6;exists pI hct6 (show atI (chV ch) 2=some (.int ch.2.2)from rfl) ?_;exists ra so6.hy T.ad T.gX sff_l.2.1 (jM so6.hs (wI (bd _) (by rw[zA,show(movedF r st kn ch).sides.length=rs.length from w3.so.1];exact Int.ofNat_lt.mpr hk)) ?_);rw[aK,zga];have so7:=so6.putS (s':=(movedF r st kn ch).sides.set kn ch.2.2);have f7:Fr (y::n.all) H6 (upd H6 n.ls (.lst (iv ((movedF r st kn ch).sides.set kn ch.2.2)))):=qx (by simp[SN.all]);have hct7:=f7 _ _ (so6.offT ⟨_,hct6⟩) hct6;have hKn7:=hKn6.fr f7;have rv7:=so6.repT f7 rv6;have fr7:=fr6.trans f7;generalize upd H6 n.ls (.lst (iv ((movedF r st kn ch).sides.set kn ch.2.2)))=H7 at so7 hct7 hKn7 rv7 fr7 ⊢;have hg7:=jC (xs:=(movedF r st kn ch).gone) (k:=kn) (d:=[]) (by rw[show(movedF r st kn ch).gone.length=rs.length from w3.go.1];exact hk);let⟨p1,p2⟩:=w3.go.2 kn r _ hr' hg7;let⟨bG,hbG,hgG⟩:=so7.goneL hg7;have e0:zbU r st kn ch=({movedF r st kn ch with sides:=(movedF r st kn ch).sides.set kn ch.2.2,gone:=(movedF r st kn ch).gone.set kn (JJ ((movedF r st kn ch).gone.getD kn []) (wq r ch))},⟨kn,(ja st kn (xl r ch)).1,xl r ch,Qx r ch⟩):=rfl;have so8:=so7.putG (g':=JJ ((movedF r st kn ch).gone.getD kn []) (wq r ch)) hbG;generalize (movedF r st kn ch).gone.getD kn []=g at *;have hcp:wq r ch<g.length:=by rw[p1];exact c6
  left;unfold zhQ;exists ra so7.hy T.ad T.gS sff_l.2.2.1 (zu (SqL.of so7.hg.out) (zJ (zd1 hbG)) ?_);exists uc (JF T).mono (spCounted.i _ ct r ch _ rfl hKn7 hct7 c3 ?_);refine iE4 bG _ (wq r ch) _ (iA6 rfl rfl (SqL.of hgG) (bd _) (zJ (xa (jC (d:=0) hcp))) ?_);exists jM hgG (wI (bd _) (by rw[zA];exact Int.ofNat_lt.mpr hcp)) ?_;rw[aK,zga];have f8:Fr (y::n.all) H7 (upd H7 bG (.lst (iv (g.set (wq r ch) (g.getD (wq r ch) 0+1))))):=qx (zhG hbG);have rv8:=so7.repT f8 rv7;change StO a (upd H7 bG (.lst (iv (g.set (wq r ch) (g.getD (wq r ch) 0+1))))) y n _ at so8;have fr8:=fr7.trans f8;generalize e8:upd H7 bG (.lst (iv (g.set (wq r ch) (g.getD (wq r ch) 0+1))))=H8 at so8 f8 rv8 fr8 ⊢;left;intro t ht;refine k _ _ (fr8.trans (zc1 ht)) ?_ ?_
  .rw[e];simp only;rw[e0];exact so8.same (zc ht)
  .rw[e];simp only;rw[e0];exact Reps.mkT (vs:=[.int kn,v5,hdV (xl r ch),hdV (Qx r ch)]) (.cons .int (.cons (zen rv8 (zc ht)) (.cons (zdt _) (.cons (zdt _) .nil)))) ⟨_,pE⟩ pE
def zjA(T:Txt K mg a):Cal P w K mg base "act" 4 ["work","state","number"] [] (spAct a):=T.pe.cal (ziE T)
noncomputable def zQ(rs:At)(st:PSt):Nat->PSt×List Move
 |0=>(st,[])
 |i+1=>((jF rs (zQ rs st i).1 i).1,(zQ rs st i).2++(jF rs (zQ rs st i).1 i).2.toList)
theorem vY{bs:A1}{rs:At}{st:PSt}(wf:stWf bs rs st)(wok:zV bs rs)(bo:∀b∈bs,zH b.1 b.2)(ro:∀r∈rs,r.ok):∀i,stWf bs rs (zQ rs st i).1
 |0=>wf
 |i+1=>zhH (vY wf wok bo ro i) wok bo ro
theorem Wg(rs:At)(st:PSt):∀i,(zQ rs st i).2.length<=i
 |0=>ar _
 |i+1=>by
  have:=Wg rs st i;show((zQ rs st i).2++(jF rs (zQ rs st i).1 i).2.toList).length<=i+1
  rw[av];cases (jF rs (zQ rs st i).1 i).2 with
  |none=>exact Nat.le_succ_of_le this
  |some _=>exact Nat.succ_le_succ this
section
variable{H H':Hp}{y:Addr}{n:SN}{st:PSt}
def StO.offN(h:StO a H y n st)(e:H b=none):b∉y::n.all:=by
 have no:∀o,H b≠some o:=λo z=>by rw[e]at z;cases z
 intro hb;unfold SN.all at hb;rcases aC.mp hb with rfl|hb
 .exact no _ h.hy
 rcases aC.mp hb with rfl|hb
 .exact no _ h.hs
 rcases aC.mp hb with rfl|hb
 .exact no _ h.hc.out
 rcases aC.mp hb with rfl|hb
 .exact no _ h.hg.out
 rcases ax.mp hb with hb|hb
 .obtain⟨us,z⟩:=h.hc.isl (aF _ hb);exact no _ z
 .obtain⟨us,z⟩:=h.hg.isl (aF _ hb);exact no _ z
def StO.out{M:Addr}{us vs:Ap}(h:StO a H y n st)(e:H M=some (.lst us))(nM:M∉y::n.all):StO a (upd H M (.lst vs)) y n st:=by
 have k:∀c o,c≠M->H c=some o->upd H M (.lst vs) c=some o:=λc o nc hc=>by rw[pF nc];exact hc
 have kt:∀c,zZ H c->c≠M:=λc ⟨xs,hx⟩ z=>by rw[z,e]at hx;cases hx
 refine⟨k _ _ (λz=>nM (by rw[<- z];simp)) h.hy,h.hc.tup λc o hz hc=>k c o (λz=>?_) hc,k _ _ (λz=>nM (by rw[<- z];simp[SN.all])) h.hs,h.hg.tup λc o hz hc=>k c o (λz=>?_) hc,h.nd⟩
 .rcases hz with rfl|hz|hz
  .exact nM (by rw[<- z];simp[SN.all])
  .exact nM (by rw[<- z];simp[SN.all,hz])
  .exact kt c hz z
 .rcases hz with rfl|hz|hz
  .exact nM (by rw[<- z];simp[SN.all])
  .exact nM (by rw[<- z];simp[SN.all,hz])
  .exact kt c hz z
def StO.repsT(h:StO a H y n st)(s:Fr (y::n.all) H H'){ds:List D}(r:Reps H (zZ H) vs ds):Reps H' (zZ H') vs ds :=
 ⟨r.len,λi v d h1 h2=>h.repT s (r.g i v d h1 h2)⟩
def zbm{M:Addr}{us vs:Ap}(e:H M=some (.lst us)){d:D}(r:Rep H (zZ H) v d):Rep (upd H M (.lst vs)) (zZ (upd H M (.lst vs))) v d :=
 Rep.keep (λb o hp hb=>⟨JK e hp,by let⟨xs,hx⟩:=hp;rw[pF (λz=>by rw[z,e]at hx;cases hx)];exact hb⟩) r
def zem{M:Addr}{us vs:Ap}(e:H M=some (.lst us)){ws:Ap}{ds:List D}(r:Reps H (zZ H) ws ds):Reps (upd H M (.lst vs)) (zZ (upd H M (.lst vs))) ws ds :=
 ⟨r.len,λi v d h1 h2=>zbm e (r.g i v d h1 h2)⟩
end
inductive spActAll(a:Ad)(vs:Ap)(H:Hp)(Q:VK)(E:XK):Prop
 |i (vw:V) (y:Addr) (n:SN) (st:PSt) (bs:A1) (rs:At):vs=[vw,.ref y]->Rep H (Off (y::n.all)) vw (qy a bs rs)->StO a H y n st->stWf bs rs st->zV bs rs->(∀b∈bs,zH b.1 b.2)->(∀r∈rs,r.ok)->(∀l us H',Fr (y::n.all) H H'->StO a H' y n (zQ rs st rs.length).1->H l=none->l∉y::n.all->H' l=some (.lst us)->Reps H' (zZ H') us ((zQ rs st rs.length).2.map Vz)->Q (.ref l) H')->spActAll a vs H Q E
theorem zeQ(T:Txt K mg a):Cal P w K mg base "act_all" 5 ["work","state"] [] (spActAll a):=T.ot.cal λF=>by
 refine F.okx zcx ?_ ?_
 .walk_at"i"
 walk_at"j";rcases h with⟨vw,y,n,st,bs,rs,rfl,hw,so,wf,wok,bo,ro,k⟩;refine oE7 (qS hw) λyw dw fw l1 l2 bvs pi p7=>oA9 p7 λp8 hyw ew1 ew2 hl1 hl2 hB hK no=>?_;clear p7;subst p8;have lk:pi.length=rs.length:=hK.len;have r24:=wok.1.2.2;walk_at"T";refine⟨_,(zg (zr 2 zcx.nd (zn zb))  (zI (z6 qj rfl (xt (za (zE zC zB (za (zt (pq 0) rfl) zb)) zb)) (zX 3 zcx.nd)  (zg (zr 4 zcx.nd ‹(pq 0) (za (pq 1) (za (pq 3) zb))›)  (zd (zy (zi JN (pq 4) zG (zk _))  (zd (zw (qH ap aA az zS (pq 2) (za (pq 4) zb))))  zl))))  (zd (zj (pq 2))))),?_⟩;left;intro M hM;have nM:=so.offN hM;have s1:=zc (o:=.lst []) hM;have hM1:upd H M (.lst []) M=some (.lst []):=pE;generalize upd H M (.lst [])=H1 at s1 hM1 ⊢;exists cut (λσ' H'=>∃(v3 v4:Aq)(us:Ap),σ'=[some (.ref yw),some (.ref y),some (.ref M),v3,v4]/\Fr (y::n.all) H H'/\StO a H' y n (zQ rs st rs.length).1/\H' M=some (.lst us)/\Reps H' (zZ H') us ((zQ rs st rs.length).2.map Vz)) ?_ ?_
 .walk_at"c";exists ra (s1 _ _ hyw) T.gM T.gI ew2 ?_;refine⟨_,.inl ⟨_,SqL.of (s1 _ _ hl2),rfl⟩,?_⟩;rw[lk];exists⟨by lia,by lia,?_⟩;refine vK (n:=(rs.length:Int).toNat) (λi σ H'=>∃(v3 v4:Aq)(us:Ap),σ=[some (.ref yw),some (.ref y),some (.ref M),v3,v4]/\Fr (y::n.all) H H'/\StO a H' y n (zQ rs st i).1/\H' M=some (.lst us)/\Reps H' (zZ H') us ((zQ rs st i).2.map Vz)) (iE3 _ _ _ (iA5 rfl s1.fr (so.same s1) hM1 (.nil))) ?_ (λσ H' h=>?_)
  .intro i σ H2 hi p9;refine oE3 p9 λv3 v4 us p7=>oA5 p7 λp8 f2 so2 hM2 r2=>?_;ext;have hi:i<rs.length:=by simpa using hi
   have al:=Wg rs st i;have lu:us.length=(zQ rs st i).2.length:=by rw[r2.len,ae]
   left;simp only[bW];refine uc (zjA T).mono (spAct.i (.ref yw) y n _ i bs rs rfl (hw.fr f2) so2 (vY wf wok bo ro i) wok bo ro hi (λv H3 f3 so3 rv=>?_));have f23:=f2.trans f3;have hM3:=f3 _ _ nM hM2;have r3:=so2.repsT f3 r2;have eA:zQ rs st (i+1)=((jF rs (zQ rs st i).1 i).1,(zQ rs st i).2++(jF rs (zQ rs st i).1 i).2.toList):=rfl;left;cases e:(jF rs (zQ rs st i).1 i).2 with
   |none =>
    rw[e]at rv eA;cases rv;refine zF (λb=>absurd rfl b) (λ_=>?_);rw[eA];exact iE3 _ _ _ (iA5 rfl f23 so3 hM3 (by rw[show(none:Option Move).toList=[]from rfl,cc];exact r3))
   |some m =>
    rw[e]at rv eA;refine zF (λ_=>?_) (λb=>?_)
    .exists⟨.inl ⟨rfl,_,SqL.of hM3⟩,iE3 M _ _ (iA5 rfl rfl hM3 (zm (by lia)) (iE3 _ _ _ (iA5 rfl (λb o nb hb=>by rw[pF (pG hb hM)];exact f23 b o nb hb) ?_ pE ?_)))⟩
     .rw[eA];exact so3.out hM3 nM
     .rw[eA];show Reps _ _ _ (List.map Vz ((zQ rs st i).2++[m]))
      rw[aZ];exact(zem hM3 r3).append (Reps.one (zbm hM3 rv))
    .exfalso;refine b λz=>?_;subst z;cases rv
  .have e:((rs.length:Int)).toNat=rs.length:=by simp
   rw[e]at h;exact h
 intro σ' H2 p9;refine oE3 p9 λv3 v4 us p7=>oA5 p7 λp8 f2 so2 hM2 r2=>?_;ext;left;exact k _ _ _ f2 so2 hM nM hM2 r2
noncomputable def xZ(c:Av)(p:Nat):List qp:=if c.getD (p+1) none=none then(c.set (p+1) (c.getD p none)).set p none else c
noncomputable def Jw(c:Av):Nat->List qp
 |0=>c
 |k+1=>xZ (Jw c k) (c.length-2-k)
noncomputable def Vk(c:Av):List qp:=Jw c (c.length-1)
def zcO{c:Av}{p:Nat}:(xZ c p).length=c.length:=by
 unfold xZ
 split<;>simp
theorem XO{c:Av}:∀k,(Jw c k).length=c.length
 |0=>rfl
 |k+1=>by rw[Jw,zcO,XO k]
def zcN{c:Av}{p:Nat}{x:qp}(h:x∈xZ c p):x∈c\/x=none:=by
 unfold xZ at h
 split at h
 .rcases vD h with h|h
  .rcases vD h with h|h
   .exact .inl h
   .rw[ay]at h;cases e:c[p]? with
    |none=>rw[e]at h;exact .inr h
    |some y=>rw[e]at h;exact .inl (by rw[h];exact ah e)
  .exact .inr h
 .exact .inl h
theorem zbB{c:Av}{x:qp}:∀k,x∈Jw c k->x∈c\/x=none
 |0=>λh=>.inl h
 |k+1=>λh=>by
  rcases zcN h with h|h
  .exact zbB k h
  .exact .inr h
def ze0(h:H b=some o):upd H b o=H:=by
 funext x
 by_cases e:x=b
 .rw[e,pE,h]
 .rw[pF e]
def zaU{x:qp}(r:Rep H p v (qB x)):v=.non↔x=none:=by
 cases x with
 |none=>cases r;simp
 |some x=>let⟨t,us,rfl,_⟩:=Rep.tup' r;simp
def atD{xs:Av}{p:Nat}(h:p<xs.length):xs[p]?=some (xs.getD p none):=jC h
def zcp:Sp:=λvs H Q _=>∃(b:Addr)(us:Ap)(c:Av),vs=[.ref b]/\H b=some (.lst us)/\Reps H (zZ H) us (c.map qB)/\c.length<=100/\∀us',Reps H (zZ H) us' ((Vk c).map qB)->Q .non (upd H b (.lst us'))
def zb3(T:Txt K mg a):Cal P w K mg base "move_belt" 1 ["cells"] [] zcp:=T.mX.cal λF=>by
 refine F.okx VW ?_ ?_
 .walk_at"i"
 walk_at"j";let⟨b,us,c,rfl,hb,rb,lc,k⟩:=h;have lu:us.length=c.length:=by rw[rb.len,ae]
 walk_at"T";refine⟨_,(zd (z6 qj rfl (zix (za (zo j9 (zE zC zB (za (pq 0) zb)) ze) (za (Jd wZ ze) (za (Jd wZ ze) zb)))) (zX 1 VW.nd)  (zd (zy (zi jq (zq (pq 0) (zo zM (pq 1) ze)) zG (zk _))  (zg (xr (zq (pq 0) (pq 1)) (xX (pq 0) (zo zM (pq 1) ze) jb))  (zd (xr zG (xX (pq 0) (pq 1) jb))))  zl)))),?_⟩;left;walk_at"c";exists⟨_,.inl ⟨_,SqL.of hb,rfl⟩,?_⟩;rw[lu];exists⟨_,_,rfl,⟨by lia,by lia,by lia,by lia⟩,?_⟩;rw[show((c.length:Int)-2 - -1).toNat=c.length-1 by lia];refine zjx (K:=K) (λi σ H'=>∃(v1:Aq)(us':Ap),σ=[some (.ref b),v1]/\H'=upd H b (.lst us')/\Reps H (zZ H) us' ((Jw c i).map qB)) ⟨_,us,rfl,(ze0 hb).symm,rb⟩ ?_ ?_
 .rintro i σ H' hi ⟨v1,us',rfl,rfl,r1⟩;have lm:=XO (c:=c) i;have l1:us'.length=c.length:=by rw[r1.len,ae,lm]
  let⟨p,hp⟩:∃p,c.length-2-i=p:=⟨_,rfl⟩;have ep:(c.length:Int)-2-i=p:=by lia
  have hp1:p+1<c.length:=by lia
  rw[ep];have eS:Jw c (i+1)=xZ (Jw c i) p:=by rw[Jw,hp]
  rw[eS];generalize Jw c i=m at r1 lm ⊢;have m0:m[p]?=some (m.getD p none):=atD (by lia);have m1:m[p+1]?=some (m.getD (p+1) none):=atD (by lia);let⟨u0,hu0,ru0⟩:=r1.of (i:=p) (d:=qB (m.getD p none)) (by rw[ai,m0];rfl);let⟨u1,hu1,ru1⟩:=r1.of (i:=p+1) (d:=qB (m.getD (p+1) none)) (by rw[ai,m1];rfl);have e1:((p:Int)+1)=((p+1:Nat):Int):=by lia
  left;rw[e1];refine zu (SqL.of pE) (zJ hu1) ?_;exists zF (λz=>?_) (λz=>?_)
  .have z:=(zaU ru1).mp z;exists zu (SqL.of pE) (zJ hu0) ?_;exists jM pE (wI (by lia) (by lia)) ?_;exists jM pE (wI (by lia) (by simp;lia)) ?_;rw[ZH,ZH];refine⟨_,_,rfl,rfl,?_⟩;unfold xZ;rw[aq z,de,de,aK,aK];exact Reps.set (Reps.set r1 _ ru0) _ .non
  .have z:m.getD (p+1) none≠none:=λy=>z ((zaU ru1).mpr y);exists⟨_,us',rfl,rfl,?_⟩;unfold xZ;rw[ao z];exact r1
 .rintro σ H' ⟨v1,us',rfl,rfl,r1⟩;exact k _ r1
noncomputable def qZ(bs:A1)(t:Int)(cs:Au):Nat->List Av
 |0=>cs
 |i+1=>if t%(bs.getD i (0,1)).2=0 then(qZ bs t cs i).set i (Vk ((qZ bs t cs i).getD i []))else qZ bs t cs i
theorem ZF{bs:A1}{rs:At}{t:Int}{cs:Au}(h:xm bs rs cs):∀i,xm bs rs (qZ bs t cs i)
 |0=>h
 |i+1=>by
  have ih:=ZF h i (t:=t);rw[qZ]
  split
  .generalize qZ bs t cs i=ds at ih ⊢;cases e:ds[i]? with
   |none=>rw[cy (db.mp e)];exact ih
   |some c =>
    have ec:ds.getD i []=c:=by rw[ay,e];rfl
    rw[ec];have hi:i<bs.length:=by rw[<- ih.1];exact(aa.mp e).1
    refine QX ih e (XO _) λx hx=>?_;rcases zbB _ hx with hx|hx
    .exact(ih.2 i _ c (af hi) e).2 x hx
    .rw[hx];exact Qv
  .exact ih
noncomputable def passF(bs:A1)(rs:At)(st:PSt):PSt×List Move:=({(zQ rs st rs.length).1 with turn:=(zQ rs st rs.length).1.turn+1,cells:=qZ bs (zQ rs st rs.length).1.turn (zQ rs st rs.length).1.cells bs.length},(zQ rs st rs.length).2)
def zfK{rs:At}{st:PSt}(wf:stWf bs rs st)(wok:zV bs rs)(bo:∀b∈bs,zH b.1 b.2)(ro:∀r∈rs,r.ok):stWf bs rs (passF bs rs st).1:=by
 have w:=vY wf wok bo ro rs.length;exact⟨ZF w.co _,w.so,w.go⟩
def StO.ney{y:Addr}{n:SN}{st:PSt}(h:StO a H y n st):y∉n.all:=λz=>by
 have hy:=h.hy;have c:∀vs,H y≠some (.lst vs):=λvs z=>by rw[hy]at z;cases z
 simp only[SN.all,aC,ax]at z;rcases z with z|z|z|z|z
 .exact c _ (by rw[z];exact h.hs)
 .exact c _ (by rw[z];exact h.hc.out)
 .exact c _ (by rw[z];exact h.hg.out)
 .obtain⟨vs,hv⟩:=h.hc.isl (aF _ z);exact c _ hv
 .obtain⟨vs,hv⟩:=h.hg.isl (aF _ z);exact c _ hv
def StO.putT{y:Addr}{n:SN}{st:PSt}{t:Int}(h:StO a H y n st):StO a (upd H y (.ins a.t n.dx (sff t n.lc n.ls n.lg))) y n {st with turn:=t}:=by
 have ny:=h.ney;have tn:∀b,zZ H b->b≠y:=λb ⟨xs,hx⟩ z=>by rw[z,h.hy]at hx;cases hx
 simp only[SN.all,aC,ax,not_or]at ny;let⟨n1,n2,n3,n4,n5⟩:=ny;refine⟨pE,h.hc.tup λb o c hb=>?_,?_,h.hg.tup λb o c hb=>?_,h.nd⟩
 .rw[pF ?_]
  .exact hb
  .rcases c with rfl|c|c
   .exact ba n2
   .exactλz=>n4 (by rw[<- z];exact c)
   .exact tn b c
 .rw[pF (ba n1)];exact h.hs
 .rw[pF ?_]
  .exact hb
  .rcases c with rfl|c|c
   .exact ba n3
   .exactλz=>n5 (by rw[<- z];exact c)
   .exact tn b c
def zce{rs:At}(h:Rep H p v (qy a bs rs)):∃y dx fs l1 bvs,v=.ref y/\p y/\H y=some (.ins a.u dx fs)/\fs.lookup ("belts":Str)=some (.ref l1)/\p l1/\H l1=some (.lst bvs)/\Bts a H p bvs bs:=by
 let⟨y,dx,fs,rfl,py,hy,g1,g2⟩:=Rep.ob' h;let⟨u1,e1,r1⟩:=g1 _ _ zaT;let⟨l1,bvs,rfl,pl,h1,b1⟩:=r1.lst';exact⟨y,dx,fs,l1,bvs,rfl,py,hy,e1,pl,h1,.of b1⟩
theorem zje{t u:Int}{lc ls lg:Addr}:qr "turn" (.int u) (sff t lc ls lg)=sff u lc ls lg:=rfl
def ze8(a:Ad):Sp:=λvs H Q _=>∃(vw:V)(y:Addr)(n:SN)(st:PSt)(bs:A1)(rs:At),vs=[vw,.ref y]/\Rep H (Off (y::n.all)) vw (qy a bs rs)/\StO a H y n st/\stWf bs rs st/\zV bs rs/\(∀b∈bs,zH b.1 b.2)/\(∀r∈rs,r.ok) /\
 ∀l us H',Fr (y::n.all) H H'->StO a H' y n (passF bs rs st).1->H l=none->l∉y::n.all->H' l=some (.lst us)->Reps H' (zZ H') us ((passF bs rs st).2.map Vz)->Q (.ref l) H'
def zak(T:Txt K mg a)(F:Fun K "pass_turn" "pass_turn" va f fd):FnOk P w K mg base (CXr P w) 6 f fd ["work","state"] (ze8 a):=by
 refine F.okx VU ?_ ?_
 .walk_at"i"
 walk_at"j";refine oE6 h λvw y n st bs rs p7=>oA8 p7 λp8 hw so wf wok bo ro k=>?_;clear p7 h;subst p8;have b24:=wok.1.1.2;walk_at"T";refine⟨_,(zh (zr 2 VU.nd ‹(pq 0) (za (pq 1) zb)›)  (zI (z6 qj rfl (jh (za (zt (pq 0) rfl) zb)) (j8 (n:=2) rfl (zR (zX 3 VU.nd) (zR (zX 4 VU.nd) jn)))  (zd (zy (zi (qd hr.units1) (zo qD (zt (pq 1) rfl) (zt (pq 4) rfl)) ze (zk _))  (zd (zw ‹(zq (zt (pq 1) rfl) (pq 3)) zb›))  zl)))  (zh (zeq (pq 1) ze ziT)  (zd (zj (pq 2)))))),?_⟩;exists uc (zeQ T).mono (spActAll.i vw y n st bs rs rfl hw so wf wok bo ro (λl us H1 f1 so1 nl nl' hl rl=>?_));have wA:=vY wf wok bo ro rs.length;have hw1:=hw.fr f1;refine oE5 (zce hw1) λyw dw fw l1 bvs p7=>oA7 p7 λp8 _ hyw ew1 pl1 hl1 hB=>?_;clear p7;subst p8;have lb:bvs.length=bs.length:=hB.len;generalize hA:zQ rs st rs.length=A at so1 rl wA;refine oA4 (sff_l (t:=A.1.turn) (lc:=n.lc) (ls:=n.ls) (lg:=n.lg)) λlk1 lk2 lk3 lk4=>?_;left;let pk:St->Hp->Prop:=λσ' H'=>∃(v3 v4:Aq),σ'=[some (.ref yw),some (.ref y),some (.ref l),v3,v4]/\Fr (y::n.all) H1 H'/\StO a H' y n {A.1 with cells:=qZ bs A.1.turn A.1.cells bs.length};refine cut pk ?_ ?_
 .walk_at"c";exists ra hyw T.gM T.hZ ew1 (iE2 l1 _ (iA3 rfl hl1 ?_));let pw:Nat->St->Hp->Prop:=λi σ H'=>∃(v3 v4:Aq),σ=[some (.ref yw),some (.ref y),some (.ref l),v3,v4]/\Fr (y::n.all) H1 H'/\StO a H' y n {A.1 with cells:=qZ bs A.1.turn A.1.cells i};refine Vw (K:=K) (a:=l1) (xs:=bvs) pw (iE2 _ _ (iA3 rfl Fr.refl so1)) (λi σ H' _ h=>by let⟨_,_,_,f,_⟩:=h;exact SqL.of (f _ _ pl1 hl1)) ?_ ?_
  .intro i x t σ H2 hi ht p9;refine oE2 p9 λv3 v4 p7=>oA3 p7 λp8 f2 so2=>?_;ext;let⟨b,hb',hBt⟩:=hB.at hi;refine oE3 hBt.inv λy1 dx1 fs1 p7=>oA5 p7 λp8 py1 g0 _ e2=>?_;clear p7;subst p8;have g02:=f2 _ _ py1 g0;have hil:=(aa.mp hb').1;have bk:=bo b (ah hb');have f3:=f2.trans (zc1 (ms:=y::n.all) (o:=.tup [.int i,.ref y1]) ht);have so3:=so2.same (zc (o:=.tup [.int i,.ref y1]) ht);have g03:=pH (o:=.tup [.int i,.ref y1]) g02 ht;refine un2 pE ?_;generalize upd H2 t (.tup [.int i,.ref y1])=H3 at f3 so3 g03 ⊢;have eb:bs.getD i (0,1)=b:=by rw[ay,hb'];rfl
   have co:=ZF (t:=A.1.turn) wA.co i;have hc:=jC (xs:=qZ bs A.1.turn A.1.cells i) (d:=[]) (show i<_ by rw[co.1];exact hil);refine oE2 (so3.cell hc) λbC vs p7=>oA3 p7 λhbC hvC rvC=>?_;clear p7;have lc:=(co.2 i b _ hb' hc).1;have b1:=bk.1;have b2:=bk.2.1;have b3:=bk.2.2.1;exists ra so3.hy T.ad T.gQ lk4 ?_;refine ra g03 T.iD T.iw e2 ?_;exists zF (λz=>?_) (λz=>?_)
   .exists uc (zb3 T).mono ?_;refine ra so3.hy T.ad T.gL lk1 (zu (SqL.of so3.hc.out) (zJ (Qu hbC)) ?_);refine iE3 bC vs _ (iA5 rfl hvC rvC (by lia) (λus' r'=>?_));refine iE2 _ _ (iA3 rfl (f3.trans (qx (zaS hbC))) ?_);have:=so3.putC hbC r';rw[qZ,eb,aq z];exact this
   .refine iE2 _ _ (iA3 rfl f3 ?_);rw[qZ,eb,ao z];exact so3
  .intro σ H2 p9;refine oE2 p9 λv3 v4 p7=>oA3 p7 λp8 f2 so2=>?_;ext;rw[lb]at so2;exact iE2 _ _ (iA3 rfl f2 so2)
 intro σ' H2 p9;refine oE2 p9 λv3 v4 p7=>oA3 p7 λp8 f2 so2=>?_;ext;exists⟨y,?_⟩;refine iE4 a.t n.dx _ _ (iA6 rfl so2.hy T.ad T.gQ lk4 ?_);refine iE2 _ 1 (iA3 rfl rfl (iE2 n.dx _ (iA3 so2.hy (show 4<1000 by decide) ?_)));rw[zje];have f3:=f2.trans (qx (x:=y) (o:=.ins a.t n.dx (sff (A.1.turn+1) n.lc n.ls n.lg)) (by simp));exists k l us _ (f1.trans f3) (by rw[passF,hA];exact so2.putT) nl nl' (f3 _ _ nl' hl) (by rw[passF,hA];exact so1.repsT f3 rl)
def zb1(T:Txt K mg a):Cal P w K mg base "pass_turn" 6 ["work","state"] [] (ze8 a):=T.mY.cal (zak T)
def zfh(a:Ad):Sp:=λvs H Q _=>∃(v:V)(st:PSt)(p:A6),vs=[v]/\Rep H p v (X7 a st)/\st.cells.length<=100/\st.gone.length<=100/\∀v' H',Same H H'->zd3 a H H' v' st->Q v' H'
def Wb(T:Txt K mg a):Cal P w K mg base "copied_state" 3 ["state"] [] (zfh a):=T.lP.cal λF=>by
 refine F.okx Jq ?_ ?_
 .walk_at"i"
 walk_at"j";let⟨v,st,p,rfl,hs,lc,lg,k⟩:=h;let⟨y,dx,fs,rfl,py,hy,g1,g2⟩:=Rep.ob' hs;let⟨u1,e1,r1⟩:=g1 _ _ (za0 st);let⟨u2,e2,r2⟩:=g1 _ _ (WU st);let⟨u3,e3,r3⟩:=g1 _ _ (WS st);let⟨u4,e4,r4⟩:=g1 _ _ (za1 st);cases r1;walk_at"T";refine⟨_,(zd (zj (jT (x:="State") ⟨rfl,rfl,rfl⟩ hr (za (zt (pq 0) rfl) (za (zt (pq 0) rfl) (za (zt (pq 0) rfl) (za (zt (pq 0) rfl) zb))))))),?_⟩;exists⟨a.t,_,_,_,(zdB T).mono,y,a.t,dx,fs,_,rfl,hy,T.ad,T.gQ,e1,?_⟩;refine ra hy T.ad T.gL e2 ?_;refine ra hy T.ad T.gX e3 ?_;refine ra hy T.ad T.gS e4 ?_;exact zbD T (st:=st) r2 r3 r4 lc lg λy' H' s' sn=>k _ _ s' sn
def zeb(a:Ad):Sp:=λvs H Q _=>∃(vw v:V)(st:PSt)(bs:A1)(rs:At)(p:A6),vs=[vw,v]/\Rep H (Off []) vw (qy a bs rs)/\Rep H p v (X7 a st)/\stWf bs rs st/\zV bs rs/\(∀b∈bs,zH b.1 b.2)/\(∀r∈rs,r.ok) /\
 ∀v' H',Same H H'->zd3 a H H' v' (passF bs rs st).1->Q v' H'
def zdb(T:Txt K mg a):Cal P w K mg base "one_turn" 7 ["work","state"] [] (zeb a):=T.nZ.cal λF=>by
 refine F.okx zbb ?_ ?_
 .walk_at"i"
 walk_at"j";let⟨vw,v,st,bs,rs,p,rfl,hw,hv,wf,wok,bo,ro,k⟩:=h;have b24:=wok.1.1.2;have r24:=wok.1.2.2;walk_at"T";refine⟨_,(zg (zr 2 zbb.nd ‹(pq 1) zb›)  (zg (zw ‹(pq 0) (za (pq 2) zb)›)  (zd (zj (pq 2))))),?_⟩;exists uc (Wb T).mono ⟨v,st,p,rfl,hv,by rw[wf.co.1];lia,by rw[wf.go.1];lia,λv' H1 s1 sn=>?_⟩;let⟨y,n,rfl,so1,ny,nd,nn⟩:=sn;have na:∀b∈y::n.all,H b=none:=λb hb=>by
  rcases aC.mp hb with rfl|hb
  .exact ny
  .exact nn b hb
 have hw1:Rep H1 (Off (y::n.all)) vw (qy a bs rs):=xq (hw.more (ns:=y::n.all) λb hb=>.inr (na b hb)) s1;exists uc (zb1 T).mono ⟨vw,y,n,st,bs,rs,rfl,hw1,so1,wf,wok,bo,ro,λl us H2 f2 so2 _ _ _ _=>?_⟩;left;exact k _ _ (λb o hb=>f2 b o (λz=>by rw[na b z]at hb;cases hb) (s1 b o hb)) ⟨y,n,rfl,so2,ny,nd,nn⟩
noncomputable def qm(bs:A1)(rs:At):Nat->PSt
 |0=>qR bs rs
 |n+1=>(passF bs rs (qm bs rs n)).1
def zgq{rs:At}(ro:∀r∈rs,r.ok):stWf bs rs (qR bs rs):=by
 refine⟨⟨by simp[qR],λi b c h1 h2=>?_⟩,⟨by simp[qR],λi r s h1 h2=>?_⟩,⟨by simp[qR],λi r g h1 h2=>?_⟩⟩
 .simp only[qR,ai,h1,Option.map_some,d7]at h2;subst h2;refine⟨by simp,λx hx=>?_⟩;rw[(cx.mp hx).2];exact Qv
 .have hs:=ah h2;have e:s=0:=(cx.mp hs).2;subst e;have ok:=ro r (ah h1);let⟨wd,ins,outs,pc,ks⟩:=r;refine⟨by decide,λhw=>?_,λhw=>?_,λ_ _=>rfl⟩
  .simp only at hw;subst hw;have:=ok.2.1;simp only at this ⊢
   lia
  .simp only at hw;subst hw;have:=ok.2.1;simp only at this ⊢
   lia
 .simp only[qR,ai,h1,Option.map_some,d7]at h2;subst h2;refine⟨rfl,λn hn=>?_⟩;rw[(cx.mp hn).2];decide
theorem qT{bs:A1}{rs:At}(wok:zV bs rs)(bo:∀b∈bs,zH b.1 b.2)(ro:∀r∈rs,r.ok):∀n,stWf bs rs (qm bs rs n)
 |0=>zgq ro
 |n+1=>zfK (qT wok bo ro n) wok bo ro
def Xa:Sp:=λvs H Q _=>∃a b:Int,vs=[.int a,.int b]/\0<=a/\0<=b/\Q (.int (Int.gcd a b:Int)) H
def zew(F:Fun K "common" "common" Xs f fd):FnOk P w K mg base (CXr P w) 1 f fd ["one","other"] Xa:=by
 refine F.okx zeh ?_ ?_
 .walk_at"i"
 walk_at"k";let⟨a,b,rfl,ha,hb,k⟩:=h;refine⟨_,(zg (zr 2 zeh.nd (pq 0))  (zg (zr 3 zeh.nd (pq 1))  (zg (zfB qj (zi xv (pq 3) ze (zk _))  (zg (zr 4 zeh.nd (zo qD (pq 2) (pq 3)))  (zg (zr 2 zeh.nd (pq 3))  (zd (zr 3 zeh.nd (pq 4))))))  (zd (zj (pq 2)))))),?_⟩;walk_at"r";refine⟨λm σ H'=>∃p r v,σ=[some (.int a),some (.int b),some (.int p),some (.int r),v]/\H'=H/\0<=p/\0<=r/\Int.gcd p r=Int.gcd a b/\m=r.toNat,⟨_,a,b,none,rfl,rfl,ha,hb,rfl,rfl⟩,?_⟩;rintro m σ H' ⟨p,r,v,rfl,rfl,hp,hr',hg,rfl⟩;walk_at"r";refine zF (λh=>?_) (λh=>?_)
 .refine zjL ?_;have h1:=aU p (show r≠0 by lia);have h2:=aP p h;exact⟨h,_,by lia,r,p%r,_,rfl,rfl,hr',h1,(zgl hp h).trans hg,rfl⟩
 .have e:r=0:=by lia
  subst e;have e2:=zhr hp;rw[hg]at e2;rw[<- e2];exact k
def Pac(ns:A7):Prop:=∀n∈ns,0<n/\n<=1000000000000
def Pac.nil:Pac []:=λ_ h=>nomatch h
def Pac.snoc(h:Pac ns)(h1:0<n)(h2:n<=1000000000000):Pac (ns++[n]):=λk hk=>by
 rcases ax.mp hk with z|z
 .exact h k z
 .rw[ak.mp z];exact⟨h1,h2⟩
def Pac.at(h:Pac ns){x:V}(e:(ns.map V.int)[i]?=some x):∃n,x=.int n/\0<n/\n<=1000000000000/\n∈ns/\ns.take (i+1)=ns.take i++[n]:=by
 rw[ai,am]at e;let⟨n,hn,rfl⟩:=e;have hm:=ah hn;refine⟨n,rfl,(h n hm).1,(h n hm).2,hm,?_⟩;rw[gw,hn]
 rfl
def zed(K:A0):Sp:=λvs H Q _=>∃(l:Addr)(ns:A7),vs=[.ref l]/\SqL K H l (ns.map V.int)/\Pac ns/\∀L,IsLcm ns L->Q (.int L) H
def zb5(T:Txt K mg a):Cal P w K mg base "common" 1 ["one","other"] [] Xa:=T.oI.cal zew
def zeP(T:Txt K mg a):Cal P w K mg base "lasting" 2 ["paces"] [] (zed K):=T.oj.cal λF=>by
 refine F.okx zcu ?_ ?_
 .walk_at"i"
 walk_at"k";let⟨l,ns,rfl,hl,hn,k⟩:=h;refine⟨_,(zg (zr 1 zcu.nd ze)  (zg (z6 qj rfl (zN (pq 0)) (zX 2 zcu.nd)  (zd (zr 1 zcu.nd (zo qV (zo xJ (pq 1) ‹(pq 1) (za (pq 2) zb)›) (pq 2)))))  (zd (zj (pq 1))))),?_⟩;left;walk_at"c";refine⟨l,rfl,.inl ⟨⟨_,hl⟩,?_⟩⟩;refine qb (K:=K) (a:=l) (xs:=ns.map V.int) (λi σ H'=>∃(m:Int)(v:Aq),σ=[some (V.ref l),some (V.int m),v]/\H'=H/\IsLcm (ns.take i) m) ⟨1,none,rfl,rfl,IsLcm.nil⟩ (λi σ H' _ ⟨_,_,_,e,_⟩=>e ▸ hl) ?_ ?_
 .rintro i x σ H1 hi ⟨m,v,rfl,rfl,hm⟩;let⟨p,rfl,p0,p1,_,ht⟩:=hn.at hi;walk_at"r";have g0:(0:Int)<(Int.gcd m p:Int):=by have:=zaB (a:=m) (b:=p) (by lia);lia
  have g1:(Int.gcd m p:Int)<=p:=zaC p0;refine⟨_,_,_,zb5 T,m,p,rfl,cY hm.pos,cY p0,?_⟩;walk_at"r";refine⟨fd_ok g0 ?_,mul_okR (by lia) (by lia),?_⟩
  .have:(1000000000000:Nat)<2^8999:=by symm
   lia
  .rw[fdiv_pos g0,ht];exact⟨_,_,rfl,hm.step p0⟩
 .rintro σ H1 ⟨m,v,rfl,rfl,hm⟩;rw[ae,aG]at hm;walk_at"r";exact k m hm
theorem IsLcm.ex:∀{ns:A7},Pac ns->∃L,IsLcm ns L:=λ{ns} h=>by
 have:∀k,k<=ns.length->∃L,IsLcm (ns.take k) L:=λk=>by
  induction k with
  |zero=>exactλ_=>⟨1,IsLcm.nil⟩
  |succ k ih =>
   intro hk;let⟨L,hL⟩:=ih (by lia);have e:ns.take (k+1)=ns.take k++[ns[k]]:=by rw[gw,af (by lia)];rfl
   rw[e];exact⟨_,hL.step (h _ (cr _)).1⟩
 have:=this ns.length (ar _)
 rwa[aG]at this
def zjS(T:Txt K mg a)(wd:Wd):kitOne K (.ref (wK a wd)) (.ref a.n)=some (decide (wd=.source)):=by
 cases wd
 .exact T.kX
 .exact T.lN
 .exact T.kY
 .exact T.iO
 .exact T.lO
 .exact T.kZ
def zjU(T:Txt K mg a)(wd:Wd):kitOne K (.ref (wK a wd)) (.ref a.o)=some (decide (wd=.drain)):=by
 cases wd
 .exact T.lJ
 .exact T.lX
 .exact T.lK
 .exact T.iW
 .exact T.lY
 .exact T.lM
noncomputable def qE(wd:Wd)(rs:At)(n:Nat):List Int:=((List.range n).filter λi=>decide (rs[i]?.map Row.wd=some wd)).map λ(i:Nat)=>(i:Int)
def qQ{rs:At}{n:Nat}{r:Row}(h:rs[n]?=some r):qE wd rs (n+1)=qE wd rs n++if r.wd=wd then [(n:Int)]else []:=by
 unfold qE;rw[eI,List.filter_append,aZ]
 congr 1
 by_cases e:r.wd=wd<;>simp[h,e]
noncomputable def zp(wd:Wd)(rs:At):List Int:=qE wd rs rs.length
def qv(wd:Wd)(rs:At)(n:Nat):(qE wd rs n).length<=n:=by
 unfold qE;rw[ae];exact aR (List.length_filter_le _ _) (by simp)
def xw{rs:At}{m:Int}(h:m∈zp wd rs):∃(i:Nat)(r:Row),m=i/\rs[i]?=some r/\r.wd=wd:=by
 unfold zp qE at h;let⟨i,hi,rfl⟩:=bb.mp h;rw[cw]at hi;have h2:=bu hi.2;rw[am]at h2;let⟨r,h3,h4⟩:=h2;exact⟨i,r,rfl,h3,h4⟩
def zbz{rs:At}{r:Row}(h:rs[i]?=some r)(hw:r.wd=wd):(i:Int)∈zp wd rs:=by
 unfold zp qE;refine bb.mpr ⟨i,cw.mpr ⟨dL.mpr (aa.mp h).1,?_⟩,rfl⟩;rw[h];exact bh (by rw[<- hw];rfl)
def zfb(a:Ad)(wd:Wd):Sp:=λvs H Q _=>∃(v:V)(bs:A1)(rs:At)(p:A6),vs=[v]/\Rep H p v (qy a bs rs)/\rs.length<=100/\∀q H',Same H H'->H q=none->H' q=some (.lst (iv (zp wd rs)))->Q (.ref q) H'
def jO(T:Txt K mg a):MCal P w K mg base a.u "drains" 1 ["self"] [] (zfb a .drain):=T.mt.cal T.gM λF=>by
 refine F.okx Xn ?_ ?_
 .walk_at"i"
 walk_at"j";refine oE4 h λv bs rs p p7=>oA4 p7 λp8 hv l100 k=>?_;clear p7 h;subst p8;refine oE7 (qS hv) λy dx fs l1 l2 bvs pi p7=>oA9 p7 λp8 hy e1 e2 h1 h2 hB hK no=>?_;clear p7;subst p8;walk_at"T";refine⟨_,(zd (zj (jk (vars:=["number","knot"]) (caps:=[]) (N:=["number","knot"]) (ON:=["self"]) (osc:=zf xQ) rfl rfl (by right) rfl rfl (jh (za (zt (pq 0) rfl) zb)) (λ_ _ _ _=>(j8 (n:=2) rfl (zR (zX 0 (show(["number","knot"]:A9).Nodup from by symm)) (zR (zX 1 (show(["number","knot"]:A9).Nodup from by symm)) jn)))) (λ_ _ _ _=>(zaf (zY (zE jr zO (za (pq 1) (za jc zb))) (λ_=>rfl)))) (λ_ _ _ _=>(pq 0))))),?_⟩;left;walk_at"d";exists ra hy T.gM T.gI e2 (iE2 l2 _ (iA3 rfl h2 (λ_ _ _ _ ph hacc=>?_)));refine Vw (K:=K) (a:=l2) (xs:=pi) (λi σ H'=>∃(v0 v1:Aq),σ=[v0,v1]/\Same H H'/\H' ph=some (.lst (iv (qE .drain rs i)))) (iE2 _ _ (iA3 rfl (zc hacc) pE)) (λi σ H' _ h=>by let⟨_,_,_,s,_⟩:=h;exact SqL.of (s _ _ h2)) ?_ ?_
 .intro i x t σ H' hi ht p9;refine oE2 p9 λv0 v1 p7=>oA3 p7 λp8 s7 e1'=>?_;ext;let⟨r,hr',hKn⟩:=hK.at hi;refine oE6 hKn.inv λy1 dx1 m1 m2 m3 fs1 p7=>oA9 p7 λp8 _ _ _ _ g0 f1 f2 pj=>oA5 pj λ_ g1 g2 _ _=>?_;clear p7 pj;subst p8;have hil:=(aa.mp hr').1;have s8:=s7.trans (zc (o:=.tup [.int i,.ref y1]) ht);have e8:=pH (o:=.tup [.int i,.ref y1]) e1' ht;refine un2 pE ?_;generalize upd H' t (.tup [.int i,.ref y1])=H8 at s8 e8 ⊢;exists iE2 (.ref a.o) _ (iA3 T.nU rfl (iE4 _ _ _ _ (iA4 rfl ((WT T r.wd).ty (CT T r.wd) (s8 _ _ g0)) (.inl ⟨_,rfl,zjU T r.wd⟩) ?_)));exists zF (λb=>?_) (λb=>?_)
  .refine⟨_,iA3 e8 (zm (by have:=qv .drain rs i;rw[zA];lia)) (iE2 _ _ (iA3 rfl (λb o hb=>by rw[pF (pG hb hacc)];exact s8 b o hb) ?_))⟩;rw[pE,qQ hr',aq b,qX]
  .exact iE2 _ _ (iA3 rfl s8 (by rw[qQ hr',ao b,cc];exact e8))
 intro σ H2 p9;refine oE2 p9 λv0 v1 p7=>oA3 p7 λp8 s2 ha=>?_;ext;rw[hK.len]at ha;exact k _ _ s2 hacc ha
def vE(T:Txt K mg a):MCal P w K mg base a.u "sources" 1 ["self"] [] (zfb a .source):=T.lW.cal T.gM λF=>by
 refine F.okx Jr ?_ ?_
 .walk_at"i"
 walk_at"j";let⟨v,bs,rs,p,rfl,hv,l100,k⟩:=h;let⟨y,dx,fs,l1,l2,bvs,pi,rfl,hy,e1,e2,h1,h2,hB,hK,no⟩:=qS hv;walk_at"T";refine⟨_,(zd (zj (jk (vars:=["number","knot"]) (caps:=[]) (N:=["number","knot"]) (ON:=["self"]) (osc:=zf xp) rfl rfl (by right) rfl rfl (jh (za (zt (pq 0) rfl) zb)) (λ_ _ _ _=>(j8 (n:=2) rfl (zR (zX 0 (show(["number","knot"]:A9).Nodup from by symm)) (zR (zX 1 (show(["number","knot"]:A9).Nodup from by symm)) jn)))) (λ_ _ _ _=>(zaf (zY (zE jr zO (za (pq 1) (za jc zb))) (λ_=>rfl)))) (λ_ _ _ _=>(pq 0))))),?_⟩;left;walk_at"d";exists ra hy T.gM T.gI e2 ⟨l2,_,rfl,h2,λ_ _ _ _ ph hacc=>?_⟩;refine Vw (K:=K) (a:=l2) (xs:=pi) (λi σ H'=>∃(v0 v1:Aq),σ=[v0,v1]/\Same H H'/\H' ph=some (.lst (iv (qE .source rs i)))) ⟨_,_,rfl,zc hacc,pE⟩ (λi σ H' _ h=>by let⟨_,_,_,s,_⟩:=h;exact SqL.of (s _ _ h2)) ?_ ?_
 .rintro i x t σ H' hi ht ⟨v0,v1,rfl,s7,e1'⟩;let⟨r,hr',hKn⟩:=hK.at hi;let⟨y1,dx1,m1,m2,m3,fs1,rfl,_,_,_,_,g0,f1,f2,_,g1,g2,_,_⟩:=hKn.inv;have hil:=(aa.mp hr').1;have s8:=s7.trans (zc (o:=.tup [.int i,.ref y1]) ht);have e8:=pH (o:=.tup [.int i,.ref y1]) e1' ht;refine un2 pE ?_;generalize upd H' t (.tup [.int i,.ref y1])=H8 at s8 e8 ⊢;exists⟨.ref a.n,_,T.mO,rfl,_,_,_,_,rfl,(WT T r.wd).ty (CT T r.wd) (s8 _ _ g0),.inl ⟨_,rfl,zjS T r.wd⟩,?_⟩;exists zF (λb=>?_) (λb=>?_)
  .refine⟨_,e8,zm (by have:=qv .source rs i;rw[zA];lia),_,_,rfl,(λb o hb=>by rw[pF (pG hb hacc)];exact s8 b o hb),?_⟩;rw[pE,qQ hr',aq b,qX]
  .exact⟨_,_,rfl,s8,by rw[qQ hr',ao b,cc];exact e8⟩
 rintro σ H2 ⟨v0,v1,rfl,s2,ha⟩;rw[hK.len]at ha;exact k _ _ s2 hacc ha
def wN(bs:A1)(rs:At)(n:Int):Prop:=(∃b∈bs,b.2=n)\/∃r∈rs,(r.wd=.source\/r.wd=.drain)/\r.pace=n/\0<n
def zbj{r:Row}(h:r.ok)(hw:r.wd=.source\/r.wd=.drain):0<=r.pace/\r.pace<=4:=by
 let⟨wd,ins,outs,pc,ks⟩:=r;rcases hw with hw|hw
 .simp only at hw;subst hw;have h1:=h.2.2.1;have h2:=h.2.2.2.1;simp only at h1 h2;exact⟨by show 0<=pc;lia,h2⟩
 .simp only at hw;subst hw;exact⟨h.2.2.1,h.2.2.2⟩
def zig(a:Ad):Sp:=λvs H Q _=>∃(v:V)(bs:A1)(rs:At)(p:A6),vs=[v]/\Rep H p v (qy a bs rs)/\bs.length<=100/\rs.length<=100/\(∀b∈bs,zH b.1 b.2)/\(∀r∈rs,r.ok) /\
 ∀L ns H',IsLcm ns L->(∀n,n∈ns↔wN bs rs n)->Same H H'->Q (.int L) H'
def zbG(T:Txt K mg a):MCal P w K mg base a.u "beat" 3 ["self"] [] (zig a):=T.nJ.cal T.gM λF=>by
 refine F.okx VZ ?_ ?_
 .walk_at"i"
 walk_at"j";refine oE4 h λv bs rs p p7=>oA7 p7 λp8 hv lb lr bo ro k=>?_;clear p7 h;subst p8;have hv0:=hv;refine oE7 (qS hv) λy dx fs l1 l2 bvs pi p7=>oA9 p7 λp8 hy e1 e2 h1 h2 hB hK no=>?_;clear p7;subst p8;walk_at"T";refine⟨_,(zg (Z7 (i:=1) VZ.nd rfl (Or.inl rfl) (vars:=["belt"]) (caps:=[]) (N:=["belt"]) (ON:=["self","paces","number","pace"]) (osc:=zf vj) rfl rfl (by right) rfl rfl (zN (zt (pq 0) rfl)) (λ_ _ _ _=>(zX 0 (show(["belt"]:A9).Nodup from by symm))) (λ_ _ _ _=>z8) (λ_ _ _ _=>(zt (pq 0) rfl)))  (zg (z6 qj rfl (zN (zo zM (wG ⟨rfl,rfl,rfl⟩ hr (pq 0)) (wG ⟨rfl,rfl,rfl⟩ hr (pq 0)))) (zX 2 VZ.nd)  (zg (zr 3 VZ.nd (zt (zq (zt (pq 0) rfl) (pq 2)) rfl))  (zd (zy (zi xv (pq 3) ze (zk _))  (zd (zw (qH ap aA az zS (pq 1) (za (pq 3) zb))))  zl))))  (zd (zj ‹(pq 1) zb›)))),?_⟩;left;walk_at"d";exists ra hy T.gM T.hZ e1 ⟨l1,rfl,.inl ⟨⟨_,SqL.of h1⟩,λ_ _ _ _ ph hacc=>?_⟩⟩;let pk:Nat->St->Hp->Prop:=λi σ H'=>∃(v0:Aq),σ=[v0]/\Same H H'/\H' ph=some (.lst (iv ((bs.take i).map (·.2))));refine qb (K:=K) (a:=l1) (xs:=bvs) pk ⟨_,iA3 rfl (zc hacc) (by rw[bT];exact pE)⟩ (λi σ H' _ h=>by let⟨_,_,s,_⟩:=h;exact SqL.of (s _ _ h1)) ?_ ?_
 .intro i x σ H' hi p9;refine oE1 p9 λv0 p7=>oA3 p7 λp8 s7 e7=>?_;ext;let⟨b,hr',hBt⟩:=hB.at hi;refine oE3 hBt.inv λy1 dx1 fs1 p7=>oA5 p7 λp8 _ g0 f1 f2=>?_;clear p7;subst p8;have hil:=(aa.mp hr').1;exists ra (s7 _ _ g0) T.iD T.iw f2 ?_;refine⟨_,iA3 e7 (zm (by rw[zA,ae,aE];lia)) ⟨_,iA3 rfl (λb o hb=>by rw[pF (pG hb hacc)];exact s7 b o hb) ?_⟩⟩;rw[pE,aO,hr',aZ,qX]
  rfl
 intro σ H2 p9;refine oE1 p9 λv0 p7=>oA3 p7 λp8 s2 ha=>?_;ext;rw[hB.len,aG]at ha;left;walk_at"c";exists iE7 y a.u dx fs _ _ _ (iA5 rfl (s2 _ _ hy) (no _ (by symm) (by symm)) ((vE T).mono) ?_);refine iE4 _ bs rs p (iA4 rfl (hv0.keep λb o pb hb=>⟨pb,s2 _ _ hb⟩) lr (λq1 H3 s3 n1 hq1=>?_));refine iE7 y a.u dx fs _ _ _ (iA5 rfl (s3 _ _ (s2 _ _ hy)) (no _ (by symm) (by symm)) ((jO T).mono) ?_);refine iE4 _ bs rs p (iA4 rfl (hv0.keep λb o pb hb=>⟨pb,s3 _ _ (s2 _ _ hb)⟩) lr (λq2 H4 s4 n2 hq2=>?_));have l3:=qv .source rs rs.length;have l4:=qv .drain rs rs.length;refine jN (SqL.of (s4 _ _ hq1)) (SqL.of hq2) (qN (by rw[zA,zA];show(qE _ _ _).length+(qE _ _ _).length<=_;lia)) λq3 hq3=>?_;rw[zcT];have s5:Same H (upd H4 q3 (.lst (iv (zp .source rs++zp .drain rs)))):=((s2.trans s3).trans s4).trans (zc hq3);have ha5:upd H4 q3 (.lst (iv (zp .source rs++zp .drain rs))) ph=some (.lst (iv (bs.map (·.2)))):=pH (s4 _ _ (s3 _ _ ha)) hq3;have hq5:upd H4 q3 (.lst (iv (zp .source rs++zp .drain rs))) q3=some (.lst (iv (zp .source rs++zp .drain rs))):=pE;have nq:q3≠ph:=(pG (s4 _ _ (s3 _ _ ha)) hq3).symm;have hq0:H q3=none:=zK ((s2.trans s3).trans s4) hq3;generalize upd H4 q3 (.lst (iv (zp .source rs++zp .drain rs)))=H5 at s5 ha5 hq5 ⊢;refine⟨q3,rfl,.inl ⟨⟨_,SqL.of hq5⟩,?_⟩⟩;let pw:Nat->St->Hp->Prop:=λi σ H'=>∃(v2 v3:Aq)(ns:A7),σ=[some (.ref y),some (.ref ph),v2,v3]/\Same H H'/\H' q3=some (.lst (iv (zp .source rs++zp .drain rs)))/\H' ph=some (.lst (iv ns))/\Pac ns/\ns.length<=bs.length+i/\∀n,n∈ns↔n∈bs.map (·.2)\/∃(m:Nat)(r:Row),(m:Int)∈(zp .source rs++zp .drain rs).take i/\rs[m]?=some r/\r.pace=n/\0<n;refine qb (K:=K) (a:=q3) (xs:=iv (zp .source rs++zp .drain rs)) pw
  ⟨_,_,bs.map (·.2),rfl,s5,hq5,ha5,?_,by simp,?_⟩ (λi σ H' _ h=>by let⟨_,_,_,_,_,h,_⟩:=h;exact SqL.of h) ?_ ?_
 .intro n hn;let⟨b,hb,rfl⟩:=bb.mp hn;have:=bo b hb;exact⟨by have:=this.2.2.1;lia,by have:=this.2.2.2;lia⟩
 .intro n;simp
 .intro i x σ H6 hi p9;refine oE3 p9 λv2 v3 ns p7=>oA7 p7 λp8 s6 hq6 ha6 pn ln mem=>?_;ext;let⟨m,hm,rfl⟩:=xz hi;have hmm:=ah hm;have hil:=(aa.mp hm).1;have hlen:(zp .source rs++zp .drain rs).length<=200:=by
   rw[av];show(qE _ _ _).length+(qE _ _ _).length<=_
   lia
  let⟨j,r,rfl,hr',hw⟩:∃(j:Nat)(r:Row),m=j/\rs[j]?=some r/\(r.wd=.source\/r.wd=.drain):=by
   rcases ax.mp hmm with z|z
   .obtain⟨j,r,q1,q2,q3⟩:=xw z;exact⟨j,r,q1,q2,.inl q3⟩
   .obtain⟨j,r,q1,q2,q3⟩:=xw z;exact⟨j,r,q1,q2,.inr q3⟩
  have hp:=zbj (ro r (ah hr')) hw;let⟨kv,hkv,hKn⟩:∃kv,pi[j]?=some kv/\KnP a H p kv r:=by
   have hj:=(aa.mp hr').1;have e:pi[j]?=some (pi[j]'(by rw[hK.len];exact hj)):=af _;exact⟨_,e,hK.g j _ r e hr'⟩
  refine oE6 hKn.inv λy1 dx1 m1 m2 m3 fs1 p7=>oA9 p7 λp8 _ _ _ _ g0 _ _ pj=>oA5 pj λ_ _ _ _ fp=>?_;clear p7 pj;subst p8;exists ra (s6 _ _ hy) T.gM T.gI e2 (zu (SqL.of (s6 _ _ h2)) (zJ hkv) ?_);have NP:NoAttr K (wK a r.wd) "pace":=by
   rcases hw with z|z
   .rw[z];exact T.ie
   .rw[z];exact T.hJ
  refine iE5 y1 (wK a r.wd) dx1 fs1 _ (iA6 rfl (s6 _ _ g0) (CT T _) NP (fp hw) ?_);left;have tk:(zp .source rs++zp .drain rs).take (i+1)=(zp .source rs++zp .drain rs).take i++[(j:Int)]:=by rw[aO,hm];rfl
  refine zF (λb=>?_) (λb=>?_)
  .exists⟨.inl ⟨rfl,_,SqL.of ha6⟩,iE3 ph _ _ (iA5 rfl rfl ha6 (zm (by rw[zA];lia)) ?_)⟩;rw[qX];refine iE3 _ _ (ns++[r.pace]) (iA7 rfl (λb o hb=>by rw[pF (pG hb hacc)];exact s6 b o hb) (by rw[pF nq];exact hq6) pE (pn.snoc b (by lia)) (by simp;lia) (λn=>?_));rw[ax,mem n,ak,tk];constructor
   .rintro((h|⟨m',r',h1,h2,h3,h4⟩)|h)
    .exact .inl h
    .exact .inr (iE2 m' r' (iA4 (bP _ h1) h2 h3 h4))
    .subst h;exact .inr (iE2 j r (iA4 (aX _ (ak.mpr rfl)) hr' rfl b))
   .rintro(h|⟨m',r',h1,h2,h3,h4⟩)
    .exact .inl (.inl h)
    .rcases ax.mp h1 with h1|h1
     .exact .inl (.inr (iE2 m' r' (iA4 h1 h2 h3 h4)))
     .have e:m'=j:=by have:=ak.mp h1;lia
      subst e;rw[hr']at h2;cases h2;exact .inr h3.symm
  .refine iE3 _ _ ns (iA7 rfl s6 hq6 ha6 pn (by lia) (λn=>?_));rw[mem n,tk];constructor
   .rintro(h|⟨m',r',h1,h2,h3,h4⟩)
    .exact .inl h
    .exact .inr (iE2 m' r' (iA4 (bP _ h1) h2 h3 h4))
   .rintro(h|⟨m',r',h1,h2,h3,h4⟩)
    .exact .inl h
    .rcases ax.mp h1 with h1|h1
     .exact .inr (iE2 m' r' (iA4 h1 h2 h3 h4))
     .have e:m'=j:=by have:=ak.mp h1;lia
      subst e;rw[hr']at h2;cases h2
      lia
 .intro σ H6 p9;refine oE3 p9 λv2 v3 ns p7=>oA7 p7 λp8 s6 hq6 ha6 pn ln mem=>?_;ext;rw[zA,aG]at mem;exists uc (zeP T).mono (iE2 ph ns (iA4 rfl (SqL.of ha6) pn (λL hL=>k L ns _ hL (λn=>?_) s6)));rw[mem n];unfold wN;constructor
  .rintro(h|⟨m',r',h1,h2,h3,h4⟩)
   .obtain⟨b,hb,e⟩:=bb.mp h;exact .inl ⟨b,hb,e⟩
   .refine .inr ⟨r',iA4 (ah h2) ?_ h3 h4⟩;rcases ax.mp h1 with z|z
    .refine oE2 (xw z) λj r p7=>oA3 p7 λq1 q2 q3=>?_;clear p7;have e:m'=j:=by lia
     subst e;rw[h2]at q2;cases q2;exact .inl q3
    .refine oE2 (xw z) λj r p7=>oA3 p7 λq1 q2 q3=>?_;clear p7;have e:m'=j:=by lia
     subst e;rw[h2]at q2;cases q2;exact .inr q3
  .rintro(⟨b,hb,e⟩|⟨r,hr',hw,h3,h4⟩)
   .exact .inl (bb.mpr ⟨b,hb,e⟩)
   .obtain⟨m',hm'⟩:=bF hr';refine .inr (iE2 m' r (iA4 ?_ hm' h3 h4));rcases hw with hw|hw
    .exact bP _ (zbz hm' hw)
    .exact aX _ (zbz hm' hw)
def zaA{G:Addr}{ags:Ac}{gss:List A7}{g:A7}(h:NL H p G ags (qJ gss))(e:gss[i]?=some g):∃b,ags[i]?=some b/\H b=some (.lst (iv g)):=by
 let⟨b,vs,h1,h2,h3⟩:=h.at (i:=i) (xs:=g.map D.int) (by rw[qJ,ai,e];rfl);rw[JO h3]at h2;exact⟨b,h1,h2⟩
noncomputable def kdW(rs:At)(x:Int×Int):Int:=vJ ((rs[x.1.toNat]?.map Row.kinds).getD []) x.2
noncomputable def jJ(rs:At)(c:Av):List Aa:=c.map λwr=>wr.map (kdW rs)
def zee(a:Ad):Sp:=λvs H Q _=>∃(vw:V)(cb:Addr)(us:Ap)(bs:A1)(rs:At)(c:Av)(p q:A6),vs=[vw,.ref cb]/\Rep H p vw (qy a bs rs)/\H cb=some (.lst us)/\Reps H q us (c.map qB)/\(∀wr∈c,Zr rs wr)/\(∀r∈rs,r.ok)/\c.length<=6/\∀t H',Same H H'->H t=none->H' t=some (.tup ((jJ rs c).map oiV))->Q (.ref t) H'
theorem zdc(T:Txt K mg a):Cal P w K mg base "kinds_in" 2 ["work","cells"] [] (zee a):=T.nV.cal λF=>by
 refine F.okx zbc ?_ ?_
 .walk_at"i"
 walk_at"j";refine oE8 h λvw cb us bs rs c p q p7=>oA8 p7 λp8 hw hcb rus wk ro c6 k=>?_;clear p7 h;subst p8;have lu:us.length=c.length:=by rw[rus.len,ae]
 walk_at"T";refine⟨_,(zd (zj (jA Qt wv (za (jk (vars:=["ware"]) (caps:=[0]) (N:=["ware","work"]) (ON:=["work","cells"]) (osc:=zf Zx) rfl rfl (by right) rfl rfl (zN (pq 1)) (λ_ _ _ _=>(zX 0 (show(["ware","work"]:A9).Nodup from by symm))) (λ_ _ _ _=>z8) (λ_ _ _ _=>(xu (zi jq (pq 0) zG (zk _)) zG (vA hr (za (pq 1) (za (pq 0) zb)))))) zb)))),?_⟩;walk_at"d";exists⟨cb,rfl,.inl ⟨⟨_,SqL.of hcb⟩,λ_ _ _ _ ph hacc=>?_⟩⟩;let pk:Nat->St->Hp->Prop:=λj σ H'=>∃(v0:Aq),σ=[v0,some vw]/\Same H H'/\H' ph=some (.lst ((jJ rs (c.take j)).map oiV));refine qb (K:=K) (a:=cb) (xs:=us) pk ⟨_,iA3 rfl (zc hacc) pE⟩ (λi σ H' _ h=>by let⟨_,_,s,_⟩:=h;exact SqL.of (s _ _ hcb)) ?_ ?_
 .intro j v σ H1 hj p9;refine oE1 p9 λv0 p7=>oA3 p7 λp8 s1 ha=>?_;ext;let⟨d,hd,rv⟩:=rus.at hj;rw[ai,am]at hd;let⟨wr,hwr,rfl⟩:=hd;have hjl:=(aa.mp hwr).1;have e:(jJ rs (c.take (j+1))).map oiV=(jJ rs (c.take j)).map oiV++[oiV (wr.map (kdW rs))]:=by
   rw[aO,hwr];simp[jJ]
  have lk:((jJ rs (c.take j)).map oiV).length<=6:=by simp[jJ];lia
  have sn:∀(x:V),Same H (upd H1 ph (.lst ((jJ rs (c.take j)).map oiV++[x]))):=λx b o hb=>by rw[pF (pG hb hacc)];exact s1 b o hb
  cases wr with
  |none =>
   have rv:Rep H q v .non:=rv;cases rv;left;exact⟨_,iA3 ha (zm (by lia)) ⟨_,iA3 rfl (sn _) (by rw[pE,e];rfl)⟩⟩
  |some x =>
   let⟨tx,rfl,htx⟩:=Qa (b:=x) rv;refine oE2 (wk _ (ah hwr) x.1 x.2 rfl) λjj r p7=>oA4 p7 λe1 hr' hs _=>?_;clear p7;have kp:0<r.kinds.length:=by
    have ok:=ro r (ah hr');unfold Row.ok at ok;rw[hs]at ok;have:=ok.2.2.2.2.1
    lia
   have hw1:Rep H1 p vw (qy a bs rs):=hw.keep λb o hb ho=>⟨hb,s1 _ _ ho⟩;have rx:Rep H1 q (.ref tx) (.tup [.int jj,.int x.2]):=by
    have:=rv.keep (H':=H1) (q:=q) λb o hb ho=>⟨hb,s1 _ _ ho⟩;have e2:qB (some x)=.tup [.int x.1,.int x.2]:=rfl;rw[e2,e1]at this;exact this
   exists uc (VC T).mono (iE5 vw (.ref tx) bs rs p (iE4 q jj x.2 r (iA7 rfl hw1 rx hr' hs kp ?_)));refine⟨_,iA3 ha (zm (by lia)) ⟨_,iA3 rfl (sn _) ?_⟩⟩;rw[pE,e];show _=some (HO.lst (_++[V.int (kdW rs x)]))
   unfold kdW;rw[e1,aK,hr']
   rfl
 intro σ H1 p9;refine oE1 p9 λv0 p7=>oA3 p7 λp8 s1 ha=>?_;ext;rw[lu,aG]at ha;refine iE2 ph _ ⟨rfl,.inl ⟨SqL.of ha,λt ht=>?_⟩⟩;exact k t _ (s1.trans (zc ht)) (zK s1 ht) pE
def QZ(bs:A1)(rs:At)(L:Int):Prop:=∃ns,IsLcm ns L/\∀n,n∈ns↔wN bs rs n
def zgC{rs:At}{L L':Int}(h:QZ bs rs L)(h':QZ bs rs L'):L=L':=by
 let⟨ns,i,m⟩:=h;let⟨ns',i',m'⟩:=h';have d:L∣L':=i.least _ λn hn=>i'.dv n ((m' n).mpr ((m n).mp hn));have d':L'∣L:=i'.least _ λn hn=>i.dv n ((m n).mpr ((m' n).mp hn));exact Int.dvd_antisymm (cY i.pos) (cY i'.pos) d d'
open Classical in
noncomputable def xP(bs:A1)(rs:At):Int:=if h:∃L,QZ bs rs L then Classical.choose h else 1
def Wf{rs:At}{L:Int}(h:QZ bs rs L):L=xP bs rs:=by
 unfold xP;rw[dif_pos ⟨L,h⟩];exact zgC h (Classical.choose_spec (⟨L,h⟩:∃L,QZ bs rs L))
noncomputable def jI(rs:At)(st:PSt)(j:Int):Int:=match rs[j.toNat]? with
 |some r=>(st.gone.getD j.toNat []).headD 0%(r.kinds.length:Int)
 |none=>0
noncomputable def Xd(bs:A1)(rs:At)(st:PSt):ShK:=(some (st.turn%xP bs rs),st.cells.map (jJ rs),st.sides.map some,(zp .source rs).map λj=>some (jI rs st j))
def za4(a:Ad):Sp:=λvs H Q _=>∃(vw:V)(y:Addr)(n:SN)(j:Nat)(bs:A1)(rs:At)(st:PSt)(r:Row)(p:A6),vs=[vw,.ref y,.int j]/\Rep H p vw (qy a bs rs)/\StO a H y n st/\rs[j]?=some r/\r.wd=.source/\r.ok/\stWf bs rs st/\Q (.int (jI rs st j)) H
def zaK(T:Txt K mg a):Cal P w K mg base "kind_place" 1 ["work","state","number"] [] (za4 a):=T.mC.cal λF=>by
 refine F.okx Wq ?_ ?_
 .walk_at"i"
 walk_at"j";refine oE5 h λvw y n j bs p7=>oE4 p7 λrs st r p p8=>oA8 p8 λpj hv so hr' hs ok wf k=>?_;clear p7 p8 h;subst pj;refine oE7 (qS hv) λyw dx fs l1 l2 bvs pi p7=>oA9 p7 λp8 hy e1 e2 h1 h2 hB hK no=>?_;clear p7;subst p8;let⟨kv,hkv,hKn⟩:=zau hK hr';refine oE6 hKn.inv λy1 dx1 m1 m2 m3 fs1 p7=>oA9 p7 λp8 _ _ _ _ g0 _ _ pj=>oA5 pj λ_ _ _ g3 _=>?_;clear p7 pj;subst p8;let⟨g3a,g3b⟩:=g3 hs;have kp:0<r.kinds.length:=by
  unfold Row.ok at ok;rw[hs]at ok;have:=ok.2.2.2.2.1
  lia
 have hj:=(aa.mp hr').1;let⟨g,hg⟩:∃g,st.gone[j]?=some g:=⟨_,af (by rw[wf.go.1];exact hj)⟩;have q1:=(wf.go.2 j r g hr' hg).1;have cp:=Ql ok;let⟨gh,gs,rfl⟩:=dR (List.ne_nil_of_length_pos (by lia:0<g.length));let⟨bG,hbG,hgG⟩:=zaA so.hg hg;have hmap:(n.ags.map V.ref)[j]?=some (.ref bG):=by rw[ai,hbG];rfl
 have ek:jI rs st j=gh%(r.kinds.length:Int):=by
  unfold jI;rw[aK,hr',ay,hg]
  rfl
 rw[ek]at k;walk_at"T";refine⟨_,(zd (zj (zo qD (zq (zq (zt (pq 1) rfl) (pq 2)) ze) (zE zC zB (za (zt (zq (zt (pq 0) rfl) (pq 2)) rfl) zb))))),?_⟩;exists ra so.hy T.ad T.gS rfl (zu (SqL.of so.hg.out) (zJ hmap) (zu (SqL.of hgG) at0 ?_));exists ra hy T.gM T.gI e2 (zu (SqL.of h2) (zJ hkv) ?_);refine iE5 y1 (wK a r.wd) dx1 fs1 _ (iA6 rfl g0 (CT T _) (by rw[hs];exact T.ib) g3a ?_);refine⟨_,.inl ⟨_,SqL.of g3b,rfl⟩,?_⟩;rw[zA];left;exact⟨by lia,k⟩
theorem zab{H:Hp}{p:A6}:∀c:List Aa,Reps H p (c.map oiV) (c.map oiD)
 |[]=>.nil
 |none::c=>.cons .non (zab c)
 |some n::c=>.cons .int (zab c)
def zcC{t:Addr}{c:List Aa}(h:H t=some (.tup (c.map oiV))):Rep H (zZ H) (.ref t) (.tup (c.map oiD)):=(zab c).mkT ⟨_,h⟩ h
def JY{H H':Hp}{d:D}(r:Rep H (zZ H) v d)(s:Same H H'):Rep H' (zZ H') v d:=r.keep λb o ⟨xs,hx⟩ hb=>⟨⟨xs,s _ _ hx⟩,s _ _ hb⟩
def WQ{H H':Hp}{ds:List D}(r:Reps H (zZ H) vs ds)(s:Same H H'):Reps H' (zZ H') vs ds:=r.keep λb o ⟨xs,hx⟩ hb=>⟨⟨xs,s _ _ hx⟩,s _ _ hb⟩
def zfR{rs:At}{m:Int}(h:m∈zp wd rs):∃(j:Nat)(r:Row),m=j/\rs[j]?=some r/\r.wd=wd:=by
 unfold zp qE at h;let⟨j,hj,rfl⟩:=bb.mp h;let⟨h1,h2⟩:=cw.mp hj;have h2:=bu h2;let⟨r,hr,e⟩:=am.mp h2;exact⟨j,r,rfl,hr,e⟩
def zgO(a:Ad):Sp:=λvs H Q _=>∃(vw:V)(y:Addr)(n:SN)(bs:A1)(rs:At)(st:PSt)(p:A6),vs=[vw,.ref y]/\Rep H p vw (qy a bs rs)/\StO a H y n st/\stWf bs rs st/\bs.length<=24/\rs.length<=24/\(∀b∈bs,zH b.1 b.2)/\(∀r∈rs,r.ok)/\∀t H',Same H H'->Rep H' (zZ H') (.ref t) (shD (Xd bs rs st))->Q (.ref t) H'
def zda(T:Txt K mg a):Cal P w K mg base "shape_of" 4 ["work","state"] [] (zgO a):=T.nW.cal λF=>by
 refine F.okx zba ?_ ?_
 .walk_at"i"
 walk_at"j";refine oE7 h λvw y n bs rs st p p7=>oA9 p7 λp8 hv so wf b24 r24 bo ro k=>?_;clear p7 h;subst p8;refine oE7 (qS hv) λyw dx fs l1 l2 bvs pi p7=>oA9 p7 λp8 hy e1 e2 h1 h2 hB hK no=>?_;clear p7;subst p8;walk_at"T";refine⟨_,(zg (zr 2 zba.nd (zo qD (zt (pq 1) rfl) (wG ⟨rfl,rfl,rfl⟩ hr (pq 0))))  (zg (zr 3 zba.nd (jA Qt wv (za (jk (vars:=["cells"]) (caps:=[0]) (N:=["cells","work"]) (ON:=["work","state","beat_place","kinds","places"]) (osc:=zf wz) rfl rfl (by right) rfl rfl (zN (zt (pq 1) rfl)) (λ_ _ _ _=>(zX 0 (show(["cells","work"]:A9).Nodup from by symm))) (λ_ _ _ _=>z8) (λ_ _ _ _=>(vA hr (za (pq 1) (za (pq 0) zb))))) zb)))  (zg (zr 4 zba.nd (jA Qt wv (za (jk (vars:=["number"]) (caps:=[0,1]) (N:=["number","work","state"]) (ON:=["work","state","beat_place","kinds","places"]) (osc:=zf wz) rfl rfl (by right) rfl rfl (zN (wG ⟨rfl,rfl,rfl⟩ hr (pq 0))) (λ_ _ _ _=>(zX 0 (show(["number","work","state"]:A9).Nodup from by symm))) (λ_ _ _ _=>z8) (λ_ _ _ _=>(vA hr (za (pq 1) (za (pq 2) (za (pq 0) zb)))))) zb)))  (zd (zj (zT (za (pq 2) (za (pq 3) (za (jA Qt wv (za (zt (pq 1) rfl) zb)) (za (pq 4) zb)))))))))),?_⟩;exists ra so.hy T.ad T.gQ rfl ?_;refine iE7 yw a.u dx fs _ _ _ (iA5 rfl hy (no _ (by symm) (by symm)) ((zbG T).mono) ?_);refine iE4 (.ref yw) bs rs p (iA7 rfl hv (by lia) (by lia) bo ro (λL ns H1 il im s1=>?_));have lp:=il.pos;have eL:=Wf ⟨ns,il,im⟩;left;rw[eL];clear il im lp eL;have so1:=so.same s1;have hv1:Rep H1 p (.ref yw) (qy a bs rs):=hv.keep λb o hb ho=>⟨hb,s1 _ _ ho⟩;have lc:n.acs.length=st.cells.length:=by rw[so.hc.len,qF,ae]
 have lcb:st.cells.length=bs.length:=wf.co.1;walk_at"d";exists ra so1.hy T.ad T.gL rfl ⟨n.lc,rfl,.inl ⟨⟨_,SqL.of so1.hc.out⟩,λ_ _ _ _ ph hacc=>?_⟩⟩;let pk:Nat->St->Hp->Prop:=λi σ H'=>∃(v0:Aq)(us:Ap),σ=[v0,some (.ref yw)]/\Same H1 H'/\H' ph=some (.lst us)/\us.length=i/\Reps H' (zZ H') us ((st.cells.take i).map λc=>.tup ((jJ rs c).map oiD));refine qb (K:=K) (a:=n.lc) (xs:=n.acs.map V.ref) pk (iE2 _ ([]) (iA5 rfl (zc hacc) pE rfl (.nil))) (λi σ H' _ h=>by let⟨_,_,_,s,_⟩:=h;exact SqL.of (s _ _ so1.hc.out)) ?_ ?_
 .intro i x σ H2 hi p9;refine oE2 p9 λv0 us p7=>oA5 p7 λp8 s2 ha lu ru=>?_;ext;rw[ai,am]at hi;let⟨cb,hcb,rfl⟩:=hi;have hil:i<st.cells.length:=by rw[<- lc];exact(aa.mp hcb).1
  let⟨c,ec⟩:∃c,st.cells[i]?=some c:=⟨_,af hil⟩;let⟨vs,hvs,rvs⟩:=so1.hc.g i cb _ hcb (show(qF st.cells)[i]?=some (c.map qB) by rw[qF,ai,ec];rfl);let⟨b,hb⟩:∃b,bs[i]?=some b:=⟨_,af (by rw[<- wf.co.1];exact hil)⟩;let⟨lc6,wk⟩:=wf.co.2 i b c hb ec;have bk:=(bo b (ah hb)).2.1;exists uc (zdc T).mono (iE8 (.ref yw) cb vs bs rs c p _ (iA8 rfl (hv1.keep (λb o hb ho=>⟨hb,s2 _ _ ho⟩)) (s2 _ _ hvs) (rvs.keep (λb o hb ho=>⟨hb,s2 _ _ ho⟩)) wk ro (by lia) (λt H3 s3 nt ht=>?_)));have nta:∀b,zZ H3 b->b≠ph:=λb ⟨xs,hx⟩ z=>by rw[z,s3 _ _ ha]at hx;cases hx
  refine⟨_,iA3 (s3 _ _ ha) (zm (by lia)) (iE2 _ (us++[.ref t]) (iA5 rfl (λb o hb=>by rw[pF (pG hb hacc)];exact s3 _ _ (s2 b o hb)) pE (by simp[lu]) ?_))⟩;rw[aO,ec,aZ];refine((WQ ru s3).append (.one (zcC ht))).keep λb o tb hb=>?_;have ne:=nta b tb;let⟨xs,hx⟩:=tb;exact⟨⟨xs,by rw[pF ne];exact hx⟩,by rw[pF ne];exact hb⟩
 intro σ H2 p9;refine oE2 p9 λv0 us p7=>oA5 p7 λp8 s2 ha lu ru=>?_;ext;rw[ae,lc,aG]at ru;refine iE2 ph _ ⟨rfl,.inl ⟨SqL.of ha,λt1 ht1=>?_⟩⟩;have s3:=zc (o:=.tup us) ht1;have ru3:=WQ ru s3;have hT1:upd H2 t1 (.tup us) t1=some (.tup us):=pE;have s13:=s2.trans s3;generalize upd H2 t1 (.tup us)=H3 at s3 ru3 hT1 s13 ⊢;have r1:Rep H3 (zZ H3) (.ref t1) (.tup ((st.cells.map (jJ rs)).map λr=>.tup (r.map oiD))):=by
  rw[d6];exact ru3.mkT ⟨_,hT1⟩ hT1
 clear ru ru3 ha hT1 s2 s3;have so3:=so1.same s13;have hv3:Rep H3 p (.ref yw) (qy a bs rs):=hv1.keep λb o hb ho=>⟨hb,s13 _ _ ho⟩;exists iE7 yw a.u dx fs _ _ _ (iA5 rfl (s13 _ _ (s1 _ _ hy)) (no _ (by symm) (by symm)) ((vE T).mono) ?_);refine iE4 (.ref yw) bs rs p (iA4 rfl hv3 (by lia) (λq H4 s4 nq hq=>?_));have ln:=qv .source rs rs.length;have so4:=so3.same s4;have hv4:Rep H4 p (.ref yw) (qy a bs rs):=hv3.keep λb o hb ho=>⟨hb,s4 _ _ ho⟩;refine⟨q,rfl,.inl ⟨⟨_,SqL.of hq⟩,λ_ _ _ _ ac2 hac2=>?_⟩⟩;let pw:Nat->St->Hp->Prop:=λi σ H'=>∃(v0:Aq),σ=[v0,some (.ref yw),some (.ref y)]/\Same H4 H'/\H' ac2=some (.lst ((((zp .source rs).take i).map λj=>some (jI rs st j)).map oiV));refine qb (K:=K) (a:=q) (xs:=iv (zp .source rs)) pw ⟨_,iA3 rfl (zc hac2) pE⟩ (λi σ H' _ h=>by let⟨_,_,s,_⟩:=h;exact SqL.of (s _ _ hq)) ?_ ?_
 .intro i x σ H5 hi p9;refine oE1 p9 λv0 p7=>oA3 p7 λp8 s5 ha=>?_;ext;let⟨m,hm,rfl⟩:=xz hi;have hil:=(aa.mp hm).1;refine oE2 (zfR (ah hm)) λjj r p7=>oA3 p7 λp8 hr' hs=>?_;clear p7;subst p8;have ln:(zp .source rs).length<=rs.length:=ln;exists uc (zaK T).mono (iE5 (.ref yw) y n jj bs (iE4 rs st r p (iA8 rfl (hv4.keep (λb o hb ho=>⟨hb,s5 _ _ ho⟩)) (so4.same s5) hr' hs (ro r (ah hr')) wf ?_)));refine⟨_,iA3 ha (zm (by rw[ae,ae,aE];lia)) ⟨_,iA3 rfl (λb o hb=>by rw[pF (pG hb hac2)];exact s5 b o hb) ?_⟩⟩;rw[pE,aO,hm];simp[oiV]
 intro σ H5 p9;refine oE1 p9 λv0 p7=>oA3 p7 λp8 s5 ha=>?_;ext;rw[zA,aG]at ha;refine iE2 ac2 _ ⟨rfl,.inl ⟨SqL.of ha,λt2 ht2=>?_⟩⟩;have s6:=zc (o:=.tup (((zp .source rs).map λj=>some (jI rs st j)).map oiV)) ht2;have hT2:upd H5 t2 (.tup (((zp .source rs).map λj=>some (jI rs st j)).map oiV)) t2=some (.tup (((zp .source rs).map λj=>some (jI rs st j)).map oiV)):=pE;have s36:=(s4.trans s5).trans s6;generalize upd H5 t2 (.tup (((zp .source rs).map λj=>some (jI rs st j)).map oiV))=H6 at s36 hT2 ⊢;have so6:=so3.same s36;exists ra so6.hy T.ad T.gX rfl (iE2 n.ls _ ⟨rfl,.inl ⟨SqL.of so6.hs,λt3 ht3=>?_⟩⟩);intro t4 ht4;have s7:=zc (o:=.tup (iv st.sides)) ht3;have hT3:upd H6 t3 (.tup (iv st.sides)) t3=some (.tup ((st.sides.map some).map oiV)):=by rw[pE,d6];rfl
 generalize upd H6 t3 (.tup (iv st.sides))=H7 at s7 hT3 ht4 ⊢;have s8:=zc (o:=.tup [.int (st.turn%xP bs rs),.ref t1,.ref t3,.ref t2]) ht4;have hT4:upd H7 t4 (.tup [.int (st.turn%xP bs rs),.ref t1,.ref t3,.ref t2]) t4=some (.tup [.int (st.turn%xP bs rs),.ref t1,.ref t3,.ref t2]):=pE;generalize upd H7 t4 (.tup [.int (st.turn%xP bs rs),.ref t1,.ref t3,.ref t2])=H8 at s8 hT4 ⊢;refine k t4 H8 ((s1.trans s13).trans (s36.trans (s7.trans s8))) ?_;exact Reps.mkT (vs:=[.int (st.turn%xP bs rs),.ref t1,.ref t3,.ref t2]) (.cons .int (.cons (JY r1 (s36.trans (s7.trans s8))) (.cons (JY (zcC hT3) s8) (.cons (JY (zcC hT2) (s7.trans s8)) .nil)))) ⟨_,hT4⟩ hT4
noncomputable abbrev qC(bs:A1)(rs:At)(i:Nat):ShK:=Xd bs rs (qm bs rs i)
structure RoundAt(bs:A1)(rs:At)(lim i j:Nat):Prop where
 lt:i<j
 le:j<=lim
 eq:qC bs rs i=qC bs rs j
 fst:∀x y,x<y->y<j->qC bs rs x≠qC bs rs y
def ji(bs:A1)(rs:At)(lim:Nat):Prop:=∀x y,x<y->y<=lim->qC bs rs x≠qC bs rs y
def RoundAt.one{rs:At}{lim lim' i j i' j':Nat}(h:RoundAt bs rs lim i j)(h':RoundAt bs rs lim' i' j'):i=i'/\j=j':=by
 have ej:j=j':=by
  rcases ee j j' with z|z|z
  .exact absurd h.eq (h'.fst i j h.lt z)
  .exact z
  .exact absurd h'.eq (h.fst i' j' h'.lt z)
 subst ej;refine⟨?_,rfl⟩;rcases ee i i' with z|z|z
 .exact absurd (h.eq.trans h'.eq.symm) (h.fst i i' z h'.lt)
 .exact z
 .exact absurd (h'.eq.trans h.eq.symm) (h.fst i' i z h.lt)
def RoundAt.no{rs:At}{lim i j:Nat}(h:RoundAt bs rs lim i j):¬ji bs rs lim:=λz=>z i j h.lt h.le h.eq
def Nxt(H H':Hp):Prop:=∀b u,H b=some u->(∀φ,u≠.ext φ)->H' b=some u
def Same.nxt{H H':Hp}(s:Same H H'):Nxt H H':=λb u hb _=>s b u hb
def Nxt.trans{H H' H2:Hp}(a:Nxt H H')(b:Nxt H' H2):Nxt H H2:=λc u hc n=>b c u (a c u hc n) n
def zhg{D:Addr}{φ:Heap->Prop}(h:H D=some (.ext φ)):Nxt H (upd H D o):=λb u hb n=>by
 rw[pF (λz=>by rw[z,h]at hb;cases hb;exact n φ rfl)];exact hb
def zfU{H H':Hp}{G:Addr}{xss:List (List D)}(h:NL H (zZ H) G as xss)(s:Nxt H H'):NL H' (zZ H') G as xss:=by
 refine h.tup λb o c hb=>s b o hb λφ z=>?_;subst z;rcases c with c|c|⟨xs,c⟩
 .rw[c,h.out]at hb;cases hb
 .obtain⟨vs,hv⟩:=h.isl (aF _ c);rw[hv]at hb;cases hb
 .rw[c]at hb;cases hb
def StO.nxt{H H':Hp}{y:Addr}{n:SN}{st:PSt}(h:StO a H y n st)(s:Nxt H H'):StO a H' y n st:=⟨s _ _ h.hy (λφ z=>by cases z),zfU h.hc s,s _ _ h.hs (λφ z=>by cases z),zfU h.hg s,h.nd⟩
def zgL{H H':Hp}{d:D}(r:Rep H (zZ H) v d)(s:Nxt H H'):Rep H' (zZ H') v d:=r.keep λb o ⟨xs,hx⟩ hb=>by
 have e:=s b _ hx (λφ z=>by cases z);rw[hx]at hb;cases hb;exact⟨⟨xs,e⟩,e⟩
structure SD(a:Ad)(H:Hp)(bs:A1)(rs:At)(xs:List (ShK×Addr×Addr))(t:Nat):Prop where
 len:xs.length=t
 at':∀(i:Nat) x,xs[i]?=some x->x.1=qC bs rs i/\Rep H (zZ H) (.ref x.2.1) (shD x.1)/\∃n,StO a H x.2.2 n (qm bs rs i)
 fst:∀x y,x<y->y<t->qC bs rs x≠qC bs rs y
def SD.nxt{H H':Hp}{rs:At}{xs:List (ShK×Addr×Addr)}{t:Nat}(h:SD a H bs rs xs t)(s:Nxt H H'):SD a H' bs rs xs t:=⟨h.len,λi x e=>by
 let⟨e1,r,n,so⟩:=h.at' i x e;exact⟨e1,zgL r s,n,so.nxt s⟩,h.fst⟩
def SD.keys{rs:At}{xs:List (ShK×Addr×Addr)}{t:Nat}(h:SD a H bs rs xs t):keysOk H xs:=λx hx=>by
 let⟨i,hi⟩:=bF hx;exact⟨_,(h.at' i x hi).2.1⟩
def SD.look{rs:At}{xs:List (ShK×Addr×Addr)}{t:Nat}{k:ShK}{y:Addr}(h:SD a H bs rs xs t)(e:xK xs k=some y):∃i n,i<t/\qC bs rs i=k/\StO a H y n (qm bs rs i):=by
 unfold xK at e;let⟨x,hx,rfl⟩:=am.mp e;have hk:x.1=k:=by
  have:=List.find?_some hx;simpa using this
 let⟨i,hi⟩:=bF (List.mem_of_find?_eq_some hx);let⟨e1,_,n,so⟩:=h.at' i x hi;exact⟨i,n,by rw[<- h.len];exact(aa.mp hi).1,e1.symm.trans hk,so⟩
def SD.new{rs:At}{xs:List (ShK×Addr×Addr)}{t:Nat}{k:ShK}(h:SD a H bs rs xs t)(e:xK xs k=none):∀i,i<t->qC bs rs i≠k:=λi hi z=>by
 let⟨x,hx⟩:∃x,xs[i]?=some x:=⟨_,af (by rw[h.len];exact hi)⟩;unfold xK at e;rw[Option.map_eq_none_iff,List.find?_eq_none]at e;exact e x (ah hx) (bh ((h.at' i x hx).1.trans z))
def SD.add{rs:At}{xs:List (ShK×Addr×Addr)}{t:Nat}{b y:Addr}{n:SN}(h:SD a H bs rs xs t)(e:xK xs (qC bs rs t)=none)(r:Rep H (zZ H) (.ref b) (shD (qC bs rs t)))(so:StO a H y n (qm bs rs t)):SD a H bs rs (xs++[(qC bs rs t,b,y)]) (t+1):=by
 refine⟨by simp[h.len],λi x hx=>?_,λu v huv hv=>?_⟩
 .by_cases hi:i<xs.length
  .rw[aS hi]at hx;exact h.at' i x hx
  .rw[aM (by lia)]at hx;have hz:=(aa.mp hx).1;have:i=t:=by simp at hz;have:=h.len;lia
   subst this;rw[h.len,Nat.sub_self]at hx;cases hx;exact⟨rfl,r,n,so⟩
 .rcases Nat.lt_or_ge v t with z|z
  .exact h.fst u v huv z
  .have:v=t:=by lia
   subst this;exact h.new e u huv
def za2(a:Ad):Sp:=λvs H Q E=>∃(vw:V)(lim:Nat)(bs:A1)(rs:At),vs=[vw,.int lim]/\Rep H (Off []) vw (qy a bs rs)/\zV bs rs/\(∀b∈bs,zH b.1 b.2)/\(∀r∈rs,r.ok)/\lim<=1000 /\
 (∀i j t y0 y1 n0 n1 H',RoundAt bs rs lim i j->Same H H'->H' t=some (.tup [.ref y0,.ref y1])->StO a H' y0 n0 (qm bs rs i)->StO a H' y1 n1 (qm bs rs j)->Q (.ref t) H') /\
 (ji bs rs lim->∀H',Same H H'->E (.ref a.h) none H')
theorem zaI(T:Txt K mg a):Cal P w K mg base "round_ends" 8 ["work","limit"] [] (za2 a):=T.mE.cal λF=>by
 refine F.okx Wn ?_ ?_
 .walk_at"i"
 walk_at"j";refine oE4 h λvw lim bs rs p7=>oA8 p7 λp8 hv wok bo ro l1000 kQ kE=>?_;clear p7 h;subst p8;have b24:=wok.1.1.2;have r24:=wok.1.2.2;walk_at"T";refine⟨_,(zh (zr 2 Wn.nd ‹(pq 0) zb›)  (zh (zr 3 Wn.nd zg8)  (zI (z6 qj rfl (xt (za (zo zM (pq 1) ze) zb)) (zX 4 Wn.nd)  (zh (zr 5 Wn.nd ‹(pq 0) (za (pq 2) zb)›)  (zh (zy (ziu (ziB hr.units1 (pq 5) (pq 3)) (by with_unfolding_all rfl))  (zd (zj (zT (za (zg9 hr.units1 (pq 3) (pq 5) (λ_ _=>rfl)) (za (pq 2) zb)))))  zl)  (zh (zg6 hr.units1 (pq 3) (pq 5) (pq 2) rfl)  (zd (zr 2 Wn.nd ‹(pq 0) (za (pq 2) zb)›))))))  (zd (qA ⟨rfl,rfl,rfl⟩ rfl (za z9 zb)))))),?_⟩;exists uc (WL T).mono (iE4 vw bs rs _ (iA7 rfl hv b24 r24 bo ro (λv' H1 s1 sn=>?_)));refine oE2 sn λy nn p7=>oA5 p7 λp8 so _ _ _=>?_;clear p7 sn;subst p8;left;intro D hD;have sD:=zc (o:=sdO P w D []) hD;have nD:H D=none:=zK s1 hD;have s2:=s1.trans sD;have so2:=so.same sD;have hD2:upd H1 D (sdO P w D []) D=some (sdO P w D []):=pE;generalize upd H1 D (sdO P w D [])=H2 at s2 so2 hD2 ⊢;clear so s1 sD hD;left;let pk:St->Hp->Prop:=λσ' H'=>∃(v2 v4 v5:Aq),σ'=[some vw,some (.int lim),v2,some (.ref D),v4,v5]/\Same H H'/\ji bs rs lim;refine cut pk ?_ ?_
 .walk_at"c";exists⟨by lia,by lia,?_⟩;refine vK (n:=((lim:Int)+1).toNat) (λt σ H'=>∃(v4 v5:Aq)(y:Addr)(n:SN)(xs:List (ShK×Addr×Addr)),σ=[some vw,some (.int lim),some (.ref y),some (.ref D),v4,v5]/\Same H H'/\H' D=some (sdO P w D xs)/\StO a H' y n (qm bs rs t)/\SD a H' bs rs xs t) (iE5 _ _ y nn ([]) (iA5 rfl s2 hD2 so2 ⟨rfl,λi x e=>by simp at e,λx y _ z=>absurd z (Nat.not_lt_zero _)⟩)) ?_ ?_
  .clear so2 hD2 s2;intro t σ H3 ht p9;refine oE5 p9 λv4 v5 y n xs p7=>oA5 p7 λp8 s3 hD3 so3 sd3=>?_;ext;have ht':t<=lim:=by lia
   have lx:=sd3.len;exists uc (zda T).mono (iE7 vw y n bs rs (qm bs rs t) _ (iA9 rfl (hv.same s3) so3 (qT wok bo ro t) b24 r24 bo ro (λb H4 s4 r4=>?_)));have hD4:=s4 _ _ hD3;have so4:=so3.same s4;have sd4:=sd3.nxt (Same.nxt s4);have s04:=s3.trans s4;clear hD3 so3 sd3 s3 s4;exists iE5 D b xs _ _ (iA6 rfl rfl hD4 sd4.keys r4 ?_);cases el:xK xs (qC bs rs t)with
   |some y0 =>
    refine oE2 (sd4.look el) λi n0 p7=>oA3 p7 λhi ei so0=>?_;clear p7;exists iE6 D b xs _ _ y0 (iA7 rfl rfl hD4 sd4.keys r4 el (λq hq=>?_));have sq:=zc (o:=.tup [.ref y0,.ref y]) hq;exact kQ i t q y0 y n0 n _ ⟨hi,ht',ei,sd4.fst⟩ (s04.trans sq) pE (so0.same sq) (so4.same sq)
   |none =>
    exists iE6 D b xs _ _ y (iA9 rfl rfl rfl hD4 sd4.keys r4 el (zm (by lia)) ?_);have nx:Nxt H4 (upd H4 D (sdO P w D (xs++[(qC bs rs t,b,y)]))):=zhg hD4;have so5:=so4.nxt nx;have sd5:=(sd4.add el r4 so4).nxt nx;have hD5:upd H4 D (sdO P w D (xs++[(qC bs rs t,b,y)])) D=some (sdO P w D (xs++[(qC bs rs t,b,y)])):=pE;have s5:Same H (upd H4 D (sdO P w D (xs++[(qC bs rs t,b,y)]))):=λc u hc=>by rw[pF (pG hc nD)];exact s04 c u hc
    generalize upd H4 D (sdO P w D (xs++[(qC bs rs t,b,y)]))=H5 at so5 sd5 hD5 s5 ⊢;exists uc (zdb T).mono (iE6 vw (.ref y) (qm bs rs t) bs rs _ (iA8 rfl (hv.same s5) so5.rep (qT wok bo ro t) wok bo ro (λv' H6 s6 sn=>?_)));refine oE2 sn λy2 n2 p7=>oA3 p7 λp8 so6 _=>?_;clear p7 sn;subst p8;exact iE5 _ _ y2 n2 _ (iA5 rfl (s5.trans s6) (s6 _ _ hD5) so6 (sd5.nxt (Same.nxt s6)))
  .intro σ H3 p9;refine oE5 p9 λv4 v5 y n xs p7=>oA5 p7 λp8 s3 hD3 so3 sd3=>?_;ext;exact iE3 _ _ _ (iA3 rfl s3 (λx y hxy hy=>sd3.fst x y hxy (by lia)))
 intro σ' H3 p9;refine oE3 p9 λv2 v4 v5 p7=>oA3 p7 λp8 s3 nr=>?_;ext;left;exact⟨a.h,iA3 T.ko T.oF (kE nr H3 s3)⟩
noncomputable def wn(old new:A7):List Int:=(List.range old.length).map λp=>new.getD p 0-old.getD p 0
noncomputable def xA(gs0 gs1:List A7):List A7:=List.zipWith wn gs0 gs1
def zeJ{gs0 gs1:List A7}{g0 g1:A7}(h0:gs0[i]?=some g0)(h1:gs1[i]?=some g1):xA (gs0.take (i+1)) (gs1.take (i+1))=xA (gs0.take i) (gs1.take i)++[wn g0 g1]:=by
 unfold xA;rw[aO,aO,h0,h1];have l0:=(aa.mp h0).1;have l1:=(aa.mp h1).1;rw[List.zipWith_append (by rw[aE,aE];lia)]
 rfl
def zfg(a:Ad):Sp:=λvs H Q _=>∃(y0 y1:Addr)(n0 n1:SN)(s0 s1:PSt),vs=[.ref y0,.ref y1]/\StO a H y0 n0 s0/\StO a H y1 n1 s1/\s0.gone.length=s1.gone.length/\s0.gone.length<=24/\(∀(i:Nat) g0 g1,s0.gone[i]?=some g0->s1.gone[i]?=some g1->g0.length=g1.length/\g0.length<=4) /\
 ∀l as H',Same H H'->NL H' (zZ H') l as (qJ (xA s0.gone s1.gone))->(∀b∈l::as,H b=none)->Q (.ref l) H'
def zb4(T:Txt K mg a):Cal P w K mg base "growth_of" 1 ["before","after"] [] (zfg a):=T.mZ.cal λF=>by
 refine F.okx VX ?_ ?_
 .walk_at"i"
 walk_at"j";refine oE6 h λy0 y1 n0 n1 s0 s1 p7=>oA7 p7 λp8 so0 so1 le l24 lg k=>?_;clear p7 h;subst p8;have la0:n0.ags.length=s0.gone.length:=by rw[so0.hg.len,qJ,ae]
 have la1:n1.ags.length=s0.gone.length:=by rw[so1.hg.len,qJ,ae,le]
 walk_at"T";refine⟨_,(zg (zr 2 VX.nd (zn zb))  (zg (z6 qj rfl (zah (za (zt (pq 0) rfl) (za (zt (pq 1) rfl) zb))) (j8 (n:=2) rfl (zR (Z8 (i:=3) VX.nd rfl (Or.inr rfl)) (zR (Z8 (i:=4) VX.nd rfl (Or.inr rfl)) jn)))  (zd (zw (qH ap aA az zS (pq 2) (za (jk (vars:=["place"]) (caps:=[4,3]) (N:=["place","new","old"]) (ON:=["before","after","growth","old","new"]) (osc:=zf vd) rfl rfl (by right) rfl rfl (xt (za (zE zC zB (za (pq 3) zb)) zb)) (λ_ _ _ _=>(zX 0 (show(["place","new","old"]:A9).Nodup from by symm))) (λ_ _ _ _=>z8) (λ_ _ _ _=>(zo j9 (zq (pq 1) (pq 0)) (zq (pq 2) (pq 0))))) zb)))))  (zd (zj (pq 2))))),?_⟩;left;intro l hl;have sl:=zc (o:=.lst []) hl;have nl0:NL (upd H l (.lst [])) (zZ (upd H l (.lst []))) l [] (qJ (xA (s0.gone.take 0) (s1.gone.take 0))):=zaq pE;generalize upd H l (.lst [])=H1 at sl nl0 ⊢;have so10:=so0.same sl;have so11:=so1.same sl;walk_at"c";exists ra so10.hy T.ad T.gS rfl (ra so11.hy T.ad T.gS rfl (iE6 true true n0.lg n1.lg _ _ (iA4 rfl (SqL.of so10.hg.out) (SqL.of so11.hg.out) ?_)));let pk:Nat->St->Hp->Prop:=λi σ H'=>∃(v3 v4:Aq)(as:Ac),σ=[some (.ref y0),some (.ref y1),some (.ref l),v3,v4]/\Same H H'/\NL H' (zZ H') l as (qJ (xA (s0.gone.take i) (s1.gone.take i)))/\∀b∈as,H b=none;refine zdJ (K:=K) (xs:=n0.ags.map V.ref) (ys:=n1.ags.map V.ref) pk (iE3 _ _ ([]) (iA4 rfl sl nl0 (by simp))) (λi σ H' _ h=>by let⟨_,_,_,_,s,_⟩:=h;exact⟨SqL.of (s _ _ so0.hg.out),SqL.of (s _ _ so1.hg.out)⟩) ?_ ?_
 .intro i x z t σ H2 hi hj ht p9;refine oE3 p9 λv3 v4 as p7=>oA4 p7 λp8 s2 nl2 fa=>?_;ext;rw[ai,am]at hi hj;let⟨b0,hb0,rfl⟩:=hi;let⟨b1,hb1,rfl⟩:=hj;have hil:i<s0.gone.length:=by rw[<- la0];exact(aa.mp hb0).1
  let⟨g0,e0⟩:∃g,s0.gone[i]?=some g:=⟨_,af hil⟩;let⟨g1,e1⟩:∃g,s1.gone[i]?=some g:=⟨_,af (by rw[<- le];exact hil)⟩;let⟨lg1,lg4⟩:=lg i g0 g1 e0 e1;let⟨c0,q0,h0⟩:=zaA so0.hg e0;let⟨c1,q1,h1⟩:=zaA so1.hg e1;rw[hb0]at q0;cases q0;rw[hb1]at q1;cases q1;have st:=zc (o:=.tup [.ref b0,.ref b1]) ht;have s3:=s2.trans st;have nl3:=nl2.tup (H':=upd H2 t (.tup [.ref b0,.ref b1])) λb o _ hb=>st b o hb;refine un2 pE ?_;generalize upd H2 t (.tup [.ref b0,.ref b1])=H3 at s3 nl3 ⊢;have las:as.length<=24:=by rw[nl3.len,qJ,ae,xA,fM,aE,aE];lia
  exists⟨.inl ⟨rfl,_,SqL.of nl3.out⟩,?_⟩;walk_at"d";exists⟨_,.inl ⟨_,SqL.of (s3 _ _ h0),rfl⟩,?_⟩;rw[zA];exists⟨by lia,by lia,λ_ _ _ _ ph hacc=>?_⟩;let pw:Nat->St->Hp->Prop:=λj σ H'=>∃(v0:Aq),σ=[v0,some (.ref b1),some (.ref b0)]/\Same H3 H'/\H' ph=some (.lst (iv ((List.range j).map λp=>g1.getD p 0-g0.getD p 0)));refine vK (n:=((g0.length:Int)).toNat) pw ⟨_,iA3 rfl (zc hacc) pE⟩ ?_ ?_
  .intro j σ H4 hj p9;refine oE1 p9 λv0 p7=>oA3 p7 λp8 s4 ha=>?_;ext;have hjl:j<g0.length:=by lia
   left;simp only[bW];refine zu (SqL.of (s4 _ _ (s3 _ _ h1))) (zJ (xa (jC (d:=0) (by lia:j<g1.length)))) (zu (SqL.of (s4 _ _ (s3 _ _ h0))) (zJ (xa (jC (d:=0) hjl))) ?_);exists⟨_,iA3 ha (zm (by rw[zA,ae,length_range];lia)) ⟨_,iA3 rfl (λb o hb=>by rw[pF (pG hb hacc)];exact s4 b o hb) ?_⟩⟩;rw[pE,qX,eI,aZ]
   rfl
  intro σ H4 p9;refine oE1 p9 λv0 p7=>oA3 p7 λp8 s4 ha=>?_;ext;rw[show((g0.length:Int)).toNat=g0.length by lia]at ha;have nl4:=nl3.tup (H':=H4) λb o _ hb=>s4 b o hb;have nb:ph∉as:=λz=>by
   let⟨vs,h⟩:=nl3.isl (aF _ z);rw[hacc]at h;cases h
  have nG:ph≠l:=λz=>by rw[z,nl3.out]at hacc;cases hacc
  have ntG:¬zZ H4 l:=λ⟨xs,hx⟩=>by rw[nl4.out]at hx;cases hx
  refine iE3 l _ _ (iA5 rfl rfl nl4.out (zm (by rw[ae];lia)) ?_);have np:=nl4.push (b:=ph) (vs:=iv (wn g0 g1)) (ys:=(wn g0 g1).map D.int) ha nb nG ntG reps_ints;refine iE3 _ _ (as++[ph]) (iA4 rfl (λb o hb=>by rw[pF (pG hb hl)];exact s4 _ _ (s3 _ _ hb)) ?_ (λb hb=>?_))
  .rw[zeJ e0 e1,show qJ (xA (s0.gone.take i) (s1.gone.take i)++[wn g0 g1])=qJ (xA (s0.gone.take i) (s1.gone.take i))++[(wn g0 g1).map D.int] by simp[qJ]];refine np.keep (λ_ _ _ hc=>hc) λc hc _=>?_;let⟨xs,hx⟩:=hc;exact⟨xs,by rw[pF (λz=>by rw[z,nl4.out]at hx;cases hx)];exact hx⟩
  .rcases ax.mp hb with hb|hb
   .exact fa b hb
   .rw[ak.mp hb];exact zK s3 hacc
 .intro σ H2 p9;refine oE3 p9 λv3 v4 as p7=>oA4 p7 λp8 s2 nl2 fa=>?_;ext;rw[ae,ae,la0,la1,fD,aG,show List.take s0.gone.length s1.gone=s1.gone by rw[le];exact aG]at nl2;exists k l as _ s2 nl2 λb hb=>?_;rcases aC.mp hb with rfl|hb
  .exact hl
  .exact fa b hb
def zaY{st:PSt}{fb:Aa}:(ja st k fb).2.turn=st.turn/\(ja st k fb).2.sides=st.sides/\(ja st k fb).2.gone=st.gone:=by
 cases fb<;>exact⟨rfl,rfl,rfl⟩
def zbv{st:PSt}{x:qp}{tb:Aa}:(QR st x tb).turn=st.turn/\(QR st x tb).sides=st.sides/\(QR st x tb).gone=st.gone:=by
 cases tb<;>exact⟨rfl,rfl,rfl⟩
def vC{r:Row}{st:PSt}{ch:Ak}:(movedF r st k ch).turn=st.turn/\(movedF r st k ch).sides=st.sides/\(movedF r st k ch).gone=st.gone:=by
 let⟨a1,a2,a3⟩:=zaY (st:=st) (k:=k) (fb:=xl r ch);let⟨b1,b2,b3⟩:=zbv (st:=(ja st k (xl r ch)).2) (x:=(ja st k (xl r ch)).1) (tb:=Qx r ch);exact⟨b1.trans a1,b2.trans a2,b3.trans a3⟩
def jt{α:Type}{xs:List α}{k j:Nat}{x d:α}(h:k≠j):(xs.set k x).getD j d=xs.getD j d:=by
 rw[ay,ay,aW h]
def zeV(rs:At)(st:PSt)(k:Nat):(jF rs st k).1.turn=st.turn/\∀j,k<j->(jF rs st k).1.sides.getD j 0=st.sides.getD j 0/\(jF rs st k).1.gone.getD j []=st.gone.getD j []:=by
 unfold jF;cases rs[k]? with
 |none=>exact⟨rfl,λ_ _=>⟨rfl,rfl⟩⟩
 |some r =>
  simp only;cases qu r (qM rs st.cells r) (jD st.cells r) st.turn (st.sides.getD k 0).toNat with
  |none=>exact⟨rfl,λ_ _=>⟨rfl,rfl⟩⟩
  |some ch =>
   let⟨c1,c2,c3⟩:=vC (r:=r) (st:=st) (k:=k) (ch:=ch);refine⟨c1,λj hj=>⟨?_,?_⟩⟩
   .show((movedF r st k ch).sides.set k _).getD j 0=_
    rw[jt (by lia),c2]
   .show((movedF r st k ch).gone.set k _).getD j []=_
    rw[jt (by lia),c3]
theorem Jn(rs:At)(st:PSt):∀i,(zQ rs st i).1.turn=st.turn/\∀j,i<=j->(zQ rs st i).1.sides.getD j 0=st.sides.getD j 0/\(zQ rs st i).1.gone.getD j []=st.gone.getD j []
 |0=>⟨rfl,λ_ _=>⟨rfl,rfl⟩⟩
 |i+1=>by
  let⟨h1,h2⟩:=Jn rs st i;let⟨g1,g2⟩:=zeV rs (zQ rs st i).1 i;refine⟨g1.trans h1,λj hj=>?_⟩;let⟨a1,a2⟩:=h2 j (by lia);let⟨b1,b2⟩:=g2 j (by lia);exact⟨b1.trans a1,b2.trans a2⟩
theorem QQ(bs:A1)(rs:At):∀n,(qm bs rs n).turn=n
 |0=>rfl
 |n+1=>by
  show(zQ rs (qm bs rs n) rs.length).1.turn+1=_
  rw[(Jn rs (qm bs rs n) rs.length).1,QQ bs rs n]
  rfl
def zhB(g:A7)(j p:Nat):g.getD p 0<=(JJ g j).getD p 0:=by
 unfold JJ;by_cases e:j=p
 .subst e;by_cases h:j<g.length
  .rw[ay (l:=g.set _ _),aN h];show _<=g.getD j 0+1
   lia
  .rw[cy (by lia)];exact bX _
 .rw[jt e];exact bX _
def zgF(rs:At)(st:PSt)(k i p:Nat):(st.gone.getD i []).getD p 0<=((jF rs st k).1.gone.getD i []).getD p 0:=by
 unfold jF;cases rs[k]? with
 |none=>exact bX _
 |some r =>
  simp only;cases qu r (qM rs st.cells r) (jD st.cells r) st.turn (st.sides.getD k 0).toNat with
  |none=>exact bX _
  |some ch =>
   let⟨c1,c2,c3⟩:=vC (r:=r) (st:=st) (k:=k) (ch:=ch);show _<=(((movedF r st k ch).gone.set k _).getD i []).getD p 0
   rw[c3];by_cases e:k=i
   .subst e;by_cases h:k<st.gone.length
    .rw[ay (l:=st.gone.set _ _),aN h];exact zhB _ _ _
    .rw[cy (by lia)];exact bX _
   .rw[jt e];exact bX _
theorem VI(rs:At)(st:PSt)(i p:Nat):∀m,(st.gone.getD i []).getD p 0<=((zQ rs st m).1.gone.getD i []).getD p 0
 |0=>bX _
 |m+1=>Int.le_trans (VI rs st i p m) (zgF rs _ m i p)
theorem Vg(bs:A1)(rs:At)(n i p:Nat):∀m,((qm bs rs n).gone.getD i []).getD p 0<=((qm bs rs (n+m)).gone.getD i []).getD p 0
 |0=>bX _
 |m+1=>Int.le_trans (Vg bs rs n i p m) (VI rs (qm bs rs (n+m)) i p rs.length)
noncomputable def jS(bs:A1)(rs:At)(i j:Nat):List A7:=xA (qm bs rs i).gone (qm bs rs j).gone
def Vv{rs:At}{s0 s1:PSt}(ro:∀r∈rs,r.ok)(w0:stWf bs rs s0)(w1:stWf bs rs s1):s0.gone.length=s1.gone.length/\∀(i:Nat) g0 g1,s0.gone[i]?=some g0->s1.gone[i]?=some g1->g0.length=g1.length/\g0.length<=4:=by
 refine⟨by rw[w0.go.1,w1.go.1],λi g0 g1 e0 e1=>?_⟩;have hi:=(aa.mp e0).1;let⟨r,hr⟩:∃r,rs[i]?=some r:=⟨_,af (by rw[<- w0.go.1];exact hi)⟩;have q0:=(w0.go.2 i r g0 hr e0).1;have q1:=(w1.go.2 i r g1 hr e1).1;have rl:=vx (ro r (ah hr));refine⟨by lia,?_⟩;rw[q0];have:=bx (n:=max r.ins.length r.outs.length) (a:=(0:Int));show(qW r).length<=4
 unfold qW;rw[bx]
 lia
theorem zdq{rs:At}{i j:Nat}(ro:∀r∈rs,r.ok)(wok:zV bs rs)(bo:∀b∈bs,zH b.1 b.2)(h:i<=j):∀g∈jS bs rs i j,g.length<=4/\∀n∈g,0<=n:=λg hg=>by
 let⟨q,hq⟩:=bF hg;unfold jS xA at hq;rw[eU]at hq;let⟨le,lg⟩:=Vv ro (qT wok bo ro i) (qT wok bo ro j);cases e0:(qm bs rs i).gone[q]? with
 |none=>rw[e0]at hq;simp at hq
 |some g0 =>
  cases e1:(qm bs rs j).gone[q]? with
  |none=>rw[e0,e1]at hq;simp at hq
  |some g1 =>
   rw[e0,e1]at hq;have hq:wn g0 g1=g:=by simpa using hq
   subst hq;let⟨l1,l2⟩:=lg q g0 g1 e0 e1;refine⟨by unfold wn;rw[ae,length_range];exact l2,λn hn=>?_⟩;unfold wn at hn;let⟨p,_,rfl⟩:=bb.mp hn;have:=Vg bs rs i q p (j-i);rw[show i+(j-i)=j by lia,ay (l:=(qm bs rs i).gone),ay (l:=(qm bs rs j).gone),e0,e1]at this;simp only[bH]at this
   lia
def ze7(a:Ad)(R:List (Int×Int)->List Row->Nat->Nat->Hp->V->Hp->Prop):Sp:=λvs H Q E=>∃(vw:V)(lim:Nat)(bs:A1)(rs:At),vs=[vw,.int lim]/\Rep H (Off []) vw (qy a bs rs)/\zV bs rs/\(∀b∈bs,zH b.1 b.2)/\(∀r∈rs,r.ok)/\lim<=1000 /\
 (∀i j v H',RoundAt bs rs lim i j->Same H H'->R bs rs i j H v H'->Q v H')/\(ji bs rs lim->∀H',Same H H'->E (.ref a.h) none H')
def zdl(CN:Addr):Sp:=λvs H Q E=>∃t b:Int,vs=[.int t,.int b]/\b.natAbs<2^8000/\if b=0 then E (.ref CN) none H else ∀p,H p=none->Q (.ref p) (upd H p (.tup [.int (xV t b),.int (xW t b)]))
def zfO{CN:Addr}(iH:mg "NoRatio"=some (.ref CN))(xN:XC K CN)(kC:mg "abs"=none)(cC:Cal P w K mg base "common" 1 ["one","other"] [] Xa)(F:Fun K "ratio" "ratio" zaa f fd):FnOk P w K mg base (CXr P w) 2 f fd ["top","bottom"] (zdl CN):=by
 refine F.okx zfn ?_ ?_
 .walk_at"i"
 walk_at"k";refine oE2 h λt b p7=>oA3 p7 λp8 hb8 k=>?_;clear p7 h;subst p8;refine⟨_,(zg (zy (zi (qd hr.units1) (pq 1) ze (zk _))  (zd (qA ⟨rfl,rfl,rfl⟩ rfl (za z9 zb)))  zl)  (zg (zr 2 zfn.nd ‹(zE zgA zgz (za (pq 0) zb)) (za (zE zgA zgz (za (pq 1) zb)) zb)›)  (zg (zy (zi Vj (pq 1) ze (zk _))  (zd (zr 2 zfn.nd (Jd wZ (pq 2))))  zl)  (zd (zj (zT (za (zo xJ (pq 0) (pq 2)) (za (zo xJ (pq 1) (pq 2)) zb)))))))),?_⟩;exists zF (λhb=>?_) (λhb=>?_)
 .rw[aq hb]at k;exact⟨CN,iA3 iH xN k⟩
 .rw[ao hb]at k;refine iE3 _ _ _ (iA4 cC kC kC ⟨_,_,rfl,by split<;>lia,by split<;>lia,?_⟩);rw[zhI];have hp:=zha (top:=t) hb;have h89:(QS t b).natAbs<2^8999:=c7 hp.2 (eB hb8 (fT (by decide) (by decide)));have hf:∀i,CFd i (QS t b):=λi=>ziV hp.1 h89;walk_at"r";by_cases hs:b<0
  .rw[aq hs];have e:-(Int.gcd t b:Int)=QS t b:=by unfold QS;rw[aq hs]
   rw[e];exact⟨hf _,hf _,k⟩
  .rw[ao hs];have e:(Int.gcd t b:Int)=QS t b:=by unfold QS;rw[ao hs]
   rw[e];exact⟨hf _,hf _,k⟩
def zhz(T:Txt K mg a):Cal P w K mg base "ratio" 2 ["top","bottom"] [] (zdl a.c):=T.oX.cal (zfO T.iH T.oE T.kC (zb5 T))
def Jp(L:Int)(g:A7):List D:=g.map λn=>.tup [.int (xV n L),.int (xW n L)]
def zji(bs:A1)(rs:At)(i j:Nat)(H:Hp)(v:V)(H':Hp):Prop:=∃l as,v=.ref l/\NL H' (zZ H') l as ((jS bs rs i j).map (Jp ((j:Int)-i)))/\∀b∈l::as,H b=none
def zaj(T:Txt K mg a)(F:FunD K "shares_of" "shares_of" xE f fd):FnOk P w K mg base (CXr P w) 9 f fd ["work","limit"] (ze7 a zji):=by
 refine F.okx VT ?_ ?_
 .walk_at"i"
 walk_at"j";refine oE4 h λvw lim bs rs p7=>oA8 p7 λp8 hv wok bo ro l1000 kQ kE=>?_;clear p7 h;subst p8;walk_at"T";refine⟨_,(zg (zr 2 VT.nd ‹(pq 0) (za (pq 1) zb)›)  (zg (QP (i:=3) VT.nd rfl (Or.inr rfl) (zo j9 (zt (zq (pq 2) ze) rfl) (zt (zq (pq 2) ze) rfl)))  (zg (zr 4 VT.nd (zn zb))  (zg (z6 qj rfl (zN ‹(zq (pq 2) ze) (za (zq (pq 2) ze) zb)›) (zX 5 VT.nd)  (zd (zw (qH ap aA az zS (pq 4) (za (jk (vars:=["count"]) (caps:=[3]) (N:=["count","length"]) (ON:=["work","limit","ends","length","shares","counts"]) (osc:=zf xE) rfl rfl (by right) rfl rfl (zN (pq 5)) (λ_ _ _ _=>(zX 0 (show(["count","length"]:A9).Nodup from by symm))) (λ_ _ _ _=>z8) (λ_ _ _ _=>(vA hr (za (pq 0) (za (pq 1) zb))))) zb)))))  (zd (zj (pq 4))))))),?_⟩;exists uc (zaI T).mono (iE4 vw lim bs rs (iA8 rfl hv wok bo ro l1000 (λi j t y0 y1 n0 n1 H1 rnd s1 ht so0 so1=>?_) kE));let⟨le,lg⟩:=Vv ro (qT wok bo ro i) (qT wok bo ro j);have l24:(qm bs rs i).gone.length<=24:=by rw[(qT wok bo ro i).go.1];exact wok.1.2.2
 have rp:=zdq ro wok bo (bV rnd.lt);have rl:(jS bs rs i j).length<=24:=by
  unfold jS xA;rw[fM]
  lia
 have hij:=rnd.lt;have hj:=rnd.le;exists pI ht (show atI _ 1=some (.ref y1)from rfl) (ra so1.hy T.ad T.gQ rfl ?_);refine pI ht at0 (ra so0.hy T.ad T.gQ rfl ?_);left;rw[QQ,QQ];intro l hl;have sl:=zc (o:=.lst []) hl;have nl0:H l=none:=zK s1 hl;have hl1:upd H1 l (.lst []) l=some (.lst []):=pE;have s2:=s1.trans sl;have ht2:=sl _ _ ht;have so20:=so0.same sl;have so21:=so1.same sl;generalize upd H1 l (.lst [])=H2 at hl1 s2 ht2 so20 so21 ⊢;clear sl ht so0 so1 s1 hl;walk_at"c";exists uc (zb4 T).mono (pI ht2 at0 (pI ht2 (show atI _ 1=some (.ref y1)from rfl) ?_));refine iE6 y0 y1 n0 n1 _ _ (iA7 rfl so20 so21 le l24 lg (λgl gs H3 s3 ng fg=>?_));have ng:NL H3 (zZ H3) gl gs (qJ (jS bs rs i j)):=ng;have lgs:gs.length=(jS bs rs i j).length:=by rw[ng.len,qJ,ae]
 have kQ:∀v H',Same H H'->(∃l as,v=.ref l/\NL H' (zZ H') l as ((jS bs rs i j).map (Jp ((j:Int)-i)))/\∀b∈l::as,H b=none)->Q v H':=λv H' s r=>kQ i j v H' rnd s r;generalize jS bs rs i j=G at ng lgs rp rl kQ;have offl:∀b∈gl::gs,b∉[l]:=λb hb z=>by
  have:=fg b hb;rw[ak.mp z,hl1]at this;cases this
 have s03:=s2.trans s3;have hl3:=s3 _ _ hl1;have Lp:((j:Int)-i)≠0:=by lia
 have L8:((j:Int)-i).natAbs<2^8000:=zcs (c7 (show((j:Int)-i).natAbs<=1000 by lia) (by decide));generalize (j:Int)-i=L at Lp L8 kQ;refine⟨gl,rfl,.inl ⟨⟨_,SqL.of ng.out⟩,?_⟩⟩;refine qb (K:=K) (a:=gl) (xs:=gs.map V.ref) (λm σ H'=>∃(v5:Aq)(as:Ac),σ=[some vw,some (.int lim),some (.ref t),some (.int L),some (.ref l),v5]/\Fr [l] H3 H'/\NL H' (zZ H') l as ((G.take m).map (Jp L))/\∀b∈as,H b=none) (iE2 _ ([]) (iA4 rfl Fr.refl (zaq hl3) (by simp))) (λm σ H' _ h=>by let⟨_,_,_,f,_⟩:=h;exact SqL.of (f _ _ (offl gl (by simp)) ng.out)) ?_ ?_
 .intro m x σ H4 hm p9;refine oE2 p9 λv5 as p7=>oA4 p7 λp8 f4 nl4 fa=>?_;ext;rw[ai,am]at hm;let⟨b,hb,rfl⟩:=hm;have hml:m<G.length:=by rw[<- lgs];exact(aa.mp hb).1
  let⟨g,eg⟩:∃g,G[m]?=some g:=⟨_,af hml⟩;let⟨b',hb',hg⟩:=zaA ng eg;rw[hb]at hb';cases hb';have hg4:=f4 _ _ (offl b (aF _ (ah hb))) hg;let⟨g4,_⟩:=rp g (ah eg);have la:as.length<=24:=by rw[nl4.len,ae,aE];lia
  exists⟨.inl ⟨rfl,_,SqL.of nl4.out⟩,?_⟩;walk_at"d";exists⟨b,rfl,.inl ⟨⟨_,SqL.of hg4⟩,λ_ _ _ _ ph hacc=>?_⟩⟩;refine qb (K:=K) (a:=b) (xs:=iv g) (λq σ H'=>∃(v0:Aq)(ws:Ap),σ=[v0,some (.int L)]/\Same H4 H'/\H' ph=some (.lst ws)/\ws.length=q/\Reps H' (zZ H') ws (Jp L (g.take q))) (iE2 _ ([]) (iA5 rfl (zc hacc) pE rfl (.nil))) (λq σ H' _ h=>by let⟨_,_,_,s,_⟩:=h;exact SqL.of (s _ _ hg4)) ?_ ?_
  .intro q x σ H5 hq p9;refine oE2 p9 λv0 ws p7=>oA5 p7 λp8 s5 ha lw rw5=>?_;ext;let⟨c,hc,rfl⟩:=xz hq;have hql:=(aa.mp hc).1;exists uc (zhz T).mono (iE2 c L (iA3 rfl L8 ?_));rw[ao Lp];intro p hp;have sp:=zc (o:=.tup [.int (xV c L),.int (xW c L)]) hp;have hp6:upd H5 p (.tup [.int (xV c L),.int (xW c L)]) p=some (.tup [.int (xV c L),.int (xW c L)]):=pE;have ha6:=sp _ _ ha;have s6:=s5.trans sp;have rw6:=rw5.keep (H':=upd H5 p (.tup [.int (xV c L),.int (xW c L)])) (q:=zZ (upd H5 p (.tup [.int (xV c L),.int (xW c L)]))) λb o ⟨xs,hx⟩ hb=>⟨⟨xs,sp _ _ hx⟩,sp _ _ hb⟩;generalize upd H5 p (.tup [.int (xV c L),.int (xW c L)])=H6 at hp6 ha6 s6 rw6 ⊢;refine⟨_,iA3 ha6 (zm (by lia)) (iE2 _ (ws++[.ref p]) (iA5 rfl (λb o hb=>by rw[pF (pG hb hacc)];exact s6 b o hb) pE (by simp[lw]) ?_))⟩;rw[aO,hc,show Jp L (g.take q++(some c).toList)=Jp L (g.take q)++[.tup [.int (xV c L),.int (xW c L)]] by simp[Jp]];have r7:Rep H6 (zZ H6) (.ref p) (.tup [.int (xV c L),.int (xW c L)]):=Reps.mkT (vs:=[.int (xV c L),.int (xW c L)]) (.cons .int (.cons .int .nil)) ⟨_,hp6⟩ hp6;refine(rw6.append (.one r7)).keep λb o tb hb=>?_;have ne:b≠ph:=λz=>by
    let⟨xs,hx⟩:=tb;rw[z,ha6]at hx;cases hx
   let⟨xs,hx⟩:=tb;exact⟨⟨xs,by rw[pF ne];exact hx⟩,by rw[pF ne];exact hb⟩
  intro σ H5 p9;refine oE2 p9 λv0 ws p7=>oA5 p7 λp8 s5 ha lw rw5=>?_;ext;rw[zA,aG]at rw5;have nl5:=nl4.tup (H':=H5) λb o _ hb=>s5 b o hb;have nb:ph∉as:=λz=>by
   let⟨vs,h⟩:=nl4.isl (aF _ z);rw[hacc]at h;cases h
  have nG:ph≠l:=λz=>by rw[z,nl4.out]at hacc;cases hacc
  have ntG:¬zZ H5 l:=λ⟨xs,hx⟩=>by rw[nl5.out]at hx;cases hx
  have nac:H ph=none:=by
   cases e:H ph with
   |none=>rfl
   |some u =>
    rw[f4 ph u (λz=>nG (ak.mp z)) (s03 _ _ e)]at hacc;cases hacc
  refine iE3 l _ _ (iA5 rfl rfl nl5.out (zm (by rw[ae];lia)) ?_);have np:=nl5.push (b:=ph) (vs:=ws) (ys:=Jp L g) ha nb nG ntG rw5;refine iE2 _ (as++[ph]) (iA4 rfl ((f4.trans s5.fr).trans (qx (by simp))) ?_ (λb hb=>?_))
  .rw[aO,eg,aZ];refine np.keep (λ_ _ _ hc=>hc) λc hc _=>?_;let⟨xs,hx⟩:=hc;exact⟨xs,by rw[pF (λz=>by rw[z,nl5.out]at hx;cases hx)];exact hx⟩
  .rcases ax.mp hb with hb|hb
   .exact fa b hb
   .rw[ak.mp hb];exact nac
 .intro σ H4 p9;refine oE2 p9 λv5 as p7=>oA4 p7 λp8 f4 nl4 fa=>?_;ext;rw[ae,lgs,aG]at nl4;exists kQ _ H4 (λb o hb=>f4 b o (λz=>by rw[ak.mp z,nl0]at hb;cases hb) (s03 _ _ hb)) (iE2 l as (iA3 rfl nl4 (λb hb=>?_)));rcases aC.mp hb with rfl|hb
  .exact nl0
  .exact fa b hb
def Jl(T:Txt K mg a):Cal P w K mg base "shares_of" 9 ["work","limit"] [] (ze7 a zji):=T.m6.cal (zaj T)
section
variable{bs:A1}{rs:At}
def zcb(bo:∀b∈bs,zH b.1 b.2)(ro:∀r∈rs,r.ok)(h:wN bs rs n):0<n/\n<=4:=by
 rcases h with⟨b,hb,rfl⟩|⟨r,hr,hw,rfl,hp⟩
 .have h:=bo b hb;exact⟨by have:=h.2.2.1;lia,h.2.2.2⟩
 .exact⟨hp,(zbj (ro r hr) hw).2⟩
def zdZ(bo:∀b∈bs,zH b.1 b.2)(ro:∀r∈rs,r.ok):∃L,QZ bs rs L:=by
 have hm:∀n,n∈(bs.map (·.2)++(rs.filter λr=>decide ((r.wd=.source\/r.wd=.drain)/\0<r.pace)).map Row.pace)↔wN bs rs n:=λn=>by
  simp only[ax,bb,cw,dg,wN];constructor
  .rintro(⟨b,hb,e⟩|⟨r,⟨hr,hw,hp⟩,e⟩)
   .exact .inl ⟨b,hb,e⟩
   .exact .inr ⟨r,hr,hw,e,by rw[<- e];exact hp⟩
  .rintro(⟨b,hb,e⟩|⟨r,hr,hw,e,hp⟩)
   .exact .inl ⟨b,hb,e⟩
   .exact .inr ⟨r,⟨hr,hw,by rw[e];exact hp⟩,e⟩
 let⟨L,hL⟩:=IsLcm.ex (ns:=bs.map (·.2)++(rs.filter λr=>decide ((r.wd=.source\/r.wd=.drain)/\0<r.pace)).map Row.pace) λn hn=>by
  have b4:=zcb bo ro ((hm n).mp hn)
  lia
 exact⟨L,_,hL,hm⟩
def zd0(bo:∀b∈bs,zH b.1 b.2)(ro:∀r∈rs,r.ok)(h:wN bs rs n):n∣xP bs rs:=by
 let⟨L,hL⟩:=zdZ bo ro;rw[<- Wf hL];let⟨ns,il,im⟩:=hL;exact il.dv n ((im n).mpr h)
end
abbrev LSt:=List (Option Nat)×Nat
def lS(sp t:Nat)(s:LSt):LSt:=if s.1.headD none=none/\t%sp=0 then(s.1.set 0 (some s.2),s.2+1)else s
def lD(dp t:Nat)(s:LSt):LSt:=if dp=0\/s.1.getLastD none=none\/t%dp≠0 then s else(s.1.set (s.1.length-1) none,s.2)
def zf1(c:List (Option Nat))(p:Nat):List (Option Nat):=if c.getD (p+1) none=none then(c.set (p+1) (c.getD p none)).set p none else c
def lGo(c:List (Option Nat)):Nat->List (Option Nat)
 |0=>c
 |k+1=>zf1 (lGo c k) (c.length-2-k)
def lMv(s:LSt):LSt:=(lGo s.1 (s.1.length-1),s.2)
def zh0(o:Bool)(sp dp t:Nat)(s:LSt):LSt:=lMv (if o then lD dp t (lS sp t s)else lS sp t (lD dp t s))
def jB(o:Bool)(sp dp r:Nat):Nat->LSt
 |0=>(List.replicate r none,0)
 |t+1=>zh0 o sp dp t (jB o sp dp r t)
def wr(k:Nat)(c:List (Option Nat)):List qp:=c.map λx=>x.map λn=>((k:Int),(n:Int))
def zdj(k:Nat)(c:List (Option Nat))(p:Nat):(wr k c).getD p none=(c.getD p none).map λn=>((k:Int),(n:Int)):=by
 unfold wr;rw[ay,ay,ai];cases c[p]? <;> rfl
def JU(k:Nat)(c:List (Option Nat))(p:Nat)(x:Option Nat):(wr k c).set p (x.map λn=>((k:Int),(n:Int)))=wr k (c.set p x):=by
 unfold wr;rw[de]
def map_none{x:Option Nat}:(x.map λn=>((k:Int),(n:Int)))=none↔x=none:=by cases x<;>simp
def zcd(k:Nat)(c:List (Option Nat)):(wr k c).length=c.length:=ae ..
def zgJ(k:Nat)(c:List (Option Nat))(p:Nat):xZ (wr k c) p=wr k (zf1 c p):=by
 unfold xZ zf1;rw[zdj,zdj];by_cases h:c.getD (p+1) none=none
 .rw[aq (map_none.mpr h),aq h,JU];exact JU k _ p none
 .rw[ao (λz=>h (map_none.mp z)),ao h]
theorem zhJ(k:Nat)(c:List (Option Nat)):∀j,Jw (wr k c) j=wr k (lGo c j)
 |0=>rfl
 |j+1=>by rw[Jw,zhJ k c j,zcd,zgJ];rfl
def zdi(k:Nat)(s:LSt):Vk (wr k s.1)=wr k (lMv s).1:=by
 unfold Vk;rw[zcd,zhJ]
 rfl
def VJ(k:Nat)(c:List (Option Nat)):zgB (wr k c)=none↔c.headD none=none:=by
 cases c with
 |nil=>exact⟨λ_=>rfl,λ_=>rfl⟩
 |cons x c=>exact map_none
def zeY(k:Nat)(c:List (Option Nat)):Zd (wr k c)=none↔c.getLastD none=none:=by
 unfold Zd wr;rw[b7,b7,List.getLast?_map];cases c.getLast? with
 |none=>exact⟨λ_=>rfl,λ_=>rfl⟩
 |some x=>exact map_none
structure Ln(i j t:Nat)(st:PSt)(A B:LSt):Prop where
 tn:st.turn=t
 ce:st.cells=[wr i A.1,wr j B.1]
 si:st.sides=[0,0,0,0]
 ln:st.gone.length=4
 ga:st.gone[i]?=some [(A.2:Int)]
 gb:st.gone[j]?=some [(B.2:Int)]
section
variable{rs:At}{i j t:Nat}{st:PSt}{A B:LSt}
def vT(n:Nat)(h:n=0):([0,0,0,0]:A7).set k ((n:Nat):Int)=[0,0,0,0]:=by
 subst h
 match k with
 |0=>rfl
 |1=>rfl
 |2=>rfl
 |3=>rfl
 |_+4=>rfl
def zdn(k:Nat):((([0,0,0,0]:A7).getD k 0).toNat)=0:=by
 match k with
 |0=>rfl
 |1=>rfl
 |2=>rfl
 |3=>rfl
 |_+4=>rfl
def wp(t p:Nat):((t:Int)%(p:Int)=0)↔t%p=0:=by
 rw[<- dq];exact dQ
def zcZ{k n:Nat}(h:st.gone[k]?=some [(n:Int)]):st.gone.getD k []=[(n:Int)]:=by rw[ay,h];rfl
def Ln.sA{sp:Nat}(h:Ln i j t st A B)(ne:i≠j)(il:i<4)(hr:rs[i]?=some ⟨.source,[],[0],(sp:Int),ks⟩):Ln i j t (jF rs st i).1 (lS sp t A) B:=by
 have gD:=zcZ h.ga;unfold jF;rw[hr];simp only[qu,jD,qM,bJ,d5];rw[h.si,zdn,h.tn,h.ce];show Ln i j t (match (if ([decide (zgB (wr i A.1)=none)].getD 0 false=true/\((t:Int)%(sp:Int)=0))then some (none,some 0,0)else none:Option Ak)with|none=>(st,none)|some ch=>_:PSt×Option Move).1 _ _
 unfold lS;by_cases hc:A.1.headD none=none/\t%sp=0
 .rw[aq ⟨bh ((VJ i A.1).mpr hc.1),(wp t sp).mpr hc.2⟩,aq hc];refine⟨h.tn,?_,?_,?_,?_,?_⟩
  .show st.cells.set 0 ((qi st.cells 0).set 0 (some ((i:Int),(st.gone.getD i []).headD 0)))=_
   rw[gD,h.ce];show [(wr i A.1).set 0 (some ((i:Int),(A.2:Int))),wr j B.1]=_
   rw[<- JU i A.1 0 (some A.2)]
   rfl
  .show st.sides.set i ((0:Nat):Int)=_
   rw[h.si];exact vT 0 rfl
  .show(st.gone.set i _).length=4
   rw[a7];exact h.ln
  .show(st.gone.set i (JJ (st.gone.getD i []) 0))[i]?=_
   rw[gD,aN (by rw[h.ln];exact il)]
   rfl
  .show(st.gone.set i _)[j]?=_
   rw[aW ne];exact h.gb
 .rw[ao (λz=>hc ⟨(VJ i A.1).mp (bu z.1),(wp t sp).mp z.2⟩),ao hc];exact h
def Ln.sB{sp:Nat}(h:Ln i j t st A B)(ne:j≠i)(jl:j<4)(hr:rs[j]?=some ⟨.source,[],[1],(sp:Int),ks⟩):Ln i j t (jF rs st j).1 A (lS sp t B):=by
 have gD:=zcZ h.gb;unfold jF;rw[hr];simp only[qu,jD,qM,bJ,d5];rw[h.si,zdn,h.tn,h.ce];show Ln i j t (match (if ([decide (zgB (wr j B.1)=none)].getD 0 false=true/\((t:Int)%(sp:Int)=0))then some (none,some 0,0)else none:Option Ak)with|none=>(st,none)|some ch=>_:PSt×Option Move).1 _ _
 unfold lS;by_cases hc:B.1.headD none=none/\t%sp=0
 .rw[aq ⟨bh ((VJ j B.1).mpr hc.1),(wp t sp).mpr hc.2⟩,aq hc];refine⟨h.tn,?_,?_,?_,?_,?_⟩
  .show st.cells.set 1 ((qi st.cells 1).set 0 (some ((j:Int),(st.gone.getD j []).headD 0)))=_
   rw[gD,h.ce];show [wr i A.1,(wr j B.1).set 0 (some ((j:Int),(B.2:Int)))]=_
   rw[<- JU j B.1 0 (some B.2)]
   rfl
  .show st.sides.set j ((0:Nat):Int)=_
   rw[h.si];exact vT 0 rfl
  .show(st.gone.set j _).length=4
   rw[a7];exact h.ln
  .show(st.gone.set j _)[i]?=_
   rw[aW ne];exact h.ga
  .show(st.gone.set j (JJ (st.gone.getD j []) 0))[j]?=_
   rw[gD,aN (by rw[h.ln];exact jl)]
   rfl
 .rw[ao (λz=>hc ⟨(VJ j B.1).mp (bu z.1),(wp t sp).mp z.2⟩),ao hc];exact h
def WN(k:Nat)(c:List (Option Nat)):xo (wr k c)=wr k (c.set (c.length-1) none):=by
 unfold xo;rw[zcd];exact JU k c (c.length-1) none
def Vs{rs:At}{x:qp}:Zl rs x=none↔x=none:=by cases x<;>simp[Zl]
def Ln.dA{d dp:Nat}(h:Ln i j t st A B)(ni:d≠i)(nj:d≠j)(hr:rs[d]?=some ⟨.drain,[0],[],(dp:Int),[]⟩):Ln i j t (jF rs st d).1 (lD dp t A) B:=by
 unfold jF;rw[hr];simp only[qu,jD,qM,bJ,d5];rw[h.si,zdn,h.tn,h.ce];show Ln i j t (match (if ((dp:Int)=0\/Zl rs (Zd (wr i A.1))=none\/(t:Int)%(dp:Int)≠0)then none else some (some 0,none,0):Option Ak)with|none=>(st,none)|some ch=>_:PSt×Option Move).1 _ _
 have iff:((dp:Int)=0\/Zl rs (Zd (wr i A.1))=none\/(t:Int)%(dp:Int)≠0)↔(dp=0\/A.1.getLastD none=none\/t%dp≠0):=by
  rw[Vs,zeY,dQ,Ne,wp]
 unfold lD;by_cases hc:dp=0\/A.1.getLastD none=none\/t%dp≠0
 .rw[aq (iff.mpr hc),aq hc];exact h
 .rw[ao (λz=>hc (iff.mp z)),ao hc];refine⟨h.tn,?_,?_,?_,?_,?_⟩
  .show st.cells.set 0 (xo (qi st.cells 0))=_
   rw[h.ce];show [xo (wr i A.1),wr j B.1]=_
   rw[WN]
  .show st.sides.set d ((0:Nat):Int)=_
   rw[h.si];exact vT 0 rfl
  .show(st.gone.set d _).length=4
   rw[a7];exact h.ln
  .show(st.gone.set d _)[i]?=_
   rw[aW ni];exact h.ga
  .show(st.gone.set d _)[j]?=_
   rw[aW nj];exact h.gb
def Ln.dB{d dp:Nat}(h:Ln i j t st A B)(ni:d≠i)(nj:d≠j)(hr:rs[d]?=some ⟨.drain,[1],[],(dp:Int),[]⟩):Ln i j t (jF rs st d).1 A (lD dp t B):=by
 unfold jF;rw[hr];simp only[qu,jD,qM,bJ,d5];rw[h.si,zdn,h.tn,h.ce];show Ln i j t (match (if ((dp:Int)=0\/Zl rs (Zd (wr j B.1))=none\/(t:Int)%(dp:Int)≠0)then none else some (some 0,none,0):Option Ak)with|none=>(st,none)|some ch=>_:PSt×Option Move).1 _ _
 have iff:((dp:Int)=0\/Zl rs (Zd (wr j B.1))=none\/(t:Int)%(dp:Int)≠0)↔(dp=0\/B.1.getLastD none=none\/t%dp≠0):=by
  rw[Vs,zeY,dQ,Ne,wp]
 unfold lD;by_cases hc:dp=0\/B.1.getLastD none=none\/t%dp≠0
 .rw[aq (iff.mpr hc),aq hc];exact h
 .rw[ao (λz=>hc (iff.mp z)),ao hc];refine⟨h.tn,?_,?_,?_,?_,?_⟩
  .show st.cells.set 1 (xo (qi st.cells 1))=_
   rw[h.ce];show [wr i A.1,xo (wr j B.1)]=_
   rw[WN]
  .show st.sides.set d ((0:Nat):Int)=_
   rw[h.si];exact vT 0 rfl
  .show(st.gone.set d _).length=4
   rw[a7];exact h.ln
  .show(st.gone.set d _)[i]?=_
   rw[aW ni];exact h.ga
  .show(st.gone.set d _)[j]?=_
   rw[aW nj];exact h.gb
end
abbrev SA(ks:A7):Row:=⟨.source,[],[0],((3:Nat):Int),ks⟩
abbrev SB(ks:A7):Row:=⟨.source,[],[1],((4:Nat):Int),ks⟩
abbrev DA(p:Nat):Row:=⟨.drain,[0],[],(p:Int),[]⟩
abbrev DB(q:Nat):Row:=⟨.drain,[1],[],(q:Int),[]⟩
def r4(c p q:Nat)(ka kb:A7):List Row:=match c with
 |0=>[SA ka,SB kb,DA p,DB q]
 |1=>[SB kb,DA p,DB q,SA ka]
 |2=>[DA p,DB q,SA ka,SB kb]
 |_=>[DB q,SA ka,SB kb,DA p]
def iA:Nat->Nat
 |0=>0
 |1=>3
 |2=>2
 |_=>1
def iB:Nat->Nat
 |0=>1
 |1=>0
 |2=>3
 |_=>2
def oA:Nat->Bool
 |0=>true
 |1=>false
 |2=>false
 |_=>true
def oB:Nat->Bool
 |0=>true
 |1=>true
 |2=>false
 |_=>false
section
variable{c p q r0 r1:Nat}{ka kb:A7}
def Ln.acts{t:Nat}{st:PSt}{A B:LSt}(h:Ln (iA c) (iB c) t st A B):Ln (iA c) (iB c) t (zQ (r4 c p q ka kb) st 4).1 (if oA c then lD p t (lS 3 t A)else lS 3 t (lD p t A)) (if oB c then lD q t (lS 4 t B)else lS 4 t (lD q t B)):=by
 match c with
 |0 =>
  have h1:=h.sA (rs:=r4 0 p q ka kb) (sp:=3) (by decide) (by decide) rfl;have h2:=h1.sB (rs:=r4 0 p q ka kb) (sp:=4) (by decide) (by decide) rfl;have h3:=h2.dA (rs:=r4 0 p q ka kb) (d:=2) (dp:=p) (by decide) (by decide) rfl;exact h3.dB (rs:=r4 0 p q ka kb) (d:=3) (dp:=q) (by decide) (by decide) rfl
 |1 =>
  have h1:=h.sB (rs:=r4 1 p q ka kb) (sp:=4) (by decide) (by decide) rfl;have h2:=h1.dA (rs:=r4 1 p q ka kb) (d:=1) (dp:=p) (by decide) (by decide) rfl;have h3:=h2.dB (rs:=r4 1 p q ka kb) (d:=2) (dp:=q) (by decide) (by decide) rfl;exact h3.sA (rs:=r4 1 p q ka kb) (sp:=3) (by decide) (by decide) rfl
 |2 =>
  have h1:=h.dA (rs:=r4 2 p q ka kb) (d:=0) (dp:=p) (by decide) (by decide) rfl;have h2:=h1.dB (rs:=r4 2 p q ka kb) (d:=1) (dp:=q) (by decide) (by decide) rfl;have h3:=h2.sA (rs:=r4 2 p q ka kb) (sp:=3) (by decide) (by decide) rfl;exact h3.sB (rs:=r4 2 p q ka kb) (sp:=4) (by decide) (by decide) rfl
 |c+3 =>
  have h1:=h.dB (rs:=r4 (c+3) p q ka kb) (d:=0) (dp:=q) (show 0≠1 by decide) (show 0≠2 by decide) rfl;have h2:=h1.sA (rs:=r4 (c+3) p q ka kb) (sp:=3) (show 1≠2 by decide) (show 1<4 by decide) rfl;have h3:=h2.sB (rs:=r4 (c+3) p q ka kb) (sp:=4) (show 2≠1 by decide) (show 2<4 by decide) rfl;exact h3.dA (rs:=r4 (c+3) p q ka kb) (d:=3) (dp:=p) (show 3≠1 by decide) (show 3≠2 by decide) rfl
def Xx:(r4 c p q ka kb).length=4:=by
 match c with
 |0=>rfl
 |1=>rfl
 |2=>rfl
 |_+3=>rfl
theorem zat:∀t:Nat,Ln (iA c) (iB c) t (qm [((r0:Nat),1),((r1:Nat),1)] (r4 c p q ka kb) t) (jB (oA c) 3 p r0 t) (jB (oB c) 4 q r1 t)
 |0=>by
  have e:∀(k r:Nat),List.replicate ((r:Int)).toNat (none:qp)=wr k (List.replicate r none):=λk r=>by
   rw[aK,wr,List.map_replicate]
   rfl
  refine⟨rfl,?_,?_,?_,?_,?_⟩
  .show [List.replicate ((r0:Int)).toNat none,List.replicate ((r1:Int)).toNat none]=_
   rw[e (iA c),e (iB c)]
   rfl
  .show List.replicate (r4 c p q ka kb).length 0=_
   rw[Xx]
   rfl
  .show((r4 c p q ka kb).map qW).length=4
   rw[ae,Xx]
  .match c with
   |0=>rfl
   |1=>rfl
   |2=>rfl
   |_+3=>rfl
  .match c with
   |0=>rfl
   |1=>rfl
   |2=>rfl
   |_+3=>rfl
 |t+1=>by
  have h:=(zat t).acts (p:=p) (q:=q) (ka:=ka) (kb:=kb);show Ln (iA c) (iB c) (t+1) (passF _ _ _).1 _ _
  unfold passF;rw[Xx];refine⟨?_,?_,h.si,h.ln,h.ga,h.gb⟩
  .show(zQ _ _ _).1.turn+1=_
   rw[h.tn]
   rfl
  .show qZ _ (zQ _ _ _).1.turn (zQ _ _ _).1.cells 2=_
   rw[h.ce];simp only[qZ,gi,gj,Int.emod_one,dC];show [Vk (wr _ _),Vk (wr _ _)]=_
   rw[zdi,zdi]
   rfl
end
def lsh(ks:A7)(s:LSt):List Aa×Nat:=(s.1.map (Option.map λn=>ks.getD (n%ks.length) 0),s.2%ks.length)
def zf7(ks:A7)(n:Nat):vJ ks n=ks.getD (n%ks.length) 0:=by
 unfold vJ;rw[<- dq,aK]
def zbN{rs:At}{r:Row}(hr:rs[k]?=some r)(s:LSt):jJ rs (wr k s.1)=(lsh r.kinds s).1:=by
 unfold jJ wr lsh;rw[d6];refine List.map_congr_left λx _=>?_;cases x with
 |none=>rfl
 |some n =>
  show some (vJ ((rs[((k:Int)).toNat]?.map Row.kinds).getD []) n)=_
  rw[aK,hr];exact bE some (zf7 r.kinds n)
def zbt{rs:At}{k n:Nat}{r:Row}{st:PSt}(hr:rs[k]?=some r)(g:st.gone[k]?=some [(n:Int)]):jI rs st (k:Int)=((n%r.kinds.length:Nat):Int):=by
 unfold jI;rw[aK,hr,zcZ g];exact(dq n r.kinds.length).symm
section
variable{c p q r0 r1:Nat}{ka kb:A7}
def zjo:(r4 c p q ka kb)[iA c]?=some (SA ka):=by
 match c with
 |0=>rfl
 |1=>rfl
 |2=>rfl
 |_+3=>rfl
def zjn:(r4 c p q ka kb)[iB c]?=some (SB kb):=by
 match c with
 |0=>rfl
 |1=>rfl
 |2=>rfl
 |_+3=>rfl
def r4_src{j:Int}:j∈zp .source (r4 c p q ka kb)↔j=(iA c:Nat)\/j=(iB c:Nat):=by
 match c with
 |0=>simp[show zp .source (r4 0 p q ka kb)=[0,1]from rfl,iA,iB]
 |1=>simp[show zp .source (r4 1 p q ka kb)=[0,3]from rfl,iA,iB,or_comm]
 |2=>simp[show zp .source (r4 2 p q ka kb)=[2,3]from rfl,iA,iB]
 |c+3=>simp[show zp .source (r4 (c+3) p q ka kb)=[1,2]from rfl,iA,iB]
def zfm{st st':PSt}{x y:Nat}{A B A' B':LSt}(h:Ln (iA c) (iB c) x st A B)(h':Ln (iA c) (iB c) y st' A' B'):Xd bs (r4 c p q ka kb) st=Xd bs (r4 c p q ka kb) st'↔(x:Int)%xP bs (r4 c p q ka kb)=(y:Int)%xP bs (r4 c p q ka kb)/\lsh ka A=lsh ka A'/\lsh kb B=lsh kb B':=by
 unfold Xd;rw[h.ce,h'.ce,h.si,h'.si,h.tn,h'.tn];simp only[bJ,d5,zbN zjo,zbN zjn,Prod.mk.injEq,d7,List.cons.injEq,and_true,true_and];have pA:∀{st:PSt}{n:Nat},st.gone[iA c]?=some [(n:Int)]->jI (r4 c p q ka kb) st (iA c:Nat)=((n%ka.length:Nat):Int):=λg=>zbt zjo g;have pB:∀{st:PSt}{n:Nat},st.gone[iB c]?=some [(n:Int)]->jI (r4 c p q ka kb) st (iB c:Nat)=((n%kb.length:Nat):Int):=λg=>zbt zjn g;constructor
 .rintro⟨e1,⟨e2,e3⟩,e4⟩;have e:=List.map_inj_left.mp e4;have a:=aT (e _ (r4_src.mpr (.inl rfl)));have b:=aT (e _ (r4_src.mpr (.inr rfl)));rw[pA h.ga,pA h'.ga]at a;rw[pB h.gb,pB h'.gb]at b;exact⟨e1,Prod.ext e2 (fi a),Prod.ext e3 (fi b)⟩
 .rintro⟨e1,e2,e3⟩;refine⟨e1,⟨bE Prod.fst e2,bE Prod.fst e3⟩,List.map_inj_left.mpr λj hj=>?_⟩;have a:A.2%ka.length=A'.2%ka.length:=bE Prod.snd e2;have b:B.2%kb.length=B'.2%kb.length:=bE Prod.snd e3;rcases r4_src.mp hj with rfl|rfl
  .rw[pA h.ga,pA h'.ga,a]
  .rw[pB h.gb,pB h'.gb,b]
def r4_mem{r:Row}:r∈r4 c p q ka kb↔r=SA ka\/r=SB kb\/r=DA p\/r=DB q:=by
 match c with
 |0=>simp[r4]
 |1=>simp only[r4,aC,aJ,aY];exact⟨λh=>by rcases h with h|h|h|h<;>simp[h],λh=>by rcases h with h|h|h|h<;>simp[h]⟩
 |2=>simp only[r4,aC,aJ,aY];exact⟨λh=>by rcases h with h|h|h|h<;>simp[h],λh=>by rcases h with h|h|h|h<;>simp[h]⟩
 |_+3=>simp only[r4,aC,aJ,aY];exact⟨λh=>by rcases h with h|h|h|h<;>simp[h],λh=>by rcases h with h|h|h|h<;>simp[h]⟩
def zi4(bo:∀b∈[((r0:Int),(1:Int)),((r1:Int),1)],zH b.1 b.2)(ro:∀r∈r4 c p q ka kb,r.ok)(hp:p<=4)(hq:q<=4):xP [((r0:Int),(1:Int)),((r1:Int),1)] (r4 c p q ka kb)=12:=by
 have d3:(3:Int)∣xP [((r0:Int),(1:Int)),((r1:Int),1)] (r4 c p q ka kb):=zd0 bo ro (.inr ⟨SA ka,r4_mem.mpr (.inl rfl),.inl rfl,rfl,by decide⟩);have d4:(4:Int)∣xP [((r0:Int),(1:Int)),((r1:Int),1)] (r4 c p q ka kb):=zd0 bo ro (.inr ⟨SB kb,r4_mem.mpr (.inr (.inl rfl)),.inl rfl,rfl,by decide⟩);let⟨L,hL⟩:=zdZ bo ro;have pos:=hL;rw[<- Wf hL]at d3 d4 ⊢;let⟨ns,il,im⟩:=hL;have d12:L∣12:=il.least 12 λn hn=>by
  rcases(im n).mp hn with⟨b,hb,rfl⟩|⟨r,hr,_,rfl,hpos⟩
  .simp only[aC,aJ,aY]at hb;rcases hb with rfl|rfl
   .exact fW _
   .exact fW _
  .have five:∀{m:Nat},m<=4->(0:Int)<m->(m:Int)∣12:=λ{m} h h'=>by
    rcases(by lia:m=1\/m=2\/m=3\/m=4)with rfl|rfl|rfl|rfl<;>decide
   rcases r4_mem.mp hr with rfl|rfl|rfl|rfl
   .show(3:Int)∣12
    decide
   .show(4:Int)∣12
    decide
   .exact five hp hpos
   .exact five hq hpos
 have l1:=il.pos;have l2:=Int.le_of_dvd (by decide) d12
 lia
end
abbrev evA:List Int:=[4,8,8]
abbrev evB:List Int:=[1,2,3,4,5]
abbrev odA:List Int:=[7,7,7,9,7]
abbrev odB:List Int:=[1,2,3,4]
def ck1:∀o:Bool,∀r∈[1,2,3],∀p∈[0,1,2,3],lsh evA (jB o 3 p r 20)=lsh evA (jB o 3 p r 200):=by symm
def ck2:∀o:Bool,∀r∈[1,2,3],∀q∈[0,1,2,3,4],lsh evB (jB o 4 q r 20)=lsh evB (jB o 4 q r 200)/\lsh evB (jB o 4 q r 80)=lsh evB (jB o 4 q r 140):=by symm
def ck3:∀o:Bool,∀r∈[1,2,3],lsh evA (jB o 3 4 r 80)=lsh evA (jB o 3 4 r 140):=by symm
def ck4:∀o:Bool,∀r∈[1,2,3],∀p∈[0,1,2,3,4],lsh odA (jB o 3 p r 60)=lsh odA (jB o 3 p r 300)/\lsh odB (jB o 4 p r 60)=lsh odB (jB o 4 p r 300):=by symm
def zci(o:Bool)(sp dp:Nat):Nat->Nat->LSt->List LSt
 |0,_,s=>[s]
 |n+1,t,s=>s::zci o sp dp n (t+1) (zh0 o sp dp t s)
theorem ze5(o:Bool)(sp dp r:Nat):∀(n t k:Nat),k<=n->(zci o sp dp n t (jB o sp dp r t))[k]?=some (jB o sp dp r (t+k))
 |0,t,k,h=>by rw[Nat.le_zero.mp h];rfl
 |n+1,t,0,_=>rfl
 |n+1,t,k+1,h=>by
  show(zci o sp dp n (t+1) (jB o sp dp r (t+1)))[k]?=_
  rw[ze5 o sp dp r n (t+1) k (by lia),show t+(k+1)=t+1+k by lia]
noncomputable def apart(l:List (List Aa×Nat))(d:Nat):Bool:=(l.zip (l.drop d)).all λx=>decide (x.1≠x.2)
def zgE{l:List (List Aa×Nat)}{d x:Nat}{a b:List Aa×Nat}(h:apart l d=true)(ha:l[x]?=some a)(hb:l[x+d]?=some b):a≠b:=by
 have m:(a,b)∈l.zip (l.drop d):=by
  refine ah (i:=x) ?_;rw[List.getElem?_zip_eq_some];exact⟨ha,by rw[fZ,fE];exact hb⟩
 exact bu (bI.mp h _ m)
def ck5:∀o:Bool,∀r∈[1,2,3],∀p∈[1,2,3,4],([12,24,36,48,72,84,96,108,132,144,156,168,192].all (apart ((zci o 3 p 200 0 (jB o 3 p r 0)).map (lsh odA))))=true:=by symm
def ck6:∀o:Bool,∀r∈[1,2,3],∀p∈[1,2,3,4],([12,24,36,60,72,84,108,120,132,156,168,180].all (apart ((zci o 4 p 200 0 (jB o 4 p r 0)).map (lsh odB))))=true:=by symm
section
variable{c p q r0 r1:Nat}{ka kb:A7}
abbrev b2(r0 r1:Nat):List (Int×Int):=[((r0:Int),(1:Int)),((r1:Int),1)]
def ZM(bo:∀b∈b2 r0 r1,zH b.1 b.2)(ro:∀r∈r4 c p q ka kb,r.ok)(hp:p<=4)(hq:q<=4){x y:Nat}:qC (b2 r0 r1) (r4 c p q ka kb) x=qC (b2 r0 r1) (r4 c p q ka kb) y↔x%12=y%12/\lsh ka (jB (oA c) 3 p r0 x)=lsh ka (jB (oA c) 3 p r0 y)/\lsh kb (jB (oB c) 4 q r1 x)=lsh kb (jB (oB c) 4 q r1 y):=by
 have h:=zfm (p:=p) (q:=q) (ka:=ka) (kb:=kb) (bs:=b2 r0 r1) (zat (c:=c) (p:=p) (q:=q) (r0:=r0) (r1:=r1) (ka:=ka) (kb:=kb) x) (zat (c:=c) (p:=p) (q:=q) (r0:=r0) (r1:=r1) (ka:=ka) (kb:=kb) y);rw[zi4 bo ro hp hq]at h;refine h.trans ⟨λz=>⟨by have:=z.1;lia,z.2⟩,λz=>⟨by have:=z.1;lia,z.2⟩⟩
def rm3{r:Nat}(h:1<=r/\r<=3):r∈[1,2,3]:=by
 simp only[aC,aJ,aY]
 lia
def pc4{p:Nat}(h:p<=4):p∈[0,1,2,3,4]:=by
 simp only[aC,aJ,aY]
 lia
def zjt(bo:∀b∈b2 r0 r1,zH b.1 b.2)(ro:∀r∈r4 c p q evA evB,r.ok)(hp:p<=4)(hq:q<=4)(h0:1<=r0/\r0<=3)(h1:1<=r1/\r1<=3):¬ji (b2 r0 r1) (r4 c p q evA evB) 200:=λz=>by
 have cB:=ck2 (oB c) r1 (rm3 h1) q (pc4 hq);rcases(by lia:p=4\/p<4)with rfl|h
 .exact z 80 140 (by decide) (by decide) ((ZM bo ro hp hq).mpr ⟨rfl,ck3 (oA c) r0 (rm3 h0),cB.2⟩)
 .exact z 20 200 (by decide) (by decide) ((ZM bo ro hp hq).mpr ⟨rfl,ck1 (oA c) r0 (rm3 h0) p (by simp only[aC,aJ,aY];lia),cB.1⟩)
def zjr(bo:∀b∈b2 r0 r1,zH b.1 b.2)(ro:∀r∈r4 c p q odA odB,r.ok)(hp:p<=4)(hq:q<=4)(h0:1<=r0/\r0<=3)(h1:1<=r1/\r1<=3)(hl:300<=lim):¬ji (b2 r0 r1) (r4 c p q odA odB) lim:=λz =>
 z 60 300 (by decide) hl ((ZM bo ro hp hq).mpr ⟨rfl,(ck4 (oA c) r0 (rm3 h0) p (pc4 hp)).1,(ck4 (oB c) r1 (rm3 h1) q (pc4 hq)).2⟩)
def zbH{o:Bool}{sp dp r:Nat}{x y d:Nat}(h:apart ((zci o sp dp 200 0 (jB o sp dp r 0)).map (lsh ks)) d=true)(hd:x+d=y)(hy:y<=200):lsh ks (jB o sp dp r x)≠lsh ks (jB o sp dp r y):=by
 have e:∀{k:Nat},k<=200->((zci o sp dp 200 0 (jB o sp dp r 0)).map (lsh ks))[k]?=some (lsh ks (jB o sp dp r k)):=λ{k} hk=>by
  rw[ai,ze5 o sp dp r 200 0 k hk,Nat.zero_add]
  rfl
 exact zgE h (e (by lia)) (by rw[hd];exact e hy)
def zjs(bo:∀b∈b2 r0 r1,zH b.1 b.2)(ro:∀r∈r4 c p q odA odB,r.ok)(hp:1<=p/\p<=4)(hq:1<=q/\q<=4)(h0:1<=r0/\r0<=3)(h1:1<=r1/\r1<=3):ji (b2 r0 r1) (r4 c p q odA odB) 200:=λx y hxy hy e=>by
 let⟨e1,e2,e3⟩:=(ZM bo ro hp.2 hq.2).mp e;have i4:∀{p:Nat},1<=p/\p<=4->p∈[1,2,3,4]:=λ{p} h=>by
  simp only[aC,aJ,aY]
  lia
 have cA:=bI.mp (ck5 (oA c) r0 (rm3 h0) p (i4 hp));have cB:=bI.mp (ck6 (oB c) r1 (rm3 h1) q (i4 hq));by_cases m:(y-x)%60=0
 .exact zbH (cB (y-x) (by simp only[aC,aJ,aY];lia)) (by lia) hy e3
 .exact zbH (cA (y-x) (by simp only[aC,aJ,aY];lia)) (by lia) hy e2
end
noncomputable def X9(rs:At)(i:Nat):Nat:=(qE .drain rs i).length
theorem XL{rs:At}(j:Nat):∀k,j+k<=rs.length->∃rest,qE .drain rs (j+k)=qE .drain rs j++rest
 |0,_=>⟨[],by simp⟩
 |k+1,h=>by
  let⟨rest,e⟩:=XL (rs:=rs) j k (by lia);have e2:=qQ (wd:=.drain) (af (show j+k<rs.length by lia));exact⟨_,by rw[<- dU,e2,e,a9]⟩
def zap{rs:At}{r:Row}(h:rs[j]?=some r)(hw:r.wd=.drain):(zp .drain rs)[X9 rs j]?=some (j:Int):=by
 have hj:=(aa.mp h).1;let⟨rest,e⟩:=XL (rs:=rs) (j+1) (rs.length-(j+1)) (by lia);rw[show j+1+(rs.length-(j+1))=rs.length by lia,qQ h,aq hw]at e;unfold zp;unfold X9;rw[e,a9,aM (ar _)];simp
def zcM(rs:At):(zp .drain rs).Nodup:=by
 unfold zp qE;exact List.Pairwise.map _ (λ_ _ h z=>h (fi z)) (List.Pairwise.filter _ List.nodup_range)
def zfS{rs:At}{d:Int}(h:(zp .drain rs)[m]?=some d):∃(j:Nat)(r:Row),d=j/\rs[j]?=some r/\r.wd=.drain/\X9 rs j=m:=by
 let⟨j,r,rfl,hr,hw⟩:=xw (ah h);refine⟨j,r,rfl,hr,hw,?_⟩;have h2:=zap hr hw;exact(List.getElem?_inj (aa.mp h2).1 (zcM rs)).mp (h2.trans h.symm)
noncomputable def Qw(rs:At)(ps:A7)(m j:Nat)(r:Row):Row:=if r.wd=.drain/\X9 rs j<m then⟨r.wd,r.ins,r.outs,ps.getD (X9 rs j) 0,r.kinds⟩else r
noncomputable def ju(rs:At)(ps:A7)(m:Nat):List Row:=rs.mapIdx (Qw rs ps m)
def x8(rs:At)(ps:A7)(m j:Nat):(ju rs ps m)[j]?=rs[j]?.map (Qw rs ps m j):=List.getElem?_mapIdx
def x6(rs:At)(ps:A7)(m:Nat):(ju rs ps m).length=rs.length:=by unfold ju;rw[List.length_mapIdx]
def zck(rs:At)(ps:A7):ju rs ps 0=rs:=by
 refine eM λj=>?_;rw[x8];cases rs[j]? with
 |none=>rfl
 |some r =>
  show some (Qw rs ps 0 j r)=some r
  unfold Qw;rw[ao (λz=>by lia)]
def zcl{rs:At}{m j:Nat}{r:Row}(hr:rs[j]?=some r)(hw:r.wd=.drain)(hc:X9 rs j=m):ju rs ps (m+1)=(ju rs ps m).set j ⟨r.wd,r.ins,r.outs,ps.getD m 0,r.kinds⟩:=by
 refine eM λi=>?_;rw[x8,List.getElem?_set,x6,x8];by_cases e:j=i
 .subst e;rw[aq rfl,aq (aa.mp hr).1,hr];show some (Qw rs ps (m+1) j r)=_
  unfold Qw;rw[aq ⟨hw,by lia⟩,hc]
 .rw[ao e];cases hi:rs[i]? with
  |none=>rfl
  |some r' =>
   show some (Qw rs ps (m+1) i r')=some (Qw rs ps m i r')
   unfold Qw;by_cases hd:r'.wd=.drain
   .have ne:X9 rs i≠m:=λz=>by
     have h1:=zap hi hd;have h2:=zap hr hw;rw[z]at h1;rw[hc,h1]at h2;have:(i:Int)=j:=aT h2
     lia
    by_cases hl:X9 rs i<m
    .rw[aq ⟨hd,by lia⟩,aq ⟨hd,hl⟩]
    .rw[ao (λz=>by lia),ao (λz=>hl z.2)]
   .rw[ao (λz=>hd z.1),ao (λz=>hd z.1)]
def Qz{rs:At}{α:Type}(f:Row->α)(hf:∀r p,f ⟨r.wd,r.ins,r.outs,p,r.kinds⟩=f r):(ju rs ps m).map f=rs.map f:=by
 refine eM λj=>?_;rw[ai,ai,x8];cases rs[j]? with
 |none=>rfl
 |some r =>
  show some (f (Qw rs ps m j r))=some (f r)
  unfold Qw
  split
  .rw[hf]
  .rfl
def zea(rs:At)(ps:A7)(m:Nat):xf (ju rs ps m)=xf rs:=by
 unfold xf;rw[ff,ff,Qz Row.outs λ_ _=>rfl]
def zaZ(rs:At)(ps:A7)(m:Nat):qG (ju rs ps m)=qG rs:=by
 unfold qG;rw[ff,ff,Qz Row.ins λ_ _=>rfl]
def wx{rs:At}(h:zV bs rs):zV bs (ju rs ps m):=by
 unfold zV at h ⊢;rw[zea,zaZ,x6];exact h
def Pcs(ps:A7):Prop:=∀p∈ps,0<=p/\p<=4
def ZJ{rs:At}(ro:∀r∈rs,r.ok)(hp:Pcs ps)(hm:m<=ps.length):∀r∈ju rs ps m,r.ok:=λr hr=>by
 let⟨j,hj⟩:=bF hr;rw[x8,am]at hj;let⟨r0,h0,rfl⟩:=hj;have ok:=ro r0 (ah h0);unfold Qw
 split
 .rename_i z;let⟨wd,ins,outs,pc,ks⟩:=r0;let⟨z1,z2⟩:=z;simp only at z1;subst z1;let⟨o1,o2,_⟩:=ok;have hl:X9 rs j<ps.length:=by lia
  have e:ps.getD (X9 rs j) 0=ps[X9 rs j]:=by simp[hl]
  rw[e];exact⟨o1,o2,(hp _ (cr hl)).1,(hp _ (cr hl)).2⟩
 .exact ok
def zgR(K:A0)(a:Ad):Sp:=λvs H Q E=>∃(l:Addr)(ps:A7),vs=[.ref l]/\SqL K H l (iv ps)/\(Pcs ps->Q .non H)/\(¬Pcs ps->E (.ref a.i) none H)
def Zq(T:Txt K mg a):Cal P w K mg base "check_paces" 1 ["paces"] [] (zgR K a):=T.ma.cal λF=>by
 refine F.okx Xm ?_ ?_
 .walk_at"i"
 walk_at"k";refine oE2 h λl ps p7=>oA4 p7 λp8 hl k1 k2=>?_;clear p7 h;subst p8;walk_at"T";refine⟨_,(zd (z6 qj rfl (zN (pq 0)) (zX 1 Xm.nd)  (zd (zy (qw (jy jU jU ze (pq 1) jc))  (zd (qA ⟨rfl,rfl,rfl⟩ rfl (za z9 zb)))  zl)))),?_⟩;walk_at"c";exists⟨l,rfl,.inl ⟨⟨_,hl⟩,?_⟩⟩;refine qb (K:=K) (a:=l) (xs:=iv ps) (λi σ H'=>∃v1,σ=[some (.ref l),v1]/\H'=H/\∀p∈ps.take i,0<=p/\p<=4) ⟨_,iA3 rfl rfl (by simp)⟩ (λi σ H' _ h=>by let⟨_,_,e,_⟩:=h;rw[e];exact hl) ?_ ?_
 .intro i x σ H' hi p9;refine oE1 p9 λv1 p7=>oA3 p7 λp8 pj hp=>?_;clear p7 p9;subst p8 pj;let⟨n,hn,rfl⟩:=xz hi;have bad:¬(0<=n/\n<=4)->E (.ref a.i) none H':=λz=>k2 λq=>z (q n (ah hn));have badC:¬(0<=n/\n<=4)->∃C,mg "BadPaces"=some (Value.ref C)/\XC K C/\E (Value.ref C) none H':=λz=>⟨a.i,T.iS,T.lF,bad z⟩;exists zF (λb1=>?_) (λb1=>badC (λz=>b1 z.1));let⟨t1,g1⟩:=T.iK;refine iE2 (.int 4) _ (iA3 g1 ⟨_,rfl⟩ ?_);exists zF (λb2=>?_) (λb2=>badC (λz=>by lia));refine⟨_,rfl,λp hq=>?_⟩;rw[aO,hn]at hq;rcases ax.mp hq with hq|hq
  .exact hp p hq
  .simp at hq;rw[hq];lia
 .intro σ H' p9;refine oE1 p9 λv1 p7=>oA3 p7 λp8 pj hp=>?_;clear p7 p9;subst p8 pj;rw[zA,aG]at hp;left;exact k1 hp
def zec(K:A0)(a:Ad):Sp:=λvs H Q E=>∃(v:V)(l:Addr)(xs:Ap)(bs:A1)(rs:At)(p:A6),vs=[v,.ref l]/\Rep H p v (qy a bs rs)/\SqL K H l xs/\rs.length<=100/\(xs.length=(zp .drain rs).length->∀H',Same H H'->Q .non H')/\(xs.length≠(zp .drain rs).length->∀H',Same H H'->E (.ref a.i) none H')
def wu(T:Txt K mg a):Cal P w K mg base "check_one_each" 2 ["work","parts"] [] (zec K a):=T.kP.cal λF=>by
 refine F.okx ZQ ?_ ?_
 .walk_at"i"
 walk_at"k";refine oE6 h λv l xs bs rs p p7=>oA6 p7 λp8 hv hl r100 k1 k2=>?_;clear p7 h;subst p8;refine oE7 (qS hv) λy dx fs l1 l2 bvs pi p7=>oA9 p7 λp8 hy e1 e2 h1 h2 hB hK no=>?_;clear p7;subst p8;walk_at"T";refine⟨_,(zd (zy (zi (wl hr.units1) (zE zC zB (za (pq 1) zb)) (zE zC zB (za (wG ⟨rfl,rfl,rfl⟩ hr (pq 0)) zb)) (zk _))  (zd (qA ⟨rfl,rfl,rfl⟩ rfl (za z9 zb)))  zl)),?_⟩;exists⟨_,.inl ⟨_,hl,rfl⟩,?_⟩;exists iE7 y a.u dx fs _ _ _ (iA5 rfl hy (no _ (by symm) (by symm)) ((jO T).mono) ?_);refine iE4 _ bs rs p (iA4 rfl hv r100 (λq H1 s1 nq hq=>⟨_,.inl ⟨_,SqL.of hq,rfl⟩,?_⟩));rw[zA];refine zF (λz=>⟨a.i,iA3 T.iS T.lF (k2 (λe=>z (by rw[e])) _ s1)⟩) (λz=>k1 (by lia) _ s1)
def Reps.setAt{ds:List D}{d:D}(h:Reps H p vs ds)(q:Rep H p v d):Reps H p (vs.set j v) (ds.set j d):=by
 refine⟨by rw[a7,a7,h.len],λi x y a b=>?_⟩;rw[List.getElem?_set]at a b;by_cases e:j=i
 .rw[aq e]at a b;by_cases g:j<vs.length
  .rw[aq g]at a;rw[aq (h.len ▸ g)]at b;cases a;cases b;exact q
  .rw[ao g]at a;cases a
 .rw[ao e]at a b;exact h.g i x y a b
def zic(K:A0)(a:Ad):Sp:=λvs H Q E=>∃(v:V)(l:Addr)(ps:A7)(bs:A1)(rs:At)(p:A6),vs=[v,.ref l]/\Rep H p v (qy a bs rs)/\SqL K H l (iv ps)/\zV bs rs/\(∀b∈bs,zH b.1 b.2)/\(∀r∈rs,r.ok)/\ps.length<=40 /\
 (ps.length=(zp .drain rs).length->Pcs ps->∀v' H',Same H H'->Rep H' (New H) v' (qy a bs (ju rs ps ps.length))->Q v' H')/\(¬(ps.length=(zp .drain rs).length/\Pcs ps)->∀H',Same H H'->E (.ref a.i) none H')
def zhm{n j:Nat}(h:j<n):ixN n (j:Int)=some j:=by
 unfold ixN;rw[aq (by lia),aq (by lia),aK]
def Kns.setAt{a:Ad}{rs:At}{r:Row}(h:Kns a H p vs rs)(q:KnP a H p v r):Kns a H p (vs.set j v) (rs.set j r):=by
 refine Kns.of ?_;rw[de];exact Reps.setAt h.reps q
def Qm(T:Txt K mg a):Cal P w K mg base "with_paces" 7 ["work","paces"] [] (zic K a):=T.mG.cal λF=>by
 refine F.okx Wl ?_ ?_
 .walk_at"i"
 walk_at"k";refine oE6 h λv l ps bs rs p p7=>oA9 p7 λp8 hv hl wok bo ro p40 k1 k2=>?_;clear p7 h;subst p8;refine oE7 (qS hv) λy dx fs l1 l2 bvs pi p7=>oA9 p7 λp8 hy e1 e2 h1 h2 hB hK no=>?_;clear p7;subst p8;have r24:=wok.1.2.2;have b24:=wok.1.1.2;walk_at"T";refine⟨_,(zh (zw ‹(pq 0) (za (pq 1) zb)›)  (zh (zw ‹(pq 1) zb›)  (zh (zr 2 Wl.nd (jA qY qK (za (zt (pq 0) rfl) zb)))  (zI (z6 qj rfl (zah (za (wG ⟨rfl,rfl,rfl⟩ hr (pq 0)) (za (pq 1) zb))) (j8 (n:=2) rfl (zR (zX 3 Wl.nd) (zR (zX 4 Wl.nd) jn)))  (zd (xr (jT (x:="Drain") ⟨rfl,rfl,rfl⟩ hr (za (zq (zt (zq (pq 2) (pq 3)) rfl) ze) (za (pq 4) zb))) (xX (pq 2) (pq 3) jb))))  (zd (zj (jT (x:="Work") ⟨rfl,rfl,rfl⟩ hr (za (zt (pq 0) rfl) (za (pq 2) zb))))))))),?_⟩;exists uc (wu T).mono (iE6 _ l _ bs rs p (iA6 rfl hv hl (by lia) (λe0 H1 s1=>?_) (λz H1 s1=>k2 (λq=>z (by rw[zA];exact q.1)) _ s1)));rw[zA]at e0;exists uc (Zq T).mono (iE2 l ps (iA4 rfl (w6 s1 hl) (λhp=>?_) (λz=>k2 (λq=>z q.2) _ s1)));have k1:=k1 e0 hp;clear k2;exists ra (s1 _ _ hy) T.gM T.gI e2 ?_;exists iE2 l2 _ (iA3 rfl (.inl (SqL.of (s1 _ _ h2))) (λKL hKL=>?_));have s2:=zc (o:=.lst pi) hKL;have g2:upd H1 KL (.lst pi) KL=some (.lst pi):=pE;generalize upd H1 KL (.lst pi)=H2 at s2 g2 ⊢;have s12:=s1.trans s2;have nKL:H KL=none:=zK s1 hKL;have offK:∀{b:Addr}{o:HO},H b=some o->b∉[KL]:=λ{b o} hb z=>by rw[ak.mp z,nKL]at hb;cases hb
 have hK2:Kns a H2 (Off [KL]) pi rs:=hK.keep λb o _ hb=>⟨offK hb,s12 _ _ hb⟩;exists cut (λσ' H'=>∃v3 v4 kv2,σ'=[some (.ref y),some (.ref l),some (.ref KL),v3,v4]/\Same H H'/\H' KL=some (.lst kv2)/\Kns a H' (Off [KL]) kv2 (ju rs ps ps.length)) ?_ ?_
 .walk_at"c";exists iE7 y a.u dx fs _ _ _ (iA5 rfl (s12 _ _ hy) (no _ (by symm) (by symm)) ((jO T).mono) ?_);refine iE4 _ bs rs p (iA4 rfl (hv.keep (λb o hp hb=>⟨hp,s12 _ _ hb⟩)) (by lia) (λq H3 s3 nq hq=>?_));have s13:=s12.trans s3;have ql:q≠KL:=(pG g2 nq).symm;refine iE6 true true q l _ _ (iA4 rfl (SqL.of hq) (w6 s13 hl) ?_);refine zdJ (K:=K) (xs:=iv (zp .drain rs)) (ys:=iv ps) (λi σ' H'=>∃v3 v4 kv2,σ'=[some (.ref y),some (.ref l),some (.ref KL),v3,v4]/\Same H H'/\H' q=some (.lst (iv (zp .drain rs)))/\H' KL=some (.lst kv2)/\Kns a H' (Off [KL]) kv2 (ju rs ps i))
   ⟨_,_,pi,rfl,s13,hq,s3 _ _ g2,by rw[zck];exact hK2.keep λb o hp hb=>⟨hp,s3 _ _ hb⟩⟩ (λi σ H' _ h=>by let⟨_,_,_,_,s,g,_⟩:=h;exact⟨SqL.of g,w6 s hl⟩) ?_ ?_
  .intro i x z t σ' H4 hi hj ht p9;refine oE3 p9 λv3 v4 kv2 p7=>oA5 p7 λp8 s4 gq gK hK4=>?_;ext;let⟨d,hd,rfl⟩:=xz hi;let⟨pc,hpc,rfl⟩:=xz hj;refine oE2 (zfS hd) λj r p7=>oA4 p7 λp8 hr' hw hc=>?_;clear p7;subst p8;have pb:=hp pc (ah hpc);have hjl:=(aa.mp hr').1;have s5:=zc (o:=.tup [.int j,.int pc]) ht;refine un2 pE ?_;generalize upd H4 t (.tup [.int j,.int pc])=H5 at s5 ⊢;have hK5:=hK4.keep (q:=Off [KL]) λb o hp hb=>⟨hp,s5 _ _ hb⟩;have lk:kv2.length=rs.length:=by rw[hK5.len,x6]
   let⟨kv,hkv⟩:∃kv,kv2[j]?=some kv:=⟨kv2[j]'(by lia),af _⟩;let⟨r2,hr2,hKn⟩:=hK5.at hkv;have e2':r2=r:=by
    rw[x8,hr']at hr2;have:=aT hr2;rw[<- this];unfold Qw;rw[ao (λz=>by lia)]
   subst e2';refine oE6 hKn.inv λy1 dx1 m1 m2 m3 f1 p7=>oA9 p7 λp8 _ _ _ _ hy1 b1 b2 pj=>oA3 pj λ_ g1 _=>?_;clear p7 pj;subst p8;have rk:=ro r2 (ah hr');let⟨wd,ins,outs,pc0,kds⟩:=r2;simp only at hw;subst hw;let⟨⟨x0,o1⟩,o2,_⟩:=rk;simp only at o1 o2;subst o1 o2;left;have gK5:=s5 _ _ gK;refine iE4 a.o _ _ _ ⟨(zaw T).mono,zu (SqL.of gK5) (zJ hkv) (ra hy1 T.gY T.ix b1 (zu (SqL.of g1) at0 ?_))⟩;intro z dz hz hdz hne;refine iE4 z dz (.int x0) pc (iA3 rfl pE ?_);rw[aq pb];intro H6 n1 n2 s6 c1 c2 c3 u1 u2;have s56:=Own.of_new hz hdz s6;refine⟨rfl,?_⟩;have nK:∀{b:Addr},H5 b=none->b∉[KL]:=λ{b} hb w=>by rw[ak.mp w,gK5]at hb;cases hb
   have nw:=XY (p:=Off [KL]) (ins:=[x0]) (outs:=[]) (kinds:=kds) (nK hz) (nK (zL u1)) (nK (zL u2)) c1 c2 c3;refine iE4 KL kv2 _ j (iA5 rfl rfl (s56 _ _ gK5) (zhm (by lia)) ?_);have f7:Fr [KL] H6 (upd H6 KL (.lst (kv2.set j (.ref z)))):=qx (by simp);have hK6:=hK5.keep (q:=Off [KL]) λb o hp hb=>⟨hp,s56 _ _ hb⟩;have hpg:ps.getD i 0=pc:=by simp[List.getD,hpc]
   refine iE3 _ _ (kv2.set j (.ref z)) (iA5 rfl (((s4.trans (s5.trans s56)).fr.trans f7).same (λm hm=>by rw[ak.mp hm];exact nKL)) (f7 _ _ (λw=>ql (ak.mp w)) (s56 _ _ (s5 _ _ gq))) pE ?_);rw[zcl hr' rfl hc,hpg];exact(Kns.setAt hK6 nw).keep λb o hp hb=>⟨hp,f7 _ _ hp hb⟩
  .intro σ' H4 p9;refine oE3 p9 λv3 v4 kv2 p7=>oA5 p7 λp8 s4 gq gK hK4=>?_;ext;rw[zA,<- e0,zA,fD]at hK4;exact iE3 _ _ kv2 (iA4 rfl s4 gK hK4)
 intro σ' H3 p9;refine oE3 p9 λv3 v4 kv2 p7=>oA4 p7 λp8 s3 g3 hK3=>?_;ext;left;have wok2:zV bs (ju rs ps ps.length):=wx wok;have ro2:=ZJ ro hp (ar _);have h13:=s3 _ _ h1;refine iE4 a.u _ _ _ ⟨(zf8 T).mono,iE5 y a.u dx fs _ (iA6 rfl (s3 _ _ hy) T.gM T.hZ e1 ?_)⟩;intro z dz hz hdz hne;refine⟨z,dz,l1,KL,bvs,kv2,bs,ju rs ps ps.length,λb=>b≠z,rfl,pE,pG h13 hz,pG g3 hz,λ_ h=>h,qf hz hdz h13,qf hz hdz g3,
  hB.keep λb o _ hb=>⟨pG (s3 _ _ hb) hz,qf hz hdz (s3 _ _ hb)⟩,hK3.keep λb o _ hb=>⟨pG hb hz,qf hz hdz hb⟩,bo,ro2,by rw[wok2.2.1.length_eq,Z5];lia,by rw[wok2.2.2.length_eq,Z5];lia,by lia,λ_ H6 m1 m2 bv kv o4 c0 c1 c2 gB gK n1 n2=>⟨rfl,?_⟩,λw=>absurd wok2 w⟩
 have nw:∀{b:Addr}{o p:HO},upd (upd H3 dz o) z p b=none->H b=none:=λh=>zK s3 (zL h);refine k1 _ _ (s3.trans (Own.of_new hz hdz o4)) ?_;rw[zhK]at c0;exact xU (zK s3 hz) c0 rfl (.cons ((gB.reps.keep λb o hp hb=>⟨nw hp,hb⟩).mk' (p:=New H) (nw n1) c1) (.cons ((gK.reps.keep λb o hp hb=>⟨nw hp,hb⟩).mk' (p:=New H) (nw n2) c2) .nil))
abbrev bg:Int:=1000000
def zdY{i j:Int}(h1:0<=i)(h2:i<bg)(_:0<=j)(_:j<bg):MulOk i j:=by
 unfold bg at h2;exact mul_okL (by lia) (by lia)
def Rt(H:Hp)(v:V)(x:Int×Int):Prop:=∃p,v=.ref p/\H p=some (.tup [.int x.1,.int x.2])/\0<=x.1/\x.1<bg/\0<=x.2/\x.2<bg
def Rt.same{H H':Hp}{x:Int×Int}(h:Rt H v x)(s:Same H H'):Rt H' v x:=let⟨p,e,h1,r⟩:=h;⟨p,e,s _ _ h1,r⟩
def vH(x y:Int×Int):Bool:=decide (x.1*y.2<y.1*x.2)
def wV(p:Int):Int×Int:=if p=0 then(0,1)else(1,p)
def fJ(x:Int×Int):List (Int×Int)->Nat->Option Nat
 |[],_=>none
 |y::r,k=>if vH x y=true then some k else fJ x r (k+1)
def fI(ts:A1):List (Int×(Int×Int))->Nat->Option (Nat×Nat)
 |[],_=>none
 |z::r,i=>if vH z.2 (wV z.1)=true then(match fJ z.2 ts 0 with|some j=>some (i,j)|none=>fI ts r (i+1))else fI ts r (i+1)
def zfd:Sp:=λvs H Q _=>∃(v u:V)(x y:Int×Int),vs=[v,u]/\Rt H v x/\Rt H u y/\Q (.bl (vH x y)) H
def Qo(T:Txt K mg a):Cal P w K mg base "ratio_less" 1 ["one","other"] [] zfd:=T.mB.cal λF=>by
 refine F.okx Wo ?_ ?_
 .walk_at"i"
 walk_at"k";refine oE4 h λv u x y p7=>oA4 p7 λp8 pj pC k=>?_;clear p7 h;subst p8;let⟨p,rfl,hp,x1,x2,x3,x4⟩:=pj;let⟨q,rfl,hq,y1,y2,y3,y4⟩:=pC;walk_at"T";refine⟨_,(zd (zj (xI zhZ (zo qV (zq (pq 0) ze) (zq (pq 1) ze)) (zo qV (zq (pq 1) ze) (zq (pq 0) ze)) (zk _)))),?_⟩;exists pI hp rfl (pI hq rfl ?_);exists And.intro (zdY x1 x2 y3 y4) (pI hq rfl (pI hp rfl ?_));left;exact And.intro (zdY y1 y2 x3 x4) k
def zb9(T:Txt K mg a):Cal P w K mg base "_law_less" 1 ["_law_one","_law_other"] [] zfd:=T.oK.cal λF=>by
 refine F.okx zek ?_ ?_
 .walk_at"i"
 walk_at"k";refine oE4 h λv u x y p7=>oA4 p7 λp8 pj pC k=>?_;clear p7 h;subst p8;let⟨p,rfl,hp,x1,x2,x3,x4⟩:=pj;let⟨q,rfl,hq,y1,y2,y3,y4⟩:=pC;walk_at"T";refine⟨_,(zd (zj (xI zhZ (zo qV (zq (pq 0) ze) (zq (pq 1) ze)) (zo qV (zq (pq 1) ze) (zq (pq 0) ze)) (zk _)))),?_⟩;exists pI hp rfl (pI hq rfl ?_);exists And.intro (zdY x1 x2 y3 y4) (pI hq rfl (pI hp rfl ?_));left;exact And.intro (zdY y1 y2 x3 x4) k
def zif:Sp:=λvs H Q _=>∃p:Int,vs=[.int p]/\0<=p/\p<=4/\∀v H',Same H H'->Rt H' v (wV p)->Q v H'
def zaJ(T:Txt K mg a):Cal P w K mg base "most_taken" 1 ["pace"] [] zif:=T.mH.cal λF=>by
 refine F.okx Wp ?_ ?_
 .walk_at"i"
 walk_at"k";refine oE1 h λp p7=>oA4 p7 λp8 p0 p4 k=>?_;clear p7 h;subst p8;walk_at"T";refine⟨_,(zd (zj (xu (zi (qd hr.units1) (pq 0) ze (zk _)) (zT (za ze (za ze zb))) (zT (za ze (za (pq 0) zb)))))),?_⟩;left;unfold wV at k;refine zF (λh=>?_) (λh=>?_)
 .rw[aq h]at k;left;intro q hq;exact k _ _ (zc hq) ⟨q,iA6 rfl pE (by decide) (by decide) (by decide) (by decide)⟩
 .rw[ao h]at k;left;intro q hq;exact k _ _ (zc hq) ⟨q,iA6 rfl pE (by show(0:Int)<=1;decide) (by show(1:Int)<bg;decide) p0 (by unfold bg;show p<_;lia)⟩
structure Two(H:Hp)(pl tl:Addr)(zs:List (Int×(Int×Int)))(vs:Ap):Prop where
 p:H pl=some (.lst ((zs.map (·.1)).map V.int))
 t:H tl=some (.lst vs)
 len:vs.length=zs.length
 r:∀(j:Nat)(v:V)(z:Int×(Int×Int)),vs[j]?=some v->zs[j]?=some z->Rt H v z.2
 b:∀z∈zs,0<=z.1/\z.1<=4
def Two.same{H H':Hp}{pl tl:Addr}{zs:List (Int×(Int×Int))}(h:Two H pl tl zs vs)(s:Same H H'):Two H' pl tl zs vs:=⟨s _ _ h.p,s _ _ h.t,h.len,λj v z e1 e2=>(h.r j v z e1 e2).same s,h.b⟩
def prT(r:Option (Nat×Nat)):Option Ap:=r.map λ(q:Nat×Nat)=>[.int q.1,.int q.2]
def ze9(K:A0):Sp:=λvs H Q _=>∃(pl tl:Addr)(zs:List (Int×(Int×Int)))(us:Ap),vs=[.ref pl,.ref tl]/\Two H pl tl zs us/\zs.length<=100/\∀v H',Same H H'->Told H' v (prT (fI (zs.map (·.2)) zs 0))->Q v H'
def zdL{x:Int×Int}{ts:A1}{y:Int×Int}(h:ts[j]?=some y):fJ x (ts.drop j) j=if vH x y=true then some j else fJ x (ts.drop (j+1)) (j+1):=by
 have hlt:=(aa.mp h).1;rw[cu hlt,fJ,show ts[j]=y from(aa.mp h).2]
def zdM{ts:A1}{zs:List (Int×(Int×Int))}{z:Int×(Int×Int)}(h:zs[i]?=some z):fI ts (zs.drop i) i=if vH z.2 (wV z.1)=true then(match fJ z.2 ts 0 with|some j=>some (i,j)|none=>fI ts (zs.drop (i+1)) (i+1))else fI ts (zs.drop (i+1)) (i+1):=by
 have hlt:=(aa.mp h).1;rw[cu hlt,fI,show zs[i]=z from(aa.mp h).2]
theorem WJ(T:Txt K mg a):Cal P w K mg base "uneven_pair" 2 ["paces","taken"] [] (ze9 K):=T.me.cal λF=>by
 refine F.okx Xi ?_ ?_
 .walk_at"i"
 walk_at"k";refine oE4 h λpl tl zs us p7=>oA4 p7 λp8 hT hz k=>?_;clear p7 h;subst p8;walk_at"T";refine⟨_,(zI (z6 qj rfl (jh (za (pq 1) zb)) (j8 (n:=2) rfl (zR (zX 2 Xi.nd) (zR (zX 3 Xi.nd) jn)))  (zg (zy (qw (zY ‹(pq 3) (za ‹(zq (pq 0) (pq 2)) zb› zb)› (λ_=>rfl)))  (zd zbr)  zl)  (zd (z6 qj rfl (jh (za (pq 1) zb)) (j8 (n:=2) rfl (zR (zX 4 Xi.nd) (zR (zX 5 Xi.nd) jn)))  (zd (zy (zY ‹(pq 3) (za (pq 5) zb)› (λ_=>rfl))  (zd (zj (zT (za (pq 2) (za (pq 4) zb)))))  zl))))))  (zd (zj zG))),?_⟩;refine cut (λσ' H'=>Same H H'/\fI (zs.map (·.2)) zs 0=none) ?_ ?_
 .walk_at"c";exists iE2 tl _ (iA3 rfl hT.t ?_);refine Vw (K:=K) (a:=tl) (xs:=us) (λi σ H'=>∃v2 v3 v4 v5,σ=[some (.ref pl),some (.ref tl),v2,v3,v4,v5]/\Same H H'/\fI (zs.map (·.2)) zs 0=fI (zs.map (·.2)) (zs.drop i) i) (iE4 _ _ _ _ (iA3 rfl (Same.refl _) (by simp))) (λi σ H' _ ⟨_,_,_,_,_,s,_⟩=>SqL.of (s _ _ hT.t)) ?_ ?_
  .intro i x t σ H1 hi ht p9;refine oE4 p9 λv2 v3 v4 v5 p7=>oA3 p7 λp8 s1 e0=>?_;ext;have hlt:i<zs.length:=by rw[<- hT.len];exact(aa.mp hi).1
   have hzi:zs[i]?=some zs[i]:=af hlt;generalize zs[i]=z at hzi;have hzb:=hT.b z (ah hzi);rw[zdM hzi]at e0;have s2:=s1.trans (zc (o:=.tup [.int i,x]) ht);refine un2 pE ?_;generalize upd H1 t (.tup [.int i,x])=H2 at s2 ⊢;have hx:=(hT.r i x z hi hzi).same s2;left;have hpi:atI ((zs.map (·.1)).map V.int) (i:Int)=some (.int z.1):=zJ (by rw[ai,ai,hzi];rfl);refine iE3 _ _ _ ⟨Qo T,iE3 _ _ _ ⟨zaJ T,zu (SqL.of (s2 _ _ hT.p)) hpi ⟨z.1,iA4 rfl hzb.1 hzb.2 (λmv H3 s3 hm=>?_)⟩⟩⟩;have s3':=s2.trans s3;refine iE4 x mv z.2 (wV z.1) (iA4 rfl (hx.same s3) hm ?_);left;cases hl:vH z.2 (wV z.1)with
   |false =>
    rw[hl,ao (by decide)]at e0;left;exact iE4 _ _ _ _ (iA3 rfl s3' e0)
   |true =>
    rw[hl,aq rfl]at e0;left;walk_at"c";exists iE2 tl _ (iA3 rfl (s3' _ _ hT.t) ?_);refine Vw (K:=K) (a:=tl) (xs:=us) (λj σ H'=>∃v4 v5,σ=[some (.ref pl),some (.ref tl),some (.int i),some x,v4,v5]/\Same H H'/\fJ z.2 (zs.map (·.2)) 0=fJ z.2 ((zs.map (·.2)).drop j) j) (iE2 _ _ (iA3 rfl s3' (by simp))) (λj σ H' _ ⟨_,_,_,s,_⟩=>SqL.of (s _ _ hT.t)) ?_ ?_
    .intro j y t2 σ H4 hj ht2 p9;refine oE2 p9 λw4 w5 p7=>oA3 p7 λp8 s4 e1=>?_;ext;have hlj:j<zs.length:=by rw[<- hT.len];exact(aa.mp hj).1
     have hzj:zs[j]?=some zs[j]:=af hlj;generalize zs[j]=z' at hzj;rw[zdL (y:=z'.2) (by rw[ai,hzj];rfl)]at e1;have s5:=s4.trans (zc (o:=.tup [.int j,y]) ht2);refine un2 pE ?_;generalize upd H4 t2 (.tup [.int j,y])=H5 at s5 ⊢;exists iE3 _ _ _ ⟨Qo T,⟨x,y,z.2,z'.2,rfl,(hT.r i x z hi hzi).same s5,(hT.r j y z' hj hzj).same s5,?_⟩⟩;left;cases hl2:vH z.2 z'.2 with
     |true =>
      rw[hl2,aq rfl]at e1;rw[e1]at e0;left;intro q hq;refine k _ _ (s5.trans (zc hq)) ?_;rw[e0];exact⟨q,rfl,pE⟩
     |false =>
      rw[hl2,ao (by decide)]at e1;left;exact iE2 _ _ (iA3 rfl s5 e1)
    .intro σ H4 p9;refine oE2 p9 λw4 w5 p7=>oA3 p7 λp8 s4 e1=>?_;ext;have e2:fJ z.2 (zs.map (·.2)) 0=none:=by rw[e1,hT.len,fF (by simp)];rfl
     rw[e2]at e0;exact iE4 _ _ _ _ (iA3 rfl s4 e0)
  .intro σ H1 p9;refine oE4 p9 λv2 v3 v4 v5 p7=>oA3 p7 λp8 s1 e0=>?_;ext;refine⟨s1,?_⟩;rw[e0,hT.len,dD];rfl
 .rintro σ' H1 ⟨s1,e0⟩;exists k _ _ s1 ?_;rw[e0];rfl
structure LL(H:Hp)(as:Ac)(xss:List A7):Prop where
 len:as.length=xss.length
 r:∀(i:Nat)(b:Addr)(xs:A7),as[i]?=some b->xss[i]?=some xs->H b=some (.lst (xs.map V.int))
def LL.nil:LL H [] []:=⟨rfl,λi b xs h=>by simp at h⟩
def LL.keep{H H':Hp}{xss:List A7}(h:LL H as xss)(s:∀b∈as,∀o,H b=some o->H' b=some o):LL H' as xss :=
 ⟨h.len,λi b xs e1 e2=>s b (ah e1) _ (h.r i b xs e1 e2)⟩
def LL.same{H H':Hp}{xss:List A7}(h:LL H as xss)(s:Same H H'):LL H' as xss:=h.keep λb _ o=>s b o
def LL.put{xss:List A7}{p:Addr}(h:LL H as xss)(n:∀b∈as,b≠p):LL (upd H p o) as xss :=
 h.keep λb hb o' e=>by rw[pF (n b hb)];exact e
def LL.append{as bs:Ac}{xss yss:List A7}(h:LL H as xss)(g:LL H bs yss):LL H (as++bs) (xss++yss):=by
 refine⟨by rw[av,av,h.len,g.len],λi b xs e1 e2=>?_⟩;by_cases hi:i<as.length
 .rw[aS hi]at e1;rw[aS (by rw[<- h.len];exact hi)]at e2;exact h.r i b xs e1 e2
 .rw[aM (by lia)]at e1;rw[aM (by rw[<- h.len];lia),<- h.len]at e2;exact g.r _ b xs e1 e2
def LL.has{xss:List A7}(h:LL H as xss)(hb:b∈as):∃xs,xs∈xss/\H b=some (.lst (xs.map V.int)):=by
 let⟨i,hi,e⟩:=List.getElem_of_mem hb;have e1:as[i]?=some b:=by rw[af hi,e]
 have e2:xss[i]?=some (xss[i]'(by rw[<- h.len];exact hi)):=af _;exact⟨_,ah e2,h.r i b _ e1 e2⟩
def LL.at{xss:List A7}(h:LL H as xss)(hb:as[i]?=some b):∃xs,xss[i]?=some xs/\H b=some (.lst (xs.map V.int)):=by
 have hi:=(aa.mp hb).1;have e2:xss[i]?=some (xss[i]'(by rw[<- h.len];exact hi)):=af _;exact⟨_,e2,h.r i b _ hb e2⟩
def LL.one{xs:A7}(h:H b=some (.lst (xs.map V.int))):LL H [b] [xs] :=
 ⟨rfl,λi c ys e1 e2=>by
  have hi:=(aa.mp e1).1;have:i=0:=by simp at hi;lia
  subst this;have e1:b=c:=by simpa using e1
  have e2:xs=ys:=by simpa using e2
  rw[<- e1,<- e2];exact h⟩
structure Grow(B H:Hp)(p:Addr)(as:Ac)(xss:List A7):Prop where
 nb:B p=none
 sm:Same B H
 hp:H p=some (.lst (as.map V.ref))
 ll:LL H as xss
 fr:∀b∈as,B b=none/\b≠p
def qk{B H:Hp}{p:Addr}(s:Same B H)(h:H p=none):B p=none:=by
 cases e:B p with
 |none=>rfl
 |some o=>rw[s _ _ e]at h;cases h
def Grow.new{B:Hp}{p:Addr}(h:B p=none):Grow B (upd B p (.lst [])) p [] []:=⟨h,zc h,pE,.nil,λ_ h=>nomatch h⟩
def Grow.same{B H H':Hp}{p:Addr}{xss:List A7}(g:Grow B H p as xss)(s:Same H H'):Grow B H' p as xss:=⟨g.nb,g.sm.trans s,s _ _ g.hp,g.ll.same s,g.fr⟩
def Grow.older{B B' H:Hp}{p:Addr}{xss:List A7}(g:Grow B H p as xss)(s:Same B' B):Grow B' H p as xss:=⟨qk s g.nb,s.trans g.sm,g.hp,g.ll,λb hb=>⟨qk s (g.fr b hb).1,(g.fr b hb).2⟩⟩
def Grow.more{B H:Hp}{p:Addr}{as bs:Ac}{xss yss:List A7}(g:Grow B H p as xss)(h:LL H bs yss)(hf:∀b∈bs,B b=none/\b≠p):Grow B (upd H p (.lst (as.map V.ref++bs.map V.ref))) p (as++bs) (xss++yss):=by
 have hf':∀b∈as++bs,B b=none/\b≠p:=λb hb=>(ax.mp hb).elim (g.fr b) (hf b);refine⟨g.nb,λb o hb=>?_,by rw[pE,aZ],(g.ll.append h).put λb hb=>(hf' b hb).2,hf'⟩;rw[pF (pG hb g.nb)];exact g.sm b o hb
def Grow.push{B H:Hp}{p b:Addr}{xss:List A7}{xs:A7}(g:Grow B H p as xss)(h:H b=some (.lst (xs.map V.int)))(hf:B b=none)(hn:b≠p):Grow B (upd H p (.lst (as.map V.ref++[V.ref b]))) p (as++[b]) (xss++[xs]) :=
 g.more (.one h) λc hc=>by rw[ak.mp hc];exact⟨hf,hn⟩
def qP(ph:List A7)(m:A7):List A7:=ph.flatMap λs=>m.map λn=>s++[n]
def qh(ms:List A7):List A7:=ms.foldl qP [[]]
def zU(ms:List A7):Nat:=ms.foldl (λp m=>p*m.length) 1
def Qy(ph:List A7)(m:A7):(qP ph m).length=ph.length*m.length:=by
 induction ph with
 |nil=>simp[qP]
 |cons x ph ih =>
  have e:qP (x::ph) m=(m.map λn=>x++[n])++qP ph m:=by simp[qP]
  rw[e,av,ih,ae,br,d9,fE]
def Xe(ms:List A7)(m:A7):qh (ms++[m])=qP (qh ms) m:=by simp[qh,foldl_append]
def jG(ms:List A7)(m:A7):zU (ms++[m])=zU ms*m.length:=by simp[zU,foldl_append]
def qz{α:Type}{xs:List α}{x:α}(h:xs[i]?=some x):xs.take (i+1)=xs.take i++[x]:=by rw[aO,h];rfl
def zgm(ms:List A7):∀ph,(ms.foldl qP ph).length=ms.foldl (λp m=>p*m.length) ph.length:=by
 induction ms with
 |nil=>intro ph;rfl
 |cons m ms ih=>intro ph;rw[cU,cU,ih,Qy]
def QC(ms:List A7):(qh ms).length=zU ms:=zgm ms [[]]
def Vf(ms:List A7):∀p:Nat,ms.foldl (λp m=>p*m.length) p=p*zU ms:=by
 unfold zU
 induction ms with
 |nil=>intro p;simp
 |cons m ms ih=>intro p;rw[cU,cU,ih,ih (1*m.length),Nat.one_mul,Nat.mul_assoc]
def Xy{ms:List A7}(h:zU ms≠0):zU (ms.take i)<=zU ms:=by
 have e:zU ms=zU (ms.take i)*zU (ms.drop i):=by
  have:=Vf (ms.drop i) (zU (ms.take i));rw[<- this]
  conv=>lhs;rw[<- eR i ms]
  unfold zU;rw[foldl_append]
 have h2:zU (ms.drop i)≠0:=λz=>h (by rw[e,z,Nat.mul_zero]);rw[e];exact fv _ (by lia)
def wy{ms:List A7}(h:s∈qh ms):s.length=ms.length:=by
 have key:∀(ms ph:List A7)(n:Nat),(∀t∈ph,t.length=n)->∀s∈ms.foldl qP ph,s.length=n+ms.length:=by
  intro ms
  induction ms with
  |nil=>intro ph n h s hs;exact h s hs
  |cons m ms ih =>
   intro ph n h s hs;rw[cU]at hs;rw[ih (qP ph m) (n+1) (λt ht=>?_) s hs,br];lia;unfold qP at ht;let⟨u,hu,ht⟩:=dn.mp ht;let⟨x,_,rfl⟩:=bb.mp ht;rw[av,h u hu];rfl
 have:=key ms [[]] 0 (λt ht=>by rw[ak.mp ht];rfl) s h
 lia
def zgU(K:A0):Sp:=λvs H Q _=>∃(l:Addr)(as:Ac)(xss:List A7),vs=[.ref l]/\SqL K H l (as.map V.ref)/\LL H as xss/\(∀xs∈xss,xs.length<=1000)/\Q (.int (zU xss)) H
def QY(T:Txt K mg a):Cal P w K mg base "count_settings" 1 ["menus"] [] (zgU K):=T.kR.cal λF=>by
 refine F.okx ZP ?_ ?_
 .walk_at"i"
 walk_at"k";refine oE3 h λl as xss p7=>oA5 p7 λp8 hl hL hb k=>?_;clear p7 h;subst p8;walk_at"T";refine⟨_,(zg (zr 1 ZP.nd ze)  (zg (z6 qj rfl (zN (pq 0)) (zX 2 ZP.nd)  (zd (zr 1 ZP.nd (zo qV (pq 1) (zE zC zB (za (pq 2) zb))))))  (zd (zj (pq 1))))),?_⟩;left;walk_at"c";exists⟨l,rfl,.inl ⟨⟨_,hl⟩,?_⟩⟩;refine qb (K:=K) (a:=l) (xs:=as.map V.ref) (λi σ H'=>∃v2,σ=[some (.ref l),some (.int (zU (xss.take i))),v2]/\H'=H) ⟨_,rfl,rfl⟩ (λi σ H' _ ⟨_,_,e⟩=>e ▸ hl) ?_ ?_
 .rintro i x σ H' hi ⟨v2,rfl,rfl⟩;rw[ai,am]at hi;let⟨b,hi,rfl⟩:=hi;let⟨xs,e2,hx⟩:=hL.at hi;have hlen:=hb xs (ah e2);exists⟨_,.inl ⟨_,SqL.of hx,rfl⟩,?_⟩;left;rw[ae];refine⟨mul_okR (by lia) (by lia),some (.ref b),?_⟩
  first|(refine⟨?_,rfl⟩;rw[qz e2,jG];push_cast;rfl)|(rw[qz e2,jG];push_cast;rfl)
 .rintro σ H' ⟨v2,rfl,rfl⟩;left;rw[ae,hL.len,aG];exact k
def zfc:Sp:=λvs H Q _=>∃(sl ml:Addr)(ss:Ac)(sss:List A7)(m:A7),vs=[.ref sl,.ref ml]/\H sl=some (.lst (ss.map V.ref))/\LL H ss sss/\H ml=some (.lst (m.map V.int)) /\
 sss.length*m.length<=900/\m.length<=900/\(∀s∈sss,s.length<=900)/\∀p as' H',Grow H H' p as' (qP sss m)->Q (.ref p) H'
def Qp(T:Txt K mg a):Cal P w K mg base "longer_settings" 1 ["settings","menu"] [] zfc:=T.kG.cal λF=>by
 refine F.okx Zu ?_ ?_
 .walk_at"i"
 walk_at"k";refine oE5 h λsl ml ss sss m p7=>oA8 p7 λp8 hs hL hm hb1 hb2 hb3 k=>?_;clear p7 h;subst p8;walk_at"T";refine⟨_,(zg (zr 2 Zu.nd (zn zb))  (zg (z6 qj rfl (zN (pq 0)) (Z8 (i:=3) Zu.nd rfl (Or.inr rfl))  (zd (zw (qH ap b5 bZ wm (pq 2) (za (jk (vars:=["number"]) (caps:=[3]) (N:=["number","setting"]) (ON:=["settings","menu","longer","setting"]) (osc:=zf jw) rfl rfl (by right) rfl rfl (zN (pq 1)) (λ_ _ _ _=>(zX 0 (show(["number","setting"]:A9).Nodup from by symm))) (λ_ _ _ _=>z8) (λ_ _ _ _=>(zo zM (pq 1) (zn (za (pq 0) zb))))) zb)))))  (zd (zj (pq 2))))),?_⟩;left;intro p hp;walk_at"c";left;have g0:=Grow.new hp;refine⟨sl,rfl,.inl ⟨⟨_,SqL.of (g0.sm _ _ hs)⟩,?_⟩⟩;refine qb (K:=K) (a:=sl) (xs:=ss.map V.ref) (λi σ H'=>∃v3 as',σ=[some (.ref sl),some (.ref ml),some (.ref p),v3]/\Grow H H' p as' (qP (sss.take i) m)) (iE2 _ _ ⟨rfl,g0⟩) (λi σ H' _ ⟨_,_,_,g⟩=>SqL.of (g.sm _ _ hs)) ?_ ?_
 .intro i x σ H1 hi p9;refine oE2 p9 λv3 as' p7=>oA2 p7 λp8 g=>?_;ext;rw[ai,am]at hi;let⟨b,hi,rfl⟩:=hi;let⟨xs,e2,hx⟩:=(hL.same g.sm).at hi;have hlen:=hb3 xs (ah e2);have hil:i<sss.length:=(aa.mp e2).1;left;walk_at"d";exists⟨.inl ⟨rfl,_,SqL.of g.hp⟩,⟨ml,⟨rfl,.inl ⟨⟨_,SqL.of (g.sm _ _ hm)⟩,λ_ _ _ _ ph hacc=>?_⟩⟩⟩⟩;have g1:=Grow.new hacc;refine qb (K:=K) (a:=ml) (xs:=m.map V.int) (λj σ H'=>∃v bs,σ=[v,some (.ref b)]/\Grow H1 H' ph bs ((m.take j).map λn=>xs++[n])) (iE2 _ _ ⟨rfl,g1⟩) (λj σ H' _ ⟨_,_,_,g'⟩=>SqL.of (g'.sm _ _ (g.sm _ _ hm))) ?_ ?_
  .intro j y σ H2 hj p9;refine oE2 p9 λv bs p7=>oA2 p7 λp8 g2=>?_;ext;have hjl:j<m.length:=by simpa using(aa.mp hj).1
   rw[ai,am]at hj;let⟨n,hj,rfl⟩:=hj;left;intro q hq;have s3:=zc (o:=.lst [.int n]) hq;refine jN (SqL.of (s3 _ _ (g2.sm _ _ hx))) (SqL.of pE) (by rw[ae];exact qN (by simp;lia)) (λr hr'=>?_);have s4:=s3.trans (zc (o:=.lst (xs.map V.int++[.int n])) hr');have g3:=g2.same s4;have hrn:H1 r=none:=qk (g2.sm.trans s3) hr';have hrne:r≠ph:=λz=>by
    have:=s3 _ _ g2.hp;rw[<- z,hr']at this;cases this
   refine⟨_,iA3 g3.hp (by rw[ae,g3.ll.len,ae,aE];exact zm (by lia)) ?_⟩;refine iE2 _ (bs++[r]) ⟨rfl,?_⟩;rw[qz hj,aZ];exact g3.push (xs:=xs++[n]) (by rw[pE,aZ];rfl) hrn hrne
  .intro σ H2 p9;refine oE2 p9 λv bs p7=>oA2 p7 λp8 g2=>?_;ext;rw[ae,aG]at g2;have g3:=g.same g2.sm;left;have hlen2:(qP (sss.take i) m).length+(m.map λn=>xs++[n]).length<=1000:=by
    rw[Qy,ae,aE,<- d9,dF (by lia)];have:=fU m.length (show i.succ<=sss.length from hil)
    lia
   refine iE4 p ph _ _ (iA6 rfl rfl g3.hp g2.hp (by rw[ae,ae,g3.ll.len,g2.ll.len];exact qN hlen2) ?_);refine iE2 _ (as'++bs) ⟨rfl,?_⟩;rw[qz e2];have e3:qP (sss.take i++[xs]) m=qP (sss.take i) m++m.map λn=>xs++[n]:=by simp[qP]
   rw[e3];refine g3.more g2.ll λc hc=>⟨qk g.sm (g2.fr c hc).1,λz=>?_⟩;have:=(g2.fr c hc).1;rw[z,g.hp]at this;cases this
 .intro σ H1 p9;refine oE2 p9 λv3 as' p7=>oA2 p7 λp8 g=>?_;ext;rw[ae,hL.len,aG]at g;left;exact k p as' H1 g
def zcm(K:A0)(a:Ad):Sp:=λvs H Q E=>∃(l:Addr)(as:Ac)(xss:List A7),vs=[.ref l]/\H l=some (.lst (as.map V.ref))/\LL H as xss/\(∀xs∈xss,xs.length<=900)/\xss.length<=900 /\
 (81<zU xss->E (.ref a.j) none H)/\(zU xss<=81->∀p bs H',Grow H H' p bs (qh xss)->Q (.ref p) H')
def WK(T:Txt K mg a):Cal P w K mg base "settings_of" 2 ["menus"] [] (zcm K a):=T.mf.cal λF=>by
 refine F.okx Xj ?_ ?_
 .walk_at"i"
 walk_at"k";refine oE3 h λl as xss p7=>oA7 p7 λp8 hl hL hb hb2 kE kQ=>?_;clear p7 h;subst p8;walk_at"T";refine⟨_,(zg (zr 1 Xj.nd ‹(pq 0) zb›)  (zg (zy (zi xv (pq 1) jc (zk _))  (zd (qA ⟨rfl,rfl,rfl⟩ rfl (za z9 zb)))  zl)  (zg (zy (zi (qd hr.units1) (pq 1) ze (zk _))  (zd (zj (zn zb)))  zl)  (zg (zr 2 Xj.nd (zn (za (zn zb) zb)))  (zg (z6 qj rfl (zN (pq 0)) (zX 3 Xj.nd)  (zd (zr 2 Xj.nd ‹(pq 2) (za (pq 3) zb)›)))  (zd (zj (pq 2)))))))),?_⟩;left;let⟨t1,g1⟩:=T.lE;refine uc (QY T).mono (iE3 l as xss (iA5 rfl (SqL.of hl) hL (λxs h=>by have:=hb xs h;lia) ?_));exists iE2 (.int 81) _ (iA3 g1 ⟨_,rfl⟩ ?_);exists zF (λh1=>?_) (λh1=>?_)
 .exact⟨a.j,iA3 T.l6 T.oG (kE (by lia))⟩
 have h1:zU xss<=81:=by lia
 have kQ:=kQ h1;exists zF (λh2=>?_) (λh2=>?_)
 .left;intro p hp;have e:qh xss=[]:=by
   rw[<- b9,QC];lia
  rw[e]at kQ;exact kQ p [] _ (Grow.new hp)
 have h2:zU xss≠0:=by lia
 left;intro q hq p hp;have hpq:q≠p:=pG pE hp;have g0:Grow H (upd (upd H q (.lst [])) p (.lst [.ref q])) p [q] [[]]:=by
  have g:=(Grow.new (qk (zc hq) hp)).older (Same.refl H);refine⟨qk (zc hq) hp,(zc hq).trans (zc hp),pE,.one (pH pE hp),λb hb=>?_⟩;rw[ak.mp hb];exact⟨hq,hpq⟩
 generalize upd (upd H q (.lst [])) p (.lst [.ref q])=H1 at g0 ⊢;left;walk_at"c";refine⟨l,rfl,.inl ⟨⟨_,SqL.of (g0.sm _ _ hl)⟩,?_⟩⟩;refine qb (K:=K) (a:=l) (xs:=as.map V.ref) (λi σ H'=>∃p bs v3,σ=[some (.ref l),some (.int (zU xss)),some (.ref p),v3]/\Grow H H' p bs (qh (xss.take i))) (iE3 _ _ _ ⟨rfl,g0⟩) (λi σ H' _ ⟨_,_,_,_,g⟩=>SqL.of (g.sm _ _ hl)) ?_ ?_
 .intro i x σ H2 hi p9;refine oE3 p9 λp bs v3 p7=>oA2 p7 λp8 g=>?_;ext;rw[ai,am]at hi;let⟨b,hi,rfl⟩:=hi;let⟨xs,e2,hx⟩:=(hL.same g.sm).at hi;have hlen:=hb xs (ah e2);have hlt:i<xss.length:=(aa.mp e2).1;exists uc (Qp T).mono (iE5 p b bs (qh (xss.take i)) xs (iA8 rfl g.hp g.ll hx ?_ hlen (λs hs=>?_) (λp' as' H3 g3=>?_)))
  .rw[QC,<- jG,<- qz e2];have:=Xy (i:=i+1) h2
   lia
  .rw[wy hs,aE];lia
  .exists iE3 p' as' _ ⟨rfl,?_⟩;rw[qz e2,Xe];exact g3.older g.sm
 .intro σ H2 p9;refine oE3 p9 λp bs v3 p7=>oA2 p7 λp8 g=>?_;ext;rw[ae,hL.len,aG]at g;left;exact kQ p bs H2 g
def zfs{rs:At}(wok:zV bs rs)(bo:∀b∈bs,zH b.1 b.2)(ro:∀r∈rs,r.ok)(i j:Nat):(jS bs rs i j).length=rs.length/\∀(k:Nat) r g,rs[k]?=some r->(jS bs rs i j)[k]?=some g->g.length=(qW r).length:=by
 have w0:=qT wok bo ro i;have w1:=qT wok bo ro j;refine⟨by unfold jS xA;rw[fM,w0.go.1,w1.go.1,fD],λk r g hr hg=>?_⟩;have hk:=(aa.mp hr).1;have a0:=af (l:=(qm bs rs i).gone) (i:=k) (by rw[w0.go.1];exact hk);have a1:=af (l:=(qm bs rs j).gone) (i:=k) (by rw[w1.go.1];exact hk);unfold jS xA at hg;rw[eU,a0,a1]at hg;cases hg;unfold wn;rw[ae,length_range];exact(w0.go.2 k r _ hr a0).1
def zhx{r:Row}(ok:r.ok):0<(qW r).length:=by
 have:1<=r.ins.length\/1<=r.outs.length:=by
  let⟨wd,ins,outs,pc,kd⟩:=r;cases wd
  .obtain⟨_,⟨o,q⟩,_⟩:=ok;simp only at q;subst q;simp
  .obtain⟨⟨o,q⟩,_⟩:=ok;simp only at q;subst q;simp
  .obtain⟨⟨o,q⟩,_⟩:=ok;simp only at q;subst q;simp
  .obtain⟨⟨o,q⟩,_⟩:=ok;simp only at q;subst q;simp
  .obtain⟨⟨o,q⟩,_⟩:=ok;simp only at q;subst q;simp
  .obtain⟨⟨o,q⟩,_⟩:=ok;simp only at q;subst q;simp
 unfold qW;rw[bx]
 lia
def zhA(g:A7)(j p:Nat):(JJ g j).getD p 0<=g.getD p 0+1:=by
 unfold JJ;by_cases e:j=p
 .subst e;by_cases h:j<g.length
  .rw[ay (l:=g.set _ _),aN h];exact bX _
  .rw[cy (by lia)]
   lia
 .rw[jt e]
  lia
def zi6(rs:At)(st:PSt)(k i p:Nat):((jF rs st k).1.gone.getD i []).getD p 0<=(st.gone.getD i []).getD p 0+1:=by
 have le:∀x:Int,x<=x+1:=λx=>by lia
 unfold jF;cases rs[k]? with
 |none=>exact le _
 |some r =>
  simp only;cases qu r (qM rs st.cells r) (jD st.cells r) st.turn (st.sides.getD k 0).toNat with
  |none=>exact le _
  |some ch =>
   let⟨c1,c2,c3⟩:=vC (r:=r) (st:=st) (k:=k) (ch:=ch);show(((movedF r st k ch).gone.set k _).getD i []).getD p 0<=_
   rw[c3];by_cases e:k=i
   .subst e;by_cases h:k<st.gone.length
    .rw[ay (l:=st.gone.set _ _),aN h];exact zhA _ _ _
    .rw[cy (by lia)];exact le _
   .rw[jt e];exact le _
theorem zd2(rs:At)(st:PSt)(i p:Nat):∀m:Nat,((zQ rs st m).1.gone.getD i []).getD p 0<=(st.gone.getD i []).getD p 0+m
 |0=>by rw[Int.natCast_zero,Int.add_zero];exact bX _
 |m+1=>by
  have h1:=zd2 rs st i p m;have h2:=zi6 rs (zQ rs st m).1 m i p;have h3:((zQ rs st (m+1)).1.gone.getD i []).getD p 0<=_:=h2
  lia
theorem zdw{bs:A1}{rs:At}(r24:rs.length<=24)(n i p:Nat):∀m:Nat,((qm bs rs (n+m)).gone.getD i []).getD p 0<=((qm bs rs n).gone.getD i []).getD p 0+24*m
 |0=>by rw[Int.natCast_zero,Int.mul_zero,Int.add_zero];exact bX _
 |m+1=>by
  have h1:=zdw (bs:=bs) r24 n i p m;have h2:((qm bs rs (n+(m+1))).gone.getD i []).getD p 0<=_:=zd2 rs (qm bs rs (n+m)) i p rs.length
  lia
def zil{rs:At}{i j k:Nat}{r:Row}(wok:zV bs rs)(bo:∀b∈bs,zH b.1 b.2)(ro:∀r∈rs,r.ok)(h:i<=j)(h1:j<=1000)(hr:rs[k]?=some r):∃g c,(jS bs rs i j)[k]?=some g/\g[0]?=some c/\0<=c/\c<=24000:=by
 let⟨lG,lr⟩:=zfs wok bo ro i j;have kl:=(aa.mp hr).1;let⟨g,eg⟩:∃g,(jS bs rs i j)[k]?=some g:=⟨_,af (by rw[lG];exact kl)⟩;have gp:0<g.length:=by rw[lr k r g hr eg];exact zhx (ro r (ah hr))
 refine⟨g,g[0],eg,af gp,(zdq ro wok bo h g (ah eg)).2 _ (cr gp),?_⟩;have w0:=qT wok bo ro i;have w1:=qT wok bo ro j;let⟨u0,e0⟩:∃g,(qm bs rs i).gone[k]?=some g:=⟨_,af (by rw[w0.go.1];exact kl)⟩;let⟨u1,e1⟩:∃g,(qm bs rs j).gone[k]?=some g:=⟨_,af (by rw[w1.go.1];exact kl)⟩;have e2:(jS bs rs i j)[k]?=some (wn u0 u1):=by unfold jS xA;rw[eU,e0,e1]
 rw[eg]at e2;cases e2;have:=zdw (bs:=bs) wok.1.2.2 i k 0 (j-i);rw[show i+(j-i)=j by lia,ay (l:=(qm bs rs i).gone),ay (l:=(qm bs rs j).gone),e0,e1]at this;simp only[bH]at this;have e3:(wn u0 u1)[0]=u1.getD 0 0-u0.getD 0 0:=by
  simp only[wn,List.getElem_map,List.getElem_range]
 rw[e3]
 lia
def ziq{n L:Int}(h0:0<=n)(hL:0<L):0<=xV n L/\xV n L<=n/\0<=xW n L/\xW n L<=L:=by
 unfold xV xW QS;rw[ao (by lia),cm _ (bd _),cm _ (bd _)];exact⟨Int.ediv_nonneg h0 (bd _),Int.ediv_le_self _ h0,Int.ediv_nonneg (by lia) (bd _),Int.ediv_le_self _ (by lia)⟩
abbrev In(n:Int):Prop:=0<=n/\n<1000000
def shC(G:List A7)(k:Nat):Int:=(G.getD k []).getD 0 0
structure Shr(rs:At)(G:List A7)(L:Int):Prop where
 c:∀{k r},rs[k]?=some r->∃g,G[k]?=some g/\g[0]?=some (shC G k)/\In (xV (shC G k) L)/\In (xW (shC G k) L)
def zfl{rs:At}{lim i j:Nat}(wok:zV bs rs)(bo:∀b∈bs,zH b.1 b.2)(ro:∀r∈rs,r.ok)(l1:lim<=1000)(rd:RoundAt bs rs lim i j):Shr rs (jS bs rs i j) ((j:Int)-i):=by
 have hij:=rd.lt;have hj:=rd.le;refine⟨λ{k r} hr=>?_⟩;let⟨g,c,eg,ec,c0,c1⟩:=zil wok bo ro (bV hij) (show j<=1000 by lia) hr;have e:shC (jS bs rs i j) k=c:=by
  unfold shC;rw[ay (l:=jS bs rs i j),eg,bH,ay,ec]
  rfl
 rw[e];have b:=ziq (L:=(j:Int)-i) c0 (by lia);exact⟨g,eg,ec,⟨b.1,by lia⟩,⟨b.2.2.1,by lia⟩⟩
def zhR{sl:Addr}{rs:At}{G:List A7}{L:Int}(h:Shr rs G L)(nl:NL H (zZ H) sl as (G.map (Jp L))){r:Row}(hr:rs[k]?=some r):∃sb ts vs,as[k]?=some sb/\H sb=some (.lst vs)/\vs[0]?=some (.ref ts)/\H ts=some (.tup [.int (xV (shC G k) L),.int (xW (shC G k) L)]):=by
 let⟨g,eg,ec,_⟩:=h.c hr;let⟨sb,vs,qs,hs,rvs⟩:=nl.at (i:=k) (xs:=Jp L g) (by rw[ai,eg];rfl);let⟨v,hv,rv⟩:=rvs.of (i:=0) (d:=.tup [.int (xV (shC G k) L),.int (xW (shC G k) L)]) (by rw[Jp,ai,ec];rfl);let⟨ts,rfl,hts⟩:=Qa (b:=(xV (shC G k) L,xW (shC G k) L)) rv;exact⟨sb,ts,vs,qs,hs,hv,hts⟩
noncomputable def xC(rs:At)(G:List A7)(L:Int):List (Int×Int):=(zp .drain rs).map λd=>(xV (shC G d.toNat) L,xW (shC G d.toNat) L)
def XJ(rs:At)(ps:A7)(m:Nat):zp .drain (ju rs ps m)=zp .drain rs:=by
 unfold zp qE;rw[x6];refine bE _ (List.filter_congr λi _=>?_);have e:=bE (λl=>l[i]?) (Qz (rs:=rs) (ps:=ps) (m:=m) Row.wd λ_ _=>rfl);simp only[ai]at e;rw[e]
structure Rts(H:Hp)(us:Ap)(xs:A1):Prop where
 len:us.length=xs.length
 r:∀(j:Nat)(v:V)(x:Int×Int),us[j]?=some v->xs[j]?=some x->Rt H v x
def Rts.same{H H':Hp}{xs:A1}(h:Rts H us xs)(s:Same H H'):Rts H' us xs:=⟨h.len,λj v x e1 e2=>(h.r j v x e1 e2).same s⟩
def Rts.keep{H H':Hp}{xs:A1}(h:Rts H us xs)(s:∀p ys,H p=some (.tup ys)->H' p=some (.tup ys)):Rts H' us xs:=⟨h.len,λj v x e1 e2=>by
 let⟨p,e,h1,r⟩:=h.r j v x e1 e2;exact⟨p,e,s _ _ h1,r⟩⟩
def Rts.push{xs:A1}{x:Int×Int}(h:Rts H us xs)(q:Rt H v x):Rts H (us++[v]) (xs++[x]):=by
 refine⟨by rw[av,av,h.len];rfl,λj u y e1 e2=>?_⟩;by_cases hj:j<us.length
 .rw[aS hj]at e1;rw[aS (by rw[<- h.len];exact hj)]at e2;exact h.r j u y e1 e2
 .rw[aM (by lia)]at e1;rw[aM (by rw[<- h.len];lia),<- h.len]at e2;have:j-us.length=0:=by have:=(aa.mp e1).1;simp at this;lia
  rw[this]at e1 e2;cases e1;cases e2;exact q
def rTk(bs:A1)(rs:At)(i j:Nat)(_:Hp)(v:V)(H':Hp):Prop:=∃l us,v=.ref l/\H' l=some (.lst us)/\Rts H' us (xC rs (jS bs rs i j) ((j:Int)-i))
def Qn(T:Txt K mg a):Cal P w K mg base "taken_by_drains" 10 ["work","limit"] [] (ze7 a rTk):=T.kH.cal λF=>by
 refine F.okx Zt ?_ ?_
 .walk_at"i"
 walk_at"j";refine oE4 h λvw lim bs rs p7=>oA8 p7 λp8 hv wok bo ro l1000 kQ kE=>?_;clear p7 h;subst p8;have r24:=wok.1.2.2;walk_at"T";refine⟨_,(zg (QP (i:=2) Zt.nd rfl (Or.inr rfl) ‹(pq 0) (za (pq 1) zb)›)  (zd (zj (jk (vars:=["number"]) (caps:=[2]) (N:=["number","shares"]) (ON:=["work","limit","shares"]) (osc:=zf jv) rfl rfl (by right) rfl rfl (zN (wG ⟨rfl,rfl,rfl⟩ hr (pq 0))) (λ_ _ _ _=>(zX 0 (show(["number","shares"]:A9).Nodup from by symm))) (λ_ _ _ _=>z8) (λ_ _ _ _=>(zq (zq (pq 1) (pq 0)) ze)))))),?_⟩;exists uc (Jl T).mono (iE4 vw lim bs rs (iA8 rfl hv wok bo ro l1000 (λi j v H1 rnd s1 r=>?_) kE));refine oE2 r λsl as p7=>oA3 p7 λp8 nl _=>?_;clear p7 r;subst p8;have sh:=zfl wok bo ro l1000 rnd;have kQ:=λv H' s r=>kQ i j v H' rnd s r;unfold rTk at kQ;generalize jS bs rs i j=G at nl sh kQ;generalize (j:Int)-i=L at nl sh kQ;left;walk_at"d";left;have hv1:=hv.same s1;refine oE7 (qS hv1) λyw dx fs l1 l2 bvs pi p7=>oA9 p7 λp8 hy e1 e2 h1 h2 hB hK no=>?_;clear p7;subst p8;refine iE7 yw a.u dx fs _ _ _ (iA5 rfl hy (no _ (by symm) (by symm)) ((jO T).mono) ⟨.ref yw,bs,rs,Off [],rfl,hv1,by lia,λq H2 s2 _ hq=>?_⟩);refine⟨q,rfl,.inl ⟨⟨_,SqL.of hq⟩,λ_ _ _ _ ph hacc=>?_⟩⟩;refine qb (K:=K) (a:=q) (xs:=iv (zp .drain rs)) (λm σ H'=>∃(v0:Aq)(us:Ap),σ=[v0,some (.ref sl)]/\Same H2 H'/\H' ph=some (.lst us)/\Rts H' us ((xC rs G L).take m)) (iE2 _ ([]) (iA4 rfl (zc hacc) pE ⟨rfl,λj v x e=>nomatch e⟩)) (λm σ H' _ h=>by let⟨_,_,_,s,_⟩:=h;exact SqL.of (s _ _ hq)) ?_ ?_
 .intro m x σ H3 hm p9;refine oE2 p9 λv0 us p7=>oA4 p7 λp8 s3 ha ru=>?_;ext;let⟨d,hd,rfl⟩:=xz hm;refine oE2 (xw (ah hd)) λk r p7=>oA3 p7 λp8 hr' _=>?_;clear p7;subst p8;refine oE1 (sh.c hr') λg p7=>oA4 p7 λeg ec i1 i2=>?_;clear p7;refine oE3 (zhR sh nl hr') λsb ts ws p7=>oA4 p7 λqs hs hu hts=>?_;clear p7;have s23:=s2.trans s3;have lu:=ru.len;have ln:=qv .drain rs rs.length;rw[aE]at lu;have lt:(xC rs G L).length<=24:=by unfold xC zp;rw[ae];lia
  exists zu (SqL.of (s23 _ _ nl.out)) (zJ (by rw[ai,qs];rfl)) (zu (SqL.of (s23 _ _ hs)) (zJ (j:=0) hu) ⟨_,iA3 ha (zm (by lia)) (iE2 _ (us++[.ref ts]) (iA4 rfl (λb o hb=>by rw[pF (pG hb hacc)];exact s3 b o hb) pE ?_))⟩);have e:(xC rs G L).take (m+1)=(xC rs G L).take m++[(xV (shC G k) L,xW (shC G k) L)]:=by
   rw[aO,xC,ai,hd]
   rfl
  rw[e];refine(ru.push ⟨ts,iA6 rfl (s23 _ _ hts) i1.1 i1.2 i2.1 i2.2⟩).keep λp ys hp=>?_;rw[pF (λz=>by rw[z,ha]at hp;cases hp)];exact hp
 intro σ H3 p9;refine oE2 p9 λv0 us p7=>oA4 p7 λp8 s3 ha ru=>?_;ext;have e:(iv (zp .drain rs)).length=(xC rs G L).length:=by rw[zA,xC,ae]
 rw[e,aG]at ru;left;exact kQ _ H3 (s1.trans (s2.trans s3)) (iE2 ph us (iA3 rfl ha ru))
noncomputable abbrev wRs(rs:At)(s:A7):List Row:=ju rs s s.length
noncomputable abbrev tkF(bs:A1)(rs:At)(s:A7)(i j:Nat):List (Int×Int):=xC (wRs rs s) (jS bs (wRs rs s) i j) ((j:Int)-i)
inductive Ev(bs:A1)(rs:At)(lim:Nat):List A7->Option (Option (List Int×List (Int×Int)×Nat×Nat))->Prop
 |nil:Ev bs rs lim [] (some none)
 |long {s:A7} {ss:List A7}:ji bs (wRs rs s) lim->Ev bs rs lim (s::ss) none
 |bad {s:A7} {ss:List A7} {i j x y:Nat}:RoundAt bs (wRs rs s) lim i j->fI (tkF bs rs s i j) (s.zip (tkF bs rs s i j)) 0=some (x,y)->Ev bs rs lim (s::ss) (some (some (s,tkF bs rs s i j,x,y)))
 |on {s:A7} {ss:List A7} {i j:Nat} {o:Option (Option (List Int×List (Int×Int)×Nat×Nat))}:RoundAt bs (wRs rs s) lim i j->fI (tkF bs rs s i j) (s.zip (tkF bs rs s i j)) 0=none->Ev bs rs lim ss o->Ev bs rs lim (s::ss) o
def Ev.one{rs:At}{ss:List A7}{o o':Option (Option (List Int×List (Int×Int)×Nat×Nat))}(h:Ev bs rs lim ss o)(h':Ev bs rs lim ss o'):o=o':=by
 induction h with
 |nil=>cases h';rfl
 |long n =>
  cases h' with
  |long _=>rfl
  |bad rd _=>exact absurd n rd.no
  |on rd _ _=>exact absurd n rd.no
 |bad rd e =>
  cases h' with
  |long n=>exact absurd n rd.no
  |bad rd' e' =>
   let⟨rfl,rfl⟩:=rd.one rd';rw[e]at e';cases e'
   rfl
  |on rd' e' _ =>
   let⟨rfl,rfl⟩:=rd.one rd';rw[e]at e';cases e'
 |on rd e _ ih =>
  cases h' with
  |long n=>exact absurd n rd.no
  |bad rd' e' =>
   let⟨rfl,rfl⟩:=rd.one rd';rw[e]at e';cases e'
  |on rd' e' h'=>exact ih h'
def okM(rs:At)(xss:List A7):Prop:=xss.length=(zp .drain rs).length/\∀xs∈xss,Pcs xs
def za9{xss:List A7}(h:∀xs∈xss,Pcs xs):∀s∈qh xss,Pcs s:=by
 have key:∀(ms ph:List A7),(∀m∈ms,Pcs m)->(∀t∈ph,Pcs t)->∀s∈ms.foldl qP ph,Pcs s:=by
  intro ms
  induction ms with
  |nil=>intro ph _ h s hs;exact h s hs
  |cons m ms ih =>
   intro ph hm h s hs;rw[cU]at hs;refine ih (qP ph m) (λm hm'=>hm m (aF _ hm')) (λt ht=>?_) s hs;unfold qP at ht;let⟨u,hu,ht⟩:=dn.mp ht;let⟨x,hx,rfl⟩:=bb.mp ht;intro p hp;rcases ax.mp hp with hp|hp
   .exact h u hu p hp
   .rw[ak.mp hp];exact hm m (bt ..) x hx
 exact key xss [[]] h λt ht=>by rw[ak.mp ht];intro p hp;cases hp
def ze3(bs:A1)(rs:At)(s:A7)(i j:Nat):(tkF bs rs s i j).length=(zp .drain rs).length:=by rw[tkF,xC,ae,XJ]
def two_of_rts{pl tl:Addr}{tk:A1}(hp:H pl=some (.lst (iv s)))(ht:H tl=some (.lst us))(r:Rts H us tk)(l:s.length=tk.length)(pc:Pcs s):Two H pl tl (s.zip tk) us/\(s.zip tk).map (·.2)=tk:=by
 have e1:(s.zip tk).map (·.1)=s:=List.map_fst_zip (by lia);have e2:(s.zip tk).map (·.2)=tk:=List.map_snd_zip (by lia);refine⟨⟨by rw[e1];exact hp,ht,by rw[r.len,length_zip];lia,λj v z h1 h2=>r.r j v z.2 h1 ?_,λz hz=>pc z.1 (fH hz).1⟩,e2⟩;rw[<- e2,ai,h2]
 rfl
def VP(K:A0)(a:Ad):Sp:=λvs H Q E=>∃(vw:V)(l:Addr)(as:Ac)(xss:List A7)(lim:Nat)(bs:A1)(rs:At),vs=[vw,.ref l,.int lim]/\Rep H (Off []) vw (qy a bs rs)/\zV bs rs/\(∀b∈bs,zH b.1 b.2)/\(∀r∈rs,r.ok)/\lim<=1000/\H l=some (.lst (as.map V.ref))/\LL H as xss/\(∀xs∈xss,xs.length<=900)/\xss.length<=40 /\
 (¬okM rs xss->∀H',Same H H'->E (.ref a.i) none H')/\(okM rs xss->81<zU xss->∀H',Same H H'->E (.ref a.j) none H') /\
 (okM rs xss->zU xss<=81->(∀H',Same H H'->Ev bs rs lim (qh xss) none->E (.ref a.h) none H')/\(∀H',Same H H'->Ev bs rs lim (qh xss) (some none)->Q .non H')/\∀s tk x y t sl tl us H',Same H H'->Ev bs rs lim (qh xss) (some (some (s,tk,x,y)))->H' t=some (.tup [.ref sl,.ref tl,.int (x:Nat),.int (y:Nat)])->H' sl=some (.lst (iv s))->H' tl=some (.lst us)->Rts H' us tk->Q (.ref t) H')
def Zj(T:Txt K mg a)(F:FunD K "even_fault" "even_fault" wC f fd):FnOk P w K mg base (CXr P w) 11 f fd ["work","menus","limit"] (VP K a):=by
 refine F.okx Wr ?_ ?_
 .walk_at"i"
 walk_at"j";refine oE7 h λvw l as xss lim bs rs p7=>oA9 p7 λp8 hv wok bo ro l1000 hl hL pj=>oA5 pj λx900 x40 kB kM kW=>?_;clear p7 pj h;subst p8;have r24:=wok.1.2.2;walk_at"T";refine⟨_,(zg (zw ‹(pq 0) (za (pq 1) zb)›)  (zI (z6 qj rfl (zN (pq 1)) (zX 3 Wr.nd)  (zd (zw ‹(pq 3) zb›)))  (zI (z6 qj rfl (zN ‹(pq 1) zb›) (zX 4 Wr.nd)  (zg (zr 5 Wr.nd ‹‹(pq 0) (za (pq 4) zb)› (za (pq 2) zb)›)  (zg (zr 6 Wr.nd ‹(pq 4) (za (pq 5) zb)›)  (zd (zy (zi JN (pq 6) zG (zk _))  (zd (zj (zT (za (pq 4) (za (pq 5) (za (zq (pq 6) ze) (za (zq (pq 6) ze) zb)))))))  zl)))))  (zd (zj zG))))),?_⟩;exists uc (wu T).mono (iE6 vw l (as.map V.ref) bs rs _ (iA6 rfl hv (SqL.of hl) (by lia) (λe1 H1 s1=>?_) (λe1 H1 s1=>kB (λz=>e1 (by rw[ae,hL.len];exact z.1)) H1 s1)));rw[ae,hL.len]at e1;exists cut (λσ' H'=>∃v3,σ'=[some vw,some (.ref l),some (.int lim),v3,none,none,none]/\Same H H'/\∀xs∈xss,Pcs xs) ?_ ?_
 .walk_at"c";exists⟨l,rfl,.inl ⟨⟨_,SqL.of (s1 _ _ hl)⟩,?_⟩⟩;refine qb (K:=K) (a:=l) (xs:=as.map V.ref) (λm σ H'=>∃v3,σ=[some vw,some (.ref l),some (.int lim),v3,none,none,none]/\Same H H'/\∀xs∈xss.take m,Pcs xs) ⟨_,iA3 rfl s1 (λxs hx=>by rw[bT]at hx;cases hx)⟩ (λm σ H' _ h=>by let⟨_,_,s,_⟩:=h;exact SqL.of (s _ _ hl)) ?_ ?_
  .intro m x σ H2 hm p9;refine oE1 p9 λv3 p7=>oA3 p7 λp8 s2 px=>?_;ext;rw[ai,am]at hm;let⟨b,hb,rfl⟩:=hm;let⟨xs,e2,hx⟩:=(hL.same s2).at hb;exists uc (Zq T).mono (iE2 b xs (iA4 rfl (SqL.of hx) (λpc=>?_) (λpc=>kB (λz=>pc (z.2 xs (ah e2))) H2 s2)));refine⟨_,iA3 rfl s2 (λys hy=>?_)⟩;rw[aO,e2]at hy;rcases ax.mp hy with hy|hy
   .exact px ys hy
   .rw[ak.mp hy];exact pc
  .intro σ H2 p9;refine oE1 p9 λv3 p7=>oA3 p7 λp8 s2 px=>?_;ext;rw[ae,hL.len,aG]at px;exact⟨_,iA3 rfl s2 px⟩
 intro σ' H2 p9;refine oE1 p9 λv3 p7=>oA3 p7 λp8 s2 px=>?_;ext;have om:okM rs xss:=⟨e1,px⟩;have kW:=kW om;exists cut (λσ' H'=>∃v3 v4 v5 v6,σ'=[some vw,some (.ref l),some (.int lim),v3,v4,v5,v6]/\Same H H'/\zU xss<=81/\Ev bs rs lim (qh xss) (some none)) ?_ ?_
 .walk_at"c";exists uc (WK T).mono (iE3 l as xss (iA7 rfl (s2 _ _ hl) (hL.same s2) x900 (by lia) (λbig=>kM om big H2 s2) (λle p ps H3 g3=>?_)));let⟨kL,kN,kF⟩:=kW le;have s3:=s2.trans g3.sm;have hsl:∀{s:A7},s∈qh xss->s.length=(zp .drain rs).length/\Pcs s:=λ{s} hs=>⟨by rw[wy hs,e1],za9 px s hs⟩;refine⟨p,rfl,.inl ⟨⟨_,SqL.of g3.hp⟩,?_⟩⟩;refine qb (K:=K) (a:=p) (xs:=ps.map V.ref) (λm σ H'=>∃v3 v4 v5 v6,σ=[some vw,some (.ref l),some (.int lim),v3,v4,v5,v6]/\Same H3 H'/\∀o,Ev bs rs lim ((qh xss).drop m) o->Ev bs rs lim (qh xss) o) (iE4 _ _ _ _ (iA3 rfl (Same.refl _) (λo h=>h))) (λm σ H' _ h=>by let⟨_,_,_,_,_,s,_⟩:=h;exact SqL.of (s _ _ g3.hp)) ?_ ?_
  .intro m x σ H4 hm p9;refine oE4 p9 λv3 v4 v5 v6 p7=>oA3 p7 λp8 s4 inv=>?_;ext;rw[ai,am]at hm;let⟨b,hb,rfl⟩:=hm;let⟨s,e2,hs4⟩:=(g3.ll.same s4).at hb;have hs4:H4 b=some (.lst (iv s)):=hs4;let⟨sl,pc⟩:=hsl (ah e2);have s04:=s3.trans s4;have dr:(qh xss).drop m=s::(qh xss).drop (m+1):=by
    have hml:=(aa.mp e2).1;rw[cu hml,(aa.mp e2).2]
   rw[dr]at inv;have ln:=qv .drain rs rs.length;have ln:(zp .drain rs).length<=rs.length:=ln;exists uc (Qn T).mono (uc (Qm T).mono (iE6 vw b s bs rs _ (iA9 rfl (hv.same s04) (SqL.of hs4) wok bo ro (by lia) (λ_ _ v' H5 s5 r5=>?_) (λz=>absurd ⟨sl,pc⟩ z))));refine iE4 v' lim bs (wRs rs s) (iA8 rfl (r5.keep λb o _ hb=>⟨(λz=>nomatch z),hb⟩) (wx wok) bo (ZJ ro pc (ar _)) l1000 (λi j v H6 rnd s6 r6=>?_) (λnr H6 s6=>kL H6 (s04.trans (s5.trans s6)) (inv _ (.long nr))));refine oE2 r6 λtl us p7=>oA3 p7 λp8 htl ru=>?_;clear p7 r6;subst p8;have s46:=s5.trans s6;have hs6:=s46 _ _ hs4;let⟨tw,ez⟩:=two_of_rts hs6 htl ru (by rw[ze3,sl]) pc;exists uc (WJ T).mono (iE4 b tl _ us (iA4 rfl tw (by rw[length_zip];lia) (λpv H7 s7 td=>?_)));rw[ez]at td;have s07:=s04.trans (s46.trans s7);cases ef:fI (tkF bs rs s i j) (s.zip (tkF bs rs s i j)) 0 with
   |none =>
    rw[ef]at td;have td:pv=.non:=td;subst td;left;exact iE4 _ _ _ _ (iA3 rfl (s4.trans (s46.trans s7)) (λo h=>inv o (.on rnd ef h)))
   |some xy =>
    let⟨x,y⟩:=xy;rw[ef]at td;let⟨t,rfl,ht⟩:=td;left;exact pI ht at0 (pI ht (show atI _ 1=some (.int (y:Nat))from rfl) λq hq=>kF s _ x y q b tl us _ (s07.trans (zc hq)) (inv _ (.bad rnd ef)) pE (zc hq _ _ (s7 _ _ hs6)) (zc hq _ _ (s7 _ _ htl)) ((ru.same s7).same (zc hq)))
  .intro σ H4 p9;refine oE4 p9 λv3 v4 v5 v6 p7=>oA3 p7 λp8 s4 inv=>?_;ext;rw[ae,g3.ll.len,dD]at inv;exact iE4 _ _ _ _ (iA4 rfl (s3.trans s4) le (inv _ .nil))
 intro σ' H3 p9;refine oE4 p9 λv3 v4 v5 v6 p7=>oA4 p7 λp8 s3 le ev=>?_;ext;left;exact(kW le).2.1 H3 s3 ev
def Qq(T:Txt K mg a):Cal P w K mg base "even_fault" 11 ["work","menus","limit"] [] (VP K a):=T.kg.cal (Zj T)
def Qj(T:Txt K mg a):Cal P w K mg base "even_fault" 11 ["work","menus","limit"] [.int 200] (VP K a):=T.kg.cald (Zj T)
theorem zb8(T:Txt K mg a):Cal P w K mg base "_law_pair_of" 2 ["_law_paces","_law_taken_here"] [] (ze9 K):=T.nB.cal λF=>by
 refine F.okx V2 ?_ ?_
 .walk_at"i"
 walk_at"k";refine oE4 h λpl tl zs us p7=>oA4 p7 λp8 hT hz k=>?_;clear p7 h;subst p8;walk_at"T";refine⟨_,(zI (z6 qj rfl (xt (za (zE zC zB (za (pq 1) zb)) zb)) (zX 2 V2.nd)  (zg (zr 3 V2.nd (zT (za ze (za (zE (VB rfl) zgy (za ze (za (zq (pq 0) (pq 2)) zb))) zb))))  (zI (zy (zi (qd hr.units1) (zq (pq 0) (pq 2)) ze (zk _))  (zd (zr 3 V2.nd (zT (za ze (za ze zb)))))  zl)  (zd (z6 qj rfl (xt (za (zE zC zB (za (pq 1) zb)) zb)) (zX 4 V2.nd)  (zd (zy (PW.pt (pw_and (zY ‹(zq (pq 1) (pq 2)) (za (pq 3) zb)› (λ_=>rfl)) (pw_and1 (zY ‹(zq (pq 1) (pq 2)) (za (zq (pq 1) (pq 4)) zb)› (λ_=>rfl)))))  (zd (zj (zT (za (pq 2) (za (pq 4) zb)))))  zl)))))))  (zd (zj zG))),?_⟩;refine cut (λσ' H'=>Same H H'/\fI (zs.map (·.2)) zs 0=none) ?_ ?_
 .walk_at"c";exists⟨_,iA4 (.inl ⟨_,SqL.of hT.t,rfl⟩) (by lia) (by rw[hT.len];lia) ?_⟩;rw[show((us.length:Int)).toNat=zs.length by rw[hT.len];lia];refine vK (λi σ H'=>∃v2 v3 v4,σ=[some (.ref pl),some (.ref tl),v2,v3,v4]/\Same H H'/\fI (zs.map (·.2)) zs 0=fI (zs.map (·.2)) (zs.drop i) i) (iE3 _ _ _ (iA3 rfl (Same.refl _) (by simp))) ?_ ?_
  .intro i σ H1 hlt p9;refine oE3 p9 λv2 v3 v4 p7=>oA3 p7 λp8 s1 e0=>?_;ext;have hzi:zs[i]?=some zs[i]:=af hlt;have hui:us[i]?=some (us[i]'(by rw[hT.len];exact hlt)):=af _;generalize zs[i]=z at hzi;generalize us[i]'(by rw[hT.len];exact hlt)=x at hui;have hzb:=hT.b z (ah hzi);rw[zdM hzi]at e0;have hpi:atI ((zs.map (·.1)).map V.int) (i:Int)=some (.int z.1):=zJ (by rw[ai,ai,hzi];rfl);simp only[bW];exists zu (SqL.of (s1 _ _ hT.p)) hpi ?_;exists iE2 _ _ ⟨rfl,?_⟩;left;intro m1 hm1;have s2:=s1.trans (zc (o:=.tup [.int 1,.int (if z.1>1 then z.1 else 1)]) hm1);have hmt:=pE (H:=H1) (a:=m1) (o:=.tup [.int 1,.int (if z.1>1 then z.1 else 1)]);generalize upd H1 m1 (.tup [.int 1,.int (if z.1>1 then z.1 else 1)])=H2 at s2 hmt ⊢;refine cut (λσ' H'=>∃mv,σ'=[some (.ref pl),some (.ref tl),some (.int i),some mv,v4]/\Same H H'/\Rt H' mv (wV z.1)) ?_ ?_
   .exists zu (SqL.of (s2 _ _ hT.p)) hpi ?_;left;unfold wV;refine zF (λh=>?_) (λh=>?_)
    .rw[aq h];left;intro m2 hm2;exact⟨_,iA3 rfl (s2.trans (zc hm2)) ⟨m2,iA6 rfl pE (by decide) (by decide) (by decide) (by decide)⟩⟩
    .rw[ao h];exists⟨_,iA3 rfl s2 ⟨m1,iA6 rfl ?_ (by show(0:Int)<=1;decide) (by show(1:Int)<bg;decide) (by show 0<=z.1;lia) (by unfold bg;show z.1<_;lia)⟩⟩;rw[hmt];have:(if z.1>1 then z.1 else 1)=z.1:=by split<;>lia
     rw[this]
   .intro σ' H3 p9;refine oE1 p9 λmv p7=>oA3 p7 λp8 s3 hm=>?_;ext;walk_at"c";exists⟨_,iA4 (.inl ⟨_,SqL.of (s3 _ _ hT.t),rfl⟩) (by lia) (by rw[hT.len];lia) ?_⟩;rw[show((us.length:Int)).toNat=zs.length by rw[hT.len];lia];refine vK (λj σ H'=>∃v4,σ=[some (.ref pl),some (.ref tl),some (.int i),some mv,v4]/\H'=H3/\(vH z.2 (wV z.1)=true->fJ z.2 (zs.map (·.2)) 0=fJ z.2 ((zs.map (·.2)).drop j) j)) ⟨_,iA3 rfl rfl (λ_=>by simp)⟩ ?_ ?_
    .intro j σ H4 hlj p9;refine oE1 p9 λw4 p7=>oA3 p7 λp8 pj e1=>?_;clear p7 p9;subst p8 pj;have hzj:zs[j]?=some zs[j]:=af hlj;have huj:us[j]?=some (us[j]'(by rw[hT.len];exact hlj)):=af _;generalize zs[j]=z' at hzj;generalize us[j]'(by rw[hT.len];exact hlj)=y at huj;rw[zdL (y:=z'.2) (by rw[ai,hzj];rfl)]at e1;simp only[bW];exists uc (zb9 T).mono (zu (SqL.of (s3 _ _ hT.t)) (zJ hui) (iE4 x mv z.2 (wV z.1) (iA4 rfl ((hT.r i x z hui hzi).same s3) hm ?_)));left;cases hl:vH z.2 (wV z.1)with
     |false =>
      left
      first|exact⟨_,rfl,rfl,λh=>absurd (hl.symm.trans h) (by decide)⟩|exact⟨_,rfl,λh=>absurd (hl.symm.trans h) (by decide)⟩|exact⟨_,rfl⟩|exact⟨_,rfl,λh=>h.elim⟩
     |true =>
      have e1:=e1 hl;rw[hl,aq rfl]at e0;exists uc (zb9 T).mono (zu (SqL.of (s3 _ _ hT.t)) (zJ hui) (zu (SqL.of (s3 _ _ hT.t)) (zJ huj) (iE4 x y z.2 z'.2 (iA4 rfl ((hT.r i x z hui hzi).same s3) ((hT.r j y z' huj hzj).same s3) ?_))));left;cases hl2:vH z.2 z'.2 with
      |true =>
       rw[hl2,aq rfl]at e1;rw[e1]at e0;left;intro q hq;refine k _ _ (s3.trans (zc hq)) ?_;rw[e0];exact⟨q,rfl,pE⟩
      |false =>
       rw[hl2,ao (by decide)]at e1;left
       first|exact⟨_,rfl,rfl,λ_=>e1⟩|exact⟨_,rfl,λ_=>e1⟩|(simp only[hl,true_implies,forall_const];exact⟨_,rfl,e1⟩)
    .intro σ H4 p9;refine oE1 p9 λw4 p7=>oA3 p7 λp8 pj e1=>?_;clear p7 p9;subst p8 pj;refine iE3 _ _ _ (iA3 rfl s3 ?_);cases hl:vH z.2 (wV z.1)with
     |false=>rw[hl,ao (by decide)]at e0;exact e0
     |true =>
      have e1:=e1 hl;have e2:fJ z.2 (zs.map (·.2)) 0=none:=by rw[e1,fF (by simp)];rfl
      rw[hl,aq rfl,e2]at e0;exact e0
  .intro σ H1 p9;refine oE3 p9 λv2 v3 v4 p7=>oA3 p7 λp8 s1 e0=>?_;ext;refine⟨s1,?_⟩;rw[e0,dD];rfl
 .rintro σ' H1 ⟨s1,e0⟩;exists k _ _ s1 ?_;rw[e0];rfl
def zgP(K:A0):Sp:=λvs H Q _=>∃(l:Addr)(as:Ac)(xss:List A7),vs=[.ref l]/\H l=some (.lst (as.map V.ref))/\LL H as xss/\(∀xs∈xss,xs.length<=900)/\xss.length<=40/\(∀n,zU (xss.take n)<=81)/\∀p bs H',Grow H H' p bs (qh xss)->Q (.ref p) H'
def JH(T:Txt K mg a):Cal P w K mg base "_law_settings_of" 1 ["_law_menus"] [] (zgP K):=T.k9.cal λF=>by
 refine F.okx QJ ?_ ?_
 .walk_at"i"
 walk_at"j";refine oE3 h λl as xss p7=>oA7 p7 λp8 hl hL hb hb2 pr kQ=>?_;clear p7 h;subst p8;walk_at"T";refine⟨_,(zg (zr 1 QJ.nd (zn (za (zn zb) zb)))  (zI (z6 qj rfl (zN (pq 0)) (zX 2 QJ.nd)  (zg (zr 3 QJ.nd (zn zb))  (zI (z6 qj rfl (zN (pq 1)) (Z8 (i:=4) QJ.nd rfl (Or.inr rfl))  (zd (zw (qH ap b5 bZ wm (pq 3) (za (jk (vars:=["_law_pace"]) (caps:=[4]) (N:=["_law_pace","_law_setting"]) (ON:=["_law_menus","_law_settings","_law_menu","_law_longer","_law_setting"]) (osc:=zf j5) rfl rfl (by right) rfl rfl (zN (pq 2)) (λ_ _ _ _=>(zX 0 (show(["_law_pace","_law_setting"]:A9).Nodup from by symm))) (λ_ _ _ _=>z8) (λ_ _ _ _=>(zo zM (pq 1) (zn (za (pq 0) zb))))) zb)))))  (zd (zr 1 QJ.nd (pq 3))))))  (zd (zj (pq 1))))),?_⟩;left;intro q hq p hp;have hpq:q≠p:=pG pE hp;have g0:Grow H (upd (upd H q (.lst [])) p (.lst [.ref q])) p [q] [[]]:=by
  refine⟨qk (zc hq) hp,(zc hq).trans (zc hp),pE,.one (pH pE hp),λb hb=>?_⟩;rw[ak.mp hb];exact⟨hq,hpq⟩
 generalize upd (upd H q (.lst [])) p (.lst [.ref q])=H1 at g0 ⊢;exists cut (λσ' H'=>∃p bs v2 v3 v4,σ'=[some (.ref l),some (.ref p),v2,v3,v4]/\Grow H H' p bs (qh xss)) ?_ ?_
 .walk_at"c";exists⟨l,rfl,.inl ⟨⟨_,SqL.of (g0.sm _ _ hl)⟩,?_⟩⟩;refine qb (K:=K) (a:=l) (xs:=as.map V.ref) (λi σ H'=>∃p bs v2 v3 v4,σ=[some (.ref l),some (.ref p),v2,v3,v4]/\Grow H H' p bs (qh (xss.take i))) (iE5 _ _ _ _ _ ⟨rfl,g0⟩) (λi σ H' _ h=>by let⟨_,_,_,_,_,_,g⟩:=h;exact SqL.of (g.sm _ _ hl)) ?_ ?_
  .intro i x σ H2 hi p9;refine oE5 p9 λp bs v2 v3 v4 p7=>oA2 p7 λp8 g=>?_;ext;rw[ai,am]at hi;let⟨ml,hi,rfl⟩:=hi;let⟨m,e2,hm⟩:=(hL.same g.sm).at hi;have hlen:=hb m (ah e2);have p1:=pr (i+1);rw[qz e2,jG,<- QC]at p1;left;intro r hr';have gr:=Grow.new hr';have hm1:=gr.sm _ _ hm;have lens:∀s∈qh (xss.take i),s.length<=900:=λs hs=>by rw[wy hs,aE];lia
   generalize hS:qh (xss.take i)=sss at g p1 lens;have hp2:=g.hp;have gl:=g.ll;generalize upd H2 r (.lst [])=H3 at gr hm1 ⊢;exists cut (λσ' H'=>∃bs' v4,σ'=[some (.ref l),some (.ref p),some (.ref ml),some (.ref r),v4]/\Grow H2 H' r bs' (qP sss m)) ?_ ?_
   .walk_at"c";exists⟨p,rfl,.inl ⟨⟨_,SqL.of (gr.sm _ _ hp2)⟩,?_⟩⟩;refine qb (K:=K) (a:=p) (xs:=bs.map V.ref) (λi σ H'=>∃bs' v4,σ=[some (.ref l),some (.ref p),some (.ref ml),some (.ref r),v4]/\Grow H2 H' r bs' (qP (sss.take i) m)) (iE2 _ _ ⟨rfl,gr⟩) (λi σ H' _ h=>by let⟨_,_,_,g⟩:=h;exact SqL.of (g.sm _ _ hp2)) ?_ ?_
    .intro i' x σ H4 hi' p9;refine oE2 p9 λbs' v4 p7=>oA2 p7 λp8 g4=>?_;ext;rw[ai,am]at hi';let⟨b,hi',rfl⟩:=hi';let⟨xs,e3,hx⟩:=(gl.same g4.sm).at hi';have hlen':=lens xs (ah e3);have hil:i'<sss.length:=(aa.mp e3).1;have ml0:m.length<=900:=hlen;left;walk_at"d";exists⟨.inl ⟨rfl,_,SqL.of g4.hp⟩,⟨ml,⟨rfl,.inl ⟨⟨_,SqL.of (g4.sm _ _ hm)⟩,λ_ _ _ _ ph hacc=>?_⟩⟩⟩⟩;have g1:=Grow.new hacc;refine qb (K:=K) (a:=ml) (xs:=m.map V.int) (λj σ H'=>∃v bs,σ=[v,some (.ref b)]/\Grow H4 H' ph bs ((m.take j).map λn=>xs++[n])) (iE2 _ _ ⟨rfl,g1⟩) (λj σ H' _ h=>by let⟨_,_,_,g'⟩:=h;exact SqL.of (g'.sm _ _ (g4.sm _ _ hm))) ?_ ?_
     .intro j y σ H5 hj p9;refine oE2 p9 λv bs p7=>oA2 p7 λp8 g2=>?_;ext;have hjl:j<m.length:=by simpa using(aa.mp hj).1
      rw[ai,am]at hj;let⟨n,hj,rfl⟩:=hj;left;intro q hq;have s3:=zc (o:=.lst [.int n]) hq;refine jN (SqL.of (s3 _ _ (g2.sm _ _ hx))) (SqL.of pE) (by rw[ae];exact qN (by simp;lia)) (λr5 hr5=>?_);have s4:=s3.trans (zc (o:=.lst (xs.map V.int++[.int n])) hr5);have g3:=g2.same s4;have hrn:H4 r5=none:=qk (g2.sm.trans s3) hr5;have hrne:r5≠ph:=λz=>by
       have:=s3 _ _ g2.hp;rw[<- z,hr5]at this;cases this
      refine⟨_,iA3 g3.hp (by rw[ae,g3.ll.len,ae,aE];exact zm (by lia)) ?_⟩;refine iE2 _ (bs++[r5]) ⟨rfl,?_⟩;rw[qz hj,aZ];exact g3.push (xs:=xs++[n]) (by rw[pE,aZ];rfl) hrn hrne
     .intro σ H5 p9;refine oE2 p9 λv bs p7=>oA2 p7 λp8 g2=>?_;ext;rw[ae,aG]at g2;have g3:=g4.same g2.sm;left;have hlen2:(qP (sss.take i') m).length+(m.map λn=>xs++[n]).length<=1000:=by
       rw[Qy,ae,aE,<- d9,dF (by lia)];have:=fU m.length (show i'.succ<=sss.length from hil)
       lia
      refine iE4 r ph _ _ (iA6 rfl rfl g3.hp g2.hp (by rw[ae,ae,g3.ll.len,g2.ll.len];exact qN hlen2) ?_);refine iE2 (bs'++bs) _ ⟨rfl,?_⟩;rw[qz e3];have e4:qP (sss.take i'++[xs]) m=qP (sss.take i') m++m.map λn=>xs++[n]:=by simp[qP]
      rw[e4];refine g3.more g2.ll λc hc=>⟨qk g4.sm (g2.fr c hc).1,λz=>?_⟩;have:=(g2.fr c hc).1;rw[z,g4.hp]at this;cases this
    .intro σ H4 p9;refine oE2 p9 λbs' v4 p7=>oA2 p7 λp8 g4=>?_;ext;rw[ae,gl.len,aG]at g4;exact iE2 bs' _ ⟨rfl,g4⟩
   intro σ' H4 p9;refine oE2 p9 λbs' v4 p7=>oA2 p7 λp8 g4=>?_;ext;exists iE5 r bs' _ _ _ ⟨rfl,?_⟩;rw[qz e2,Xe,hS];exact g4.older g.sm
  .intro σ H2 p9;refine oE5 p9 λp bs v2 v3 v4 p7=>oA2 p7 λp8 g=>?_;ext;rw[ae,hL.len,aG]at g;exact iE5 p bs _ _ _ ⟨rfl,g⟩
 intro σ' H2 p9;refine oE5 p9 λp bs v2 v3 v4 p7=>oA2 p7 λp8 g=>?_;ext;left;exact kQ p bs H2 g
def zjc(a:Ad):Sp:=λvs H Q _=>∃(vw:V)(dl pl:Addr)(s:A7)(lim:Nat)(bs:A1)(rs:At),vs=[vw,.ref dl,.ref pl,.int lim]/\Rep H (Off []) vw (qy a bs rs)/\zV bs rs/\(∀b∈bs,zH b.1 b.2)/\(∀r∈rs,r.ok)/\lim<=1000/\H dl=some (.lst (iv (zp .drain rs)))/\H pl=some (.lst (iv s))/\s.length=(zp .drain rs).length/\Pcs s /\
 (ji bs (wRs rs s) lim->∀H',Same H H'->Q .non H')/\∀i j l us H',RoundAt bs (wRs rs s) lim i j->Same H H'->H' l=some (.lst us)->Rts H' us (tkF bs rs s i j)->Q (.ref l) H'
def zeS(T:Txt K mg a):Cal P w K mg base "_law_taken" 10 ["_law_work","_law_drains","_law_paces","_law_limit"] [] (zjc a):=T.ow.cal λF=>by
 refine F.okx zcz ?_ ?_
 .walk_at"i"
 walk_at"j";refine oE7 h λvw dl pl s lim bs rs p7=>oA9 p7 λp8 hv wok bo ro l1000 hd hp pj=>oA4 pj λsl pc kN kQ=>?_;clear p7 pj h;subst p8;have r24:=wok.1.2.2;have ln:=qv .drain rs rs.length;have ln:(zp .drain rs).length<=rs.length:=ln;walk_at"T";refine⟨_,(zg (QP (i:=4) zcz.nd rfl (Or.inr rfl) zG)  (zI (ziv ⟨rfl,rfl,rfl⟩ rfl (λpn G=>(zd (QP (i:=4) zcz.nd rfl (Or.inr rfl) ‹‹(pq 0) (za (jA qY qK (za (pq 2) zb)) zb)› (za (pq 3) zb)›))) (λpn a=>(zd (QP (i:=4) zcz.nd rfl (Or.inr rfl) zG))))  (zg (zy (zi jq (pq 4) zG (zk _))  (zd (zj zG))  zl)  (zd (zj (jk (vars:=["_law_at"]) (caps:=[4]) (N:=["_law_at","_law_shares"]) (ON:=["_law_work","_law_drains","_law_paces","_law_limit","_law_shares"]) (osc:=zf QN) rfl rfl (by right) rfl rfl (zN (pq 1)) (λ_ _ _ _=>(zX 0 (show(["_law_at","_law_shares"]:A9).Nodup from by symm))) (λ_ _ _ _=>z8) (λ_ _ _ _=>(zq (zq (pq 1) (pq 0)) ze)))))))),?_⟩;exists cut (λσ' H'=>∃v,σ'=[some vw,some (.ref dl),some (.ref pl),some (.int lim),some v]/\Same H H'/\((ji bs (wRs rs s) lim/\v=.non)\/∃i j sl as,RoundAt bs (wRs rs s) lim i j/\v=.ref sl/\NL H' (zZ H') sl as ((jS bs (wRs rs s) i j).map (Jp ((j:Int)-i))))) ?_ ?_
 .unfold zhO;exists⟨a.h,iA3 T.ko T.oH (λpn=>(uc (Jl T).mono (uc (Qm T).mono ⟨kh,iE2 pl _ (iA3 rfl (.inl (SqL.of hp)) (λl hl=>?_))⟩)))⟩;have s0:=zc (o:=.lst (iv s)) hl;refine iE6 vw l s bs rs _ (iA9 rfl (hv.same s0) (SqL.of pE) wok bo ro (by lia) (λ_ _ v' H2 s2 r2=>?_) (λz=>absurd ⟨sl,pc⟩ z));refine iE4 v' lim bs (wRs rs s) (iA8 rfl (r2.keep λb o _ hb=>⟨(λz=>nomatch z),hb⟩) (wx wok) bo (ZJ ro pc (ar _)) l1000 (λi j v H3 rd s3 r3=>?_) (λnr H3 s3=>⟨a.h,iA3 rfl T.kJ (λ_ _=>⟨_,iA3 rfl (s0.trans (s2.trans s3)) (.inl ⟨nr,rfl⟩)⟩)⟩));refine oE2 r3 λsl as p7=>oA3 p7 λp8 nl _=>?_;clear p7 r3;subst p8;exact⟨_,iA3 rfl (s0.trans (s2.trans s3)) (.inr (iE4 i j sl as (iA3 rd rfl nl)))⟩
 intro σ' H1 p9;refine oE1 p9 λv p7=>oA3 p7 λp8 s1 st=>?_;ext;rcases st with⟨nr,rfl⟩|⟨i,j,sh,as,rd,rfl,nl⟩
 .left;exact kN nr H1 s1
 have sr:=zfl (wx (ps:=s) (m:=s.length) wok) bo (ZJ ro pc (ar _)) l1000 rd;have kQ:∀l us H',Same H H'->H' l=some (.lst us)->Rts H' us (xC (wRs rs s) (jS bs (wRs rs s) i j) ((j:Int)-i))->Q (.ref l) H':=λl us H'=>kQ i j l us H' rd;have hn:=XJ rs s s.length;generalize jS bs (wRs rs s) i j=G at nl sr kQ;generalize (j:Int)-i=L at nl sr kQ;left;walk_at"d";exists⟨dl,rfl,.inl ⟨⟨_,SqL.of (s1 _ _ hd)⟩,λ_ _ _ _ ph hacc=>?_⟩⟩;refine qb (K:=K) (a:=dl) (xs:=iv (zp .drain rs)) (λm σ H'=>∃(v0:Aq)(us:Ap),σ=[v0,some (.ref sh)]/\Same H1 H'/\H' ph=some (.lst us)/\Rts H' us ((xC (wRs rs s) G L).take m)) (iE2 _ ([]) (iA4 rfl (zc hacc) pE ⟨rfl,λj v x e=>nomatch e⟩)) (λm σ H' _ h=>by let⟨_,_,_,s,_⟩:=h;exact SqL.of (s _ _ (s1 _ _ hd))) ?_ ?_
 .intro m x σ H3 hm p9;refine oE2 p9 λv0 us p7=>oA4 p7 λp8 s3 ha ru=>?_;ext;let⟨d,hd',rfl⟩:=xz hm;rw[<- hn]at hd';refine oE2 (xw (ah hd')) λk r p7=>oA3 p7 λp8 hr' _=>?_;clear p7;subst p8;refine oE1 (sr.c hr') λg p7=>oA4 p7 λeg ec i1 i2=>?_;clear p7;refine oE3 (zhR sr nl hr') λsb ts ws p7=>oA4 p7 λqs hs hu hts=>?_;clear p7;have lu:=ru.len;rw[aE]at lu;have lt:(xC (wRs rs s) G L).length<=24:=by unfold xC;rw[ae,hn];lia
  exists zu (SqL.of (s3 _ _ nl.out)) (zJ (by rw[ai,qs];rfl)) (zu (SqL.of (s3 _ _ hs)) (zJ (j:=0) hu) ⟨_,iA3 ha (zm (by lia)) (iE2 _ (us++[.ref ts]) (iA4 rfl (λb o hb=>by rw[pF (pG hb hacc)];exact s3 b o hb) pE ?_))⟩);have e:(xC (wRs rs s) G L).take (m+1)=(xC (wRs rs s) G L).take m++[(xV (shC G k) L,xW (shC G k) L)]:=by
   rw[aO,xC,ai,hd']
   rfl
  rw[e];refine(ru.push ⟨ts,iA6 rfl (s3 _ _ hts) i1.1 i1.2 i2.1 i2.2⟩).keep λp ys hp=>?_;rw[pF (λz=>by rw[z,ha]at hp;cases hp)];exact hp
 intro σ H3 p9;refine oE2 p9 λv0 us p7=>oA4 p7 λp8 s3 ha ru=>?_;ext;have e:(iv (zp .drain rs)).length=(xC (wRs rs s) G L).length:=by rw[zA,xC,ae,hn]
 rw[e,aG]at ru;left;exact kQ ph us H3 (s1.trans s3) ha ru
def zdm(a:Ad):Sp:=λvs H Q _=>∃(vw:V)(dl ml:Addr)(as:Ac)(xss:List A7)(lim:Nat)(bs:A1)(rs:At),vs=[vw,.ref dl,.ref ml,.int lim]/\Rep H (Off []) vw (qy a bs rs)/\zV bs rs/\(∀b∈bs,zH b.1 b.2)/\(∀r∈rs,r.ok)/\lim<=1000/\H dl=some (.lst (iv (zp .drain rs)))/\H ml=some (.lst (as.map V.ref))/\LL H as xss/\okM rs xss/\(∀xs∈xss,xs.length<=900)/\(∀n,zU (xss.take n)<=81) /\
 (Ev bs rs lim (qh xss) none->∀l H',Same H H'->H' l=some (.lst [.bl false])->Q (.ref l) H')/\(Ev bs rs lim (qh xss) (some none)->∀l H',Same H H'->H' l=some (.lst [])->Q (.ref l) H') /\
 ∀s tk x y l sl tl us H',Ev bs rs lim (qh xss) (some (some (s,tk,x,y)))->Same H H'->H' l=some (.lst [.ref sl,.ref tl,.int (x:Nat),.int (y:Nat)])->H' sl=some (.lst (iv s))->H' tl=some (.lst us)->Rts H' us tk->Q (.ref l) H'
theorem JI(T:Txt K mg a):Cal P w K mg base "_law_first_fault" 11 ["_law_work","_law_drains","_law_menus","_law_limit"] [] (zdm a):=T.ld.cal λF=>by
 refine F.okx QK ?_ ?_
 .walk_at"i"
 walk_at"j";refine oE8 h λvw dl ml as xss lim bs rs p7=>oA9 p7 λp8 hv wok bo ro l1000 hd hm pj=>oA7 pj λhL om x900 pr kL kN kF=>?_;clear p7 pj h;subst p8;have r24:=wok.1.2.2;have ln:=qv .drain rs rs.length;have ln:(zp .drain rs).length<=rs.length:=ln;let⟨e1,px⟩:=om;walk_at"T";refine⟨_,(zI (z6 qj rfl (zN ‹(pq 2) zb›) (zX 4 QK.nd)  (zg (zr 5 QK.nd ‹(pq 0) (za (pq 1) (za (pq 4) (za (pq 3) zb)))›)  (zg (zy (zi jq (pq 5) zG (zk _))  (zd (zj (zn (za qU zb))))  zl)  (zg (zr 6 QK.nd ‹(pq 4) (za (pq 5) zb)›)  (zd (zy (zi JN (pq 6) zG (zk _))  (zd (zj (zn (za (pq 4) (za (pq 5) (za (zq (pq 6) ze) (za (zq (pq 6) ze) zb)))))))  zl))))))  (zd (zj (zn zb)))),?_⟩;exists cut (λσ' H'=>∃v4 v5 v6,σ'=[some vw,some (.ref dl),some (.ref ml),some (.int lim),v4,v5,v6]/\Same H H'/\Ev bs rs lim (qh xss) (some none)) ?_ ?_
 .walk_at"c";exists uc (JH T).mono (iE3 ml as xss (iA7 rfl hm hL x900 (by lia) pr (λp ps H3 g3=>?_)));have s3:=g3.sm;have hsl:∀{s:A7},s∈qh xss->s.length=(zp .drain rs).length/\Pcs s:=λ{s} hs=>⟨by rw[wy hs,e1],za9 px s hs⟩;refine⟨p,rfl,.inl ⟨⟨_,SqL.of g3.hp⟩,?_⟩⟩;refine qb (K:=K) (a:=p) (xs:=ps.map V.ref) (λm σ H'=>∃v4 v5 v6,σ=[some vw,some (.ref dl),some (.ref ml),some (.int lim),v4,v5,v6]/\Same H3 H'/\∀o,Ev bs rs lim ((qh xss).drop m) o->Ev bs rs lim (qh xss) o) (iE3 _ _ _ (iA3 rfl (Same.refl _) (λo h=>h))) (λm σ H' _ h=>by let⟨_,_,_,_,s,_⟩:=h;exact SqL.of (s _ _ g3.hp)) ?_ ?_
  .intro m x σ H4 hmm p9;refine oE3 p9 λv4 v5 v6 p7=>oA3 p7 λp8 s4 inv=>?_;ext;rw[ai,am]at hmm;let⟨b,hb,rfl⟩:=hmm;let⟨s,e2,hs4⟩:=(g3.ll.same s4).at hb;have hs4:H4 b=some (.lst (iv s)):=hs4;let⟨sl,pc⟩:=hsl (ah e2);have s04:=s3.trans s4;have dr:(qh xss).drop m=s::(qh xss).drop (m+1):=by
    have hml:=(aa.mp e2).1;rw[cu hml,(aa.mp e2).2]
   rw[dr]at inv;exists uc (zeS T).mono (iE7 vw dl b s lim bs rs (iA9 rfl (hv.same s04) wok bo ro l1000 (s04 _ _ hd) hs4 (iA4 sl pc (λnr H5 s5=>?_) (λi j tl us H5 rd s5 htl ru=>?_))))
   .left;exactλq hq=>kL (inv _ (.long nr)) q _ (s04.trans (s5.trans (zc hq))) pE
   have hs5:=s5 _ _ hs4;let⟨tw,ez⟩:=two_of_rts hs5 htl ru (by rw[ze3,sl]) pc;exists uc (zb8 T).mono (iE4 b tl _ us (iA4 rfl tw (by rw[length_zip];lia) (λpv H7 s7 td=>?_)));rw[ez]at td;have s07:=s04.trans (s5.trans s7);cases ef:fI (tkF bs rs s i j) (s.zip (tkF bs rs s i j)) 0 with
   |none =>
    rw[ef]at td;have td:pv=.non:=td;subst td;left;exact iE3 _ _ _ (iA3 rfl (s4.trans (s5.trans s7)) (λo h=>inv o (.on rd ef h)))
   |some xy =>
    let⟨x,y⟩:=xy;rw[ef]at td;let⟨t,rfl,ht⟩:=td;left;exact pI ht at0 (pI ht (show atI _ 1=some (.int (y:Nat))from rfl) λq hq=>kF s _ x y q b tl us _ (inv _ (.bad rd ef)) (s07.trans (zc hq)) pE (zc hq _ _ (s7 _ _ hs5)) (zc hq _ _ (s7 _ _ htl)) ((ru.same s7).same (zc hq)))
  .intro σ H4 p9;refine oE3 p9 λv4 v5 v6 p7=>oA3 p7 λp8 s4 inv=>?_;ext;rw[ae,g3.ll.len,dD]at inv;exact iE3 _ _ _ (iA3 rfl (s3.trans s4) (inv _ .nil))
 intro σ' H3 p9;refine oE3 p9 λv4 v5 v6 p7=>oA3 p7 λp8 s3 ev=>?_;ext;left;exactλq hq=>kN ev q _ (s3.trans (zc hq)) pE
def zgN:Sp:=λvs H Q _=>∃(l:Addr)(as:Ac)(xss:List A7)(n:Nat),vs=[.ref l,.int n]/\H l=some (.lst (as.map V.ref))/\LL H as xss/\((xss.length=n/\∀xs∈xss,Pcs xs)->Q (.bl false) H)/\(¬(xss.length=n/\∀xs∈xss,Pcs xs)->Q (.bl true) H)
def zeR(T:Txt K mg a):Cal P w K mg base "_law_wrong" 1 ["_law_menus","_law_many"] [] zgN:=T.ou.cal λF=>by
 refine F.okx zcy ?_ ?_
 .walk_at"i"
 walk_at"j";refine oE4 h λl as xss n p7=>oA5 p7 λp8 hl hL k1 k2=>?_;clear p7 h;subst p8;walk_at"T";refine⟨_,(zg (zy (zi (wl hr.units1) (zE zC zB (za (pq 0) zb)) (pq 1) (zk _))  (zd (zj qU))  zl)  (zI (z6 qj rfl (zN (pq 0)) (zX 2 zcy.nd)  (zd (z6 qj rfl (zN (pq 2)) (zX 3 zcy.nd)  (zd (zy (PW.pt (pw_or (zi Vj (pq 3) ze (zk _)) (pw_or1 (zi xv (pq 3) ze (zk _)))))  (zd (zj qU))  zl)))))  (zd (zj qU)))),?_⟩;exists⟨_,.inl ⟨_,SqL.of hl,rfl⟩,?_⟩;rw[ae,hL.len];exists zF (λz=>k2 λy=>z (by rw[y.1])) (λz=>?_);have ln:xss.length=n:=by lia
 exists cut (λσ' H'=>H'=H/\∀xs∈xss,Pcs xs) ?_ ?_
 .walk_at"c";exists⟨l,rfl,.inl ⟨⟨_,SqL.of hl⟩,?_⟩⟩;refine qb (K:=K) (a:=l) (xs:=as.map V.ref) (λm σ H'=>∃v2 v3,σ=[some (.ref l),some (.int n),v2,v3]/\H'=H/\∀xs∈xss.take m,Pcs xs) (iE2 _ _ (iA3 rfl rfl (λxs hx=>by rw[bT]at hx;cases hx))) (λm σ H' _ h=>by let⟨_,_,_,rfl,_⟩:=h;exact SqL.of hl) ?_ ?_
  .intro m x σ H' hm p9;refine oE2 p9 λv2 v3 p7=>oA3 p7 λp8 pj px=>?_;clear p7 p9;subst p8 pj;rw[ai,am]at hm;let⟨b,hb,rfl⟩:=hm;let⟨xs,e2,hx⟩:=hL.at hb;left;walk_at"c";exists⟨b,rfl,.inl ⟨⟨_,SqL.of hx⟩,?_⟩⟩;refine qb (K:=K) (a:=b) (xs:=iv xs) (λq σ H2=>∃v3,σ=[some (.ref l),some (.int n),some (.ref b),v3]/\H2=H'/\∀p∈xs.take q,0<=p/\p<=4) ⟨_,iA3 rfl rfl (λp hp=>by rw[bT]at hp;cases hp)⟩ (λq σ H2 _ h=>by let⟨_,_,rfl,_⟩:=h;exact SqL.of hx) ?_ ?_
   .intro q x σ H2 hq p9;refine oE1 p9 λv3 p7=>oA3 p7 λp8 pj pp=>?_;clear p7 p9;subst p8 pj;let⟨p,hp,rfl⟩:=xz hq;have no:¬(0<=p/\p<=4)->Q (.bl true) H2:=λz=>k2 λy=>z (y.2 xs (ah e2) p (ah hp));exists zF (λz=>no (by lia)) (λz1=>zF (λz=>no (by lia)) (λz2=>⟨_,rfl,λy hy=>?_⟩));rw[aO,hp]at hy;rcases ax.mp hy with hy|hy
    .exact pp y hy
    .rw[ak.mp hy];lia
   .intro σ H2 p9;refine oE1 p9 λv3 p7=>oA3 p7 λp8 pj pp=>?_;clear p7 p9;subst p8 pj;rw[zA,aG]at pp;refine iE2 _ _ (iA3 rfl rfl (λys hy=>?_));rw[aO,e2]at hy;rcases ax.mp hy with hy|hy
    .exact px ys hy
    .rw[ak.mp hy];exact pp
  .intro σ H' p9;refine oE2 p9 λv2 v3 p7=>oA3 p7 λp8 pj px=>?_;clear p7 p9;subst p8 pj;rw[ae,hL.len,aG]at px;exact⟨rfl,px⟩
 rintro σ' H' ⟨rfl,px⟩;left;exact k1 ⟨ln,px⟩
inductive spCaughtL(a:Ad)(vs:Ap)(H:Hp)(Q:VK)(E:XK):Prop
 |i (vw:V) (l:Addr) (as:Ac) (xss:List A7) (lim:Nat) (bs:A1) (rs:At):vs=[vw,.ref l,.int lim]->Rep H (Off []) vw (qy a bs rs)->zV bs rs->(∀b∈bs,zH b.1 b.2)->(∀r∈rs,r.ok)->lim<=1000->H l=some (.lst (as.map V.ref))->LL H as xss->(∀xs∈xss,xs.length<=900)->xss.length<=40->(okM rs xss->81<zU xss)->(¬okM rs xss->∀e H',Same H H'->H' e=some (Qi e (.ref a.i))->Q (.ref e) H')->(okM rs xss->∀e H',Same H H'->H' e=some (Qi e (.ref a.j))->Q (.ref e) H')->spCaughtL a vs H Q E
def Wc(T:Txt K mg a):Cal P w K mg base "_law_caught" 12 ["_law_work","_law_menus","_law_limit"] [] (spCaughtL a):=T.oa.cal λF=>by
 refine F.okx zbg ?_ ?_
 .walk_at"i"
 walk_at"j";rcases h with⟨vw,l,as,xss,lim,bs,rs,rfl,hv,wok,bo,ro,l1000,hl,hL,x900,x40,big,k1,k2⟩;walk_at"T";refine⟨_,(zg (zr 3 zbg.nd zG)  (zI (QO (i:=4) ⟨rfl,rfl,rfl⟩ rfl zbg.nd rfl rfl (λpn G=>(zd (zw ‹(pq 0) (za (pq 1) (za (pq 2) zb))›))) (λpn a=>(zd (zr 3 zbg.nd (pq 4)))))  (zd (zj (pq 3))))),?_⟩;exists cut (λσ' H'=>∃e,σ'=[some vw,some (.ref l),some (.int lim),some (.ref e),none]/\Same H H'/\((¬okM rs xss/\H' e=some (Qi e (.ref a.i)))\/(okM rs xss/\H' e=some (Qi e (.ref a.j))))) ?_ ?_
 .left;exact⟨a.b,iA3 T.iu T.iL (λpn=>(uc (Qq T).mono (iE7 vw l as xss lim bs rs (iA9 rfl hv wok bo ro l1000 hl hL (iA5 x900 x40 (λno H1 s1=>⟨a.i,iA3 rfl T.iV (λe he=>⟨e,iA3 rfl (s1.trans (zc he)) (.inl ⟨no,pE⟩)⟩)⟩) (λom _ H1 s1=>⟨a.j,iA3 rfl T.i5 (λe he=>⟨e,iA3 rfl (s1.trans (zc he)) (.inr ⟨om,pE⟩)⟩)⟩) (λom le=>absurd (big om) (by lia)))))))⟩
 intro σ' H1 p9;refine oE1 p9 λe p7=>oA3 p7 λp8 s1 st=>?_;ext;left;rcases st with⟨no,he⟩|⟨om,he⟩
 .exact k1 no e H1 s1 he
 .exact k2 om e H1 s1 he
structure RfC(K:A0)(a:Ad)(C:Addr)(x y z:Bool):Prop where
 xi:XI K C
 kv:kitOne K (.ref C) (.type "ValueError")=some true
 kw:kitOne K (.ref C) (.ref a.b)=some true
 kt:kitAny K (.ref C) [.ref a.d,.ref a.e,.ref a.g,.ref a.f,.ref a.k,.ref a.c]=some false
 kp:kitOne K (.ref C) (.ref a.i)=some x
 km:kitOne K (.ref C) (.ref a.j)=some y
 kl:kitOne K (.ref C) (.ref a.h)=some z
def zft(T:Txt K mg a):RfC K a a.i true false false:=⟨T.nP,T.iM,T.iR,T.gN,T.iZ,T.i9,T.i6⟩
def zg1(T:Txt K mg a):RfC K a a.j false true false:=⟨T.oi,T.iQ,T.iY,T.gP,T.i8,T.kA,T.ky⟩
def zds(T:Txt K mg a):RfC K a a.h false false true:=⟨T.oh,T.iP,T.iX,T.gO,T.i7,T.kz,T.kx⟩
inductive spRf(K:A0)(a:Ad)(vs:Ap)(H:Hp)(Q:VK)(E:XK):Prop
 |i (e C:Addr) (x y z:Bool):vs=[.ref e,.bl x,.bl y,.bl z]->H e=some (Qi e (.ref C))->RfC K a C x y z->(∀H',Same H H'->Q (.bl true) H')->spRf K a vs H Q E
def xO(T:Txt K mg a):Cal P w K mg base "_law_refused" 1 ["_law_caught_here","_law_paces","_law_many","_law_long"] [] (spRf K a):=T.nA.cal λF=>by
 refine F.okx V1 ?_ ?_
 .walk_at"i"
 walk_at"j";rcases h with⟨e,C,x,y,z,rfl,he,rf,k⟩;walk_at"T";refine⟨_,(zg (zy (PW.pt (pw_or (qw (zY (zE jr zO (za (pq 0) (za (XB WM) zb))) (λ_=>rfl))) (pw_or1 (qw (zY (zE jr zO (za (pq 0) (za jc zb))) (λ_=>rfl))))))  (zd (zj qU))  zl)  (zg (zy (zY (zE jr zO (za (pq 0) (za (zT (za jc (za jc (za jc (za jc (za jc (za jc zb))))))) zb))) (λ_=>rfl))  (zd (zj qU))  zl)  (zg (zy (PW.pt (pw_or (zi (wl hr.units1) (zE jr zO (za (pq 0) (za jc zb))) (pq 1) (zk _)) (pw_or1 (zi (wl hr.units1) (zE jr zO (za (pq 0) (za jc zb))) (pq 2) (zk _)))))  (zd (zj qU))  zl)  (zd (zj (xI (zfQ hr.units1) (zE jr zO (za (pq 0) (za jc zb))) (pq 3) (zk _))))))),?_⟩;exists Qf he rf.xi rfl rf.kv ?_;exists⟨.ref a.b,_,T.iu,rfl,Qf he rf.xi rfl rf.kw ?_⟩;exists⟨.ref a.d,_,T.lZ,rfl,.ref a.e,_,T.io,rfl,.ref a.g,_,T.oN,rfl,.ref a.f,_,T.kj,rfl,.ref a.k,_,T.oO,rfl,.ref a.c,_,T.iH,rfl,λpt hpt=>?_⟩;have he:=pH (o:=.tup [.ref a.d,.ref a.e,.ref a.g,.ref a.f,.ref a.k,.ref a.c]) he hpt;refine zgd he rf.xi pE rfl rf.kt ?_;have k:=λH' s=>k H' ((zc (o:=.tup [.ref a.d,.ref a.e,.ref a.g,.ref a.f,.ref a.k,.ref a.c]) hpt).trans s);generalize upd H pt _=H1 at he k ⊢;exists⟨.ref a.i,_,T.iS,rfl,Qf he rf.xi rfl rf.kp ?_⟩;refine zF (λz=>absurd rfl z) (λ_=>⟨ip,.ref a.j,_,T.l6,rfl,Qf he rf.xi rfl rf.km ?_⟩);refine zF (λz=>absurd rfl z) (λ_=>⟨ip,.ref a.h,_,T.ko,rfl,Qf he rf.xi rfl rf.kl ?_⟩);show Q (.bl (decide (z=z))) H1
 rw[bh rfl];exact k H1 (Same.refl _)
inductive spLong(a:Ad)(vs:Ap)(H:Hp)(Q:VK)(E:XK):Prop
 |i (vw:V) (l:Addr) (as:Ac) (xss:List A7) (bs:A1) (rs:At):vs=[vw,.ref l]->Rep H (Off []) vw (qy a bs rs)->zV bs rs->(∀b∈bs,zH b.1 b.2)->(∀r∈rs,r.ok)->H l=some (.lst (as.map V.ref))->LL H as xss->(∀xs∈xss,xs.length<=900)->xss.length<=40->okM rs xss->zU xss<=81->Ev bs rs 200 (qh xss) none->(∀H',Same H H'->Q (.bl true) H')->spLong a vs H Q E
def zaM(T:Txt K mg a):Cal P w K mg base "_law_too_long" 12 ["_law_work","_law_menus"] [] (spLong a):=T.mL.cal λF=>by
 refine F.okx Wy ?_ ?_
 .walk_at"i"
 walk_at"j";rcases h with⟨vw,l,as,xss,bs,rs,rfl,hv,wok,bo,ro,hl,hL,x900,x40,om,le,ev,k⟩;walk_at"T";refine⟨_,(zg (zr 2 Wy.nd zG)  (zI (QO (i:=3) ⟨rfl,rfl,rfl⟩ rfl Wy.nd rfl rfl (λpn G=>(zd (zw ‹(pq 0) (za (pq 1) zb)›))) (λpn a=>(zd (zr 2 Wy.nd (pq 3)))))  (zd (zj ‹(pq 2) (za qU (za qU (za qU zb)))›)))),?_⟩;exists cut (λσ' H'=>∃e,σ'=[some vw,some (.ref l),some (.ref e),none]/\Same H H'/\H' e=some (Qi e (.ref a.h))) ?_ ?_
 .exists⟨a.b,iA3 T.iu T.iL (λpn=>(iE3 _ _ _ ⟨(Qj T).mono,⟨vw,l,as,xss,200,bs,rs,rfl,hv,wok,bo,ro,by decide,hl,hL,x900,x40,λno=>absurd om no,λ_ z=>absurd z (by lia),λ_ _=>⟨λH1 s1 _=>⟨a.h,iA3 rfl T.g8 (λe he=>⟨e,iA3 rfl (s1.trans (zc he)) pE⟩)⟩,λH1 s1 z=>?_,λs tk x y t sl tl us H1 s1 z=>?_⟩⟩⟩))⟩
  .cases ev.one z
  .cases ev.one z
 intro σ' H1 p9;refine oE1 p9 λe p7=>oA3 p7 λp8 s1 he=>?_;ext;left;exact uc (xO T).mono (spRf.i e _ _ _ _ rfl he (zds T) (λH2 s2=>k H2 (s1.trans s2)))
def zag{r:Int}(h0:0<=r)(h1:r<ns.length):∃x∈ns,atI (iv ns) r=some (.int x):=by
 let⟨j,rfl⟩:∃j:Nat,r=j:=⟨r.toNat,by lia⟩;have hj:j<ns.length:=by lia
 exact⟨_,cr hj,zJ (xa (af hj))⟩
def Grow.put{B H:Hp}{p b:Addr}{xss:List A7}(g:Grow B H p as xss)(n:b≠p)(nb:B b=none)(na:b∉as):Grow B (upd H b o) p as xss :=
 ⟨g.nb,λc u hc=>by rw[pF (pG hc nb)];exact g.sm c u hc,by rw[pF n.symm];exact g.hp,g.ll.put λc hc z=>na (z ▸ hc),g.fr⟩
def Grow.not{B H:Hp}{p b:Addr}{xss:List A7}(g:Grow B H p as xss)(h:H b=none):b≠p/\B b=none/\b∉as:=by
 refine⟨λz=>?_,qk g.sm h,λz=>?_⟩
 .rw[z,g.hp]at h;cases h
 let⟨xs,_,hx⟩:=g.ll.has z;rw[hx]at h;cases h
structure Mn(xss:List A7):Prop where
 pc:∀xs∈xss,Pcs xs/\1<=xs.length/\xs.length<=2
 pr:1<=zU xss/\zU xss<=4
def Mn.take{xss:List A7}(h:Mn xss)(n:Nat):zU (xss.take n)<=81:=by
 have:=Xy (i:=n) (ms:=xss) (by have:=h.pr.1;lia);have:=h.pr.2
 lia
def zgS:Sp:=λvs H Q _=>∃(n:Nat)(tn:Int),vs=[.int n,.int tn]/\n<=24/\∀p as xss H',Grow H H' p as xss->xss.length=n->Mn xss->Q (.ref p) H'
def zaO(T:Txt K mg a):Cal P w K mg base "_law_menus_of" 1 ["_law_many","_law_turn"] [] zgS:=T.mK.cal λF=>by
 refine F.okx WA ?_ ?_
 .walk_at"i"
 walk_at"j";refine oE2 h λn tn p7=>oA3 p7 λp8 n24 k=>?_;clear p7 h;subst p8;walk_at"T";refine⟨_,(zg (zr 2 WA.nd (zn zb))  (zg (zr 3 WA.nd (pq 1))  (zg (zr 4 WA.nd ze)  (zI (z6 qj rfl (xt (za (pq 0) zb)) (zX 5 WA.nd)  (zg (zr 3 WA.nd (zP (zo qV (zo zM (zo zM (pq 3) (zo qV (pq 5) (pq 5))) ze) ze)))  (zg (zr 6 WA.nd (zn (za (zq (zn (za ze (za ze (za ze (za ze (za ze (za ze zb))))))) (zP (z7 (pq 3)))) zb)))  (zI (zy (PW.pt (pw_and (zi (qd hr.units1) (zP (pq 3)) ze (zk _)) (pw_and1 (zi Vj (pq 4) ze (zk _)))))  (zg (zw (qH ap aA az zS (pq 6) (za (zq (zn (za ze (za ze (za ze (za ze zb))))) (zP (z7 (pq 3)))) zb)))  (zd (ziw (i:=4) WA.nd rfl (Or.inl rfl) ze zge)))  zl)  (zd (zw (qH ap aA az zS (pq 2) (za (pq 6) zb))))))))  (zd (zj (pq 2))))))),?_⟩;left;intro p hp;have g0:=Grow.new hp;generalize upd H p (.lst [])=H1 at g0 ⊢;exists cut (λσ' H'=>∃(v3 v4 v5 v6:Aq)(as:Ac)(xss:List A7),σ'=[some (.int n),some (.int tn),some (.ref p),v3,v4,v5,v6]/\Grow H H' p as xss/\xss.length=n/\Mn xss) ?_ ?_
 .walk_at"c";exists⟨by lia,by lia,?_⟩;refine vK (n:=(n:Int).toNat) (λi σ H'=>∃(nu:Int)(tw:Nat)(v5 v6:Aq)(as:Ac)(xss:List A7),σ=[some (.int n),some (.int tn),some (.ref p),some (.int nu),some (.int tw),v5,v6]/\Grow H H' p as xss/\xss.length=i/\(∀xs∈xss,Pcs xs/\1<=xs.length/\xs.length<=2)/\1<=zU xss/\zU xss<=2^tw/\tw<=2) (iE6 tn 0 _ _ ([]) ([]) (iA7 rfl g0 rfl (λxs hx=>nomatch hx) (ar _) (ar _) (by decide))) ?_ ?_
  .intro i σ H2 hi p9;refine oE6 p9 λnu tw v5 v6 as xss p7=>oA7 p7 λp8 g lx px p1 p2 t2=>?_;ext;rw[aK]at hi;simp only[bW];exists⟨mul_okR (by lia) (by lia),mul_okR (by decide) (by decide),λq1 h1=>?_⟩;generalize (nu+(i:Int)*i+1)*69621%2147483647=u;let⟨x,hx,ex⟩:=zag (ns:=[0,1,2,4,1,3]) (r:=u/7%6) (by lia) (by show _<(6:Int);lia);have xb:0<=x/\x<=4:=by
    simp only[aC,aJ,aY]at hx
    lia
   refine zu (SqL.of pE) ex λml hml=>?_;have sA:=(zc (o:=.lst (iv [0,1,2,4,1,3])) h1).trans (zc (o:=.lst (iv [x])) hml);have g4:=g.same sA;let⟨np,nb,na⟩:=(g.same (zc (o:=.lst (iv [0,1,2,4,1,3])) h1)).not hml;have hm4:upd (upd H2 q1 (.lst (iv [0,1,2,4,1,3]))) ml (.lst (iv [x])) ml=some (.lst (iv [x])):=pE;show zib _ _ _ _ (upd (upd H2 q1 (.lst (iv [0,1,2,4,1,3]))) ml (.lst (iv [x])))
   generalize upd (upd H2 q1 (.lst (iv [0,1,2,4,1,3]))) ml (.lst (iv [x]))=H4 at g4 hm4 ⊢;clear sA ex hx h1 hml;refine cut (λσ' H'=>∃(tw':Nat)(xs:A7),σ'=[some (.int n),some (.int tn),some (.ref p),some (.int u),some (.int tw'),some (.int i),some (.ref ml)]/\Grow H H' p as xss/\H' ml=some (.lst (iv xs))/\(Pcs xs/\1<=xs.length/\xs.length<=2)/\zU xss*xs.length<=2^tw'/\tw'<=2) ?_ ?_
   .left;have one:Pcs [x]:=λy hy=>by rw[ak.mp hy];exact xb
    have no:∃(tw':Nat)(xs:A7),[some (V.int n),some (.int tn),some (.ref p),some (.int u),some (.int tw),some (.int i),some (.ref ml)]=[some (V.int n),some (.int tn),some (.ref p),some (.int u),some (.int tw'),some (.int i),some (.ref ml)]/\Grow H H4 p as xss/\H4 ml=some (.lst (iv xs))/\(Pcs xs/\1<=xs.length/\xs.length<=2)/\zU xss*xs.length<=2^tw'/\tw'<=2:=⟨tw,[x],rfl,g4,hm4,⟨one,ar _,by show 1<=2;decide⟩,by simpa using p2,t2⟩;refine zF (λ_=>zF (λz2=>?_) (λ_=>no)) (λ_=>no);exists⟨.inl ⟨rfl,_,SqL.of hm4⟩,λq5 h5=>?_⟩;let⟨y,hy,ey⟩:=zag (ns:=[4,1,0,2]) (r:=u/42%4) (by lia) (by show _<(4:Int);lia);have yb:0<=y/\y<=4:=by
     simp only[aC,aJ,aY]at hy
     lia
    have s5:=zc (o:=.lst (iv [4,1,0,2])) h5;refine zu (SqL.of pE) ey (iE3 ml _ _ (iA5 rfl rfl (s5 _ _ hm4) (zm (by show 1<=1000;decide)) ?_));left;have e2:zU xss*2<=2^(tw+1):=by rw[Nat.pow_succ];lia
    exact⟨tw+1,[x,y],rfl,(g4.same s5).put np nb na,pE,⟨λv hv=>by
     simp only[aC,aJ,aY]at hv;rcases hv with rfl|rfl
     .exact xb
     .exact yb,by show 1<=2;decide,ar _⟩,e2,by lia⟩
   intro σ' H5 p9;refine oE2 p9 λtw' xs p7=>oA6 p7 λp8 g5 hm5 px5 e5 t5=>?_;ext;exists⟨.inl ⟨rfl,_,SqL.of g5.hp⟩,iE3 p _ _ (iA5 rfl rfl g5.hp (zm (by rw[ae,g5.ll.len];lia)) (iE6 u tw' _ _ (as++[ml]) (xss++[xs]) (iA7 rfl (g5.push hm5 nb np) (by simp[lx]) (λys hy=>?_) ?_ ?_ t5)))⟩
   .rcases ax.mp hy with hy|hy
    .exact px ys hy
    .rw[ak.mp hy];exact px5
   .rw[jG];exact Nat.mul_pos p1 px5.2.1
   .rw[jG];exact e5
  .intro σ H2 p9;refine oE6 p9 λnu tw v5 v6 as xss p7=>oA7 p7 λp8 g lx px p1 p2 t2=>?_;ext;rw[aK]at lx;have:2^tw<=4:=by rcases(by lia:tw=0\/tw=1\/tw=2)with rfl|rfl|rfl<;>decide
   exact iE6 _ _ _ _ as xss (iA4 rfl g lx ⟨px,p1,by lia⟩)
 intro σ' H2 p9;refine oE6 p9 λv3 v4 v5 v6 as xss p7=>oA4 p7 λp8 g lx mn=>?_;ext;left;exact k p as xss H2 g lx mn
def jH(m:A7)(ms:List A7):zU (m::ms)=m.length*zU ms:=by
 have:=Vf ms m.length;unfold zU at this ⊢;rw[cU,Nat.one_mul];exact this
theorem Vd:∀{ms:List A7},(∀m∈ms,1<=m.length)->1<=zU ms
 |[],_=>ar _
 |m::ms,h=>by
  rw[jH];exact Nat.mul_pos (h m (bt ..)) (Vd λm hm=>h m (aF _ hm))
theorem zbs{b:A7}:∀{ms:List A7},(∀m∈ms,1<=m.length)->b∈ms->b.length<=zU ms
 |[],_,h=>nomatch h
 |m::ms,h,hb=>by
  have h1:=h m (bt ..);have h2:∀m∈ms,1<=m.length:=λm hm=>h m (aF _ hm);rw[jH];rcases aC.mp hb with rfl|hb
  .exact fv _ (Vd h2)
  .exact aR (zbs h2 hb) (Nat.le_mul_of_pos_left _ h1)
structure GN(B H:Hp)(p:Addr)(as:Ac)(xss:List A7):Prop extends Grow B H p as xss where
 nd:as.Nodup
def LL.setAt{xss:List A7}{ys:A7}(h:LL H as xss)(hb:H b=some (.lst (iv ys))):LL H (as.set i b) (xss.set i ys):=by
 refine⟨by rw[a7,a7,h.len],λj c xs e1 e2=>?_⟩;by_cases hj:i=j
 .subst hj;have l1:=(aa.mp e1).1;have l2:=(aa.mp e2).1;rw[a7]at l1 l2;rw[aN l1]at e1;rw[aN l2]at e2;cases e1;cases e2;exact hb
 .rw[aW hj]at e1 e2;exact h.r j c xs e1 e2
def LL.takeL{xss:List A7}(h:LL H as xss)(n:Nat):LL H (as.take n) (xss.take n):=by
 refine⟨by rw[aE,aE,h.len],λj c xs e1 e2=>?_⟩;rw[gF]at e1 e2
 split at e1
 .rename_i z;rw[aq z]at e2;exact h.r j c xs e1 e2
 .cases e1
def LL.dropL{xss:List A7}(h:LL H as xss)(n:Nat):LL H (as.drop n) (xss.drop n):=by
 refine⟨by rw[b6,b6,h.len],λj c xs e1 e2=>?_⟩;rw[fZ]at e1 e2;exact h.r _ c xs e1 e2
def zez(h:as.Nodup)(n:b∉as):(as.set i b).Nodup:=by
 rw[eQ,da];intro j k hj hk lt;rw[a7]at hj hk;rw[List.getElem_set,List.getElem_set];have ne:=da.mp (eQ.mp h) j k hj hk lt
 split
 .split
  .lia
  .exactλz=>n (z ▸ cr _)
 .split
  .exactλz=>n (z ▸ cr _)
  .exact ne
section
variable{B H:Hp}{p b:Addr}{as:Ac}{xss:List A7}{i:Nat}{ys:A7}
def GN.same{H':Hp}(g:GN B H p as xss)(s:Same H H'):GN B H' p as xss:=⟨g.toGrow.same s,g.nd⟩
def GN.setL(g:GN B H p as xss)(hb:H b=some (.lst (iv ys)))(n:b≠p/\B b=none/\b∉as):GN B (upd H p (.lst ((as.map V.ref).set i (.ref b)))) p (as.set i b) (xss.set i ys):=by
 refine⟨⟨g.nb,λc u hc=>by rw[pF (pG hc g.nb)];exact g.sm c u hc,by rw[pE,de],?_,λc hc=>?_⟩,zez g.nd n.2.2⟩
 .refine LL.put (g.ll.setAt hb) λc hc=>?_;rcases bp hc with hc|rfl
  .exact(g.fr c hc).2
  .exact n.1
 .rcases bp hc with hc|rfl
  .exact g.fr c hc
  .exact⟨n.2.1,n.1⟩
def GN.inL(g:GN B H p as xss)(e:as[i]?=some b):GN B (upd H b (.lst (iv ys))) p as (xss.set i ys):=by
 let⟨nb,np⟩:=g.fr b (ah e);let⟨il,eb⟩:=aa.mp e;refine⟨⟨g.nb,λc u hc=>by rw[pF (pG hc nb)];exact g.sm c u hc,by rw[pF np.symm];exact g.hp,?_,g.fr⟩,g.nd⟩;refine⟨by rw[a7];exact g.ll.len,λj c xs e1 e2=>?_⟩;by_cases hj:i=j
 .subst hj;rw[e]at e1;cases e1;have l2:=(aa.mp e2).1;rw[a7]at l2;rw[aN l2]at e2;cases e2;exact pE
 .rw[aW hj]at e2;let⟨jl,ec⟩:=aa.mp e1;rw[pF (λz=>hj ((List.getElem?_inj il g.nd).mp (by rw[e,e1,z])))];exact g.ll.r j c xs e1 e2
end
structure Sb(n:Nat)(yss:List A7):Prop where
 s:∀ys∈yss,ys.length<=900
 l:yss.length<=40
 b:(yss.length=n/\∀ys∈yss,Pcs ys)->81<zU yss
def zjd:Sp:=λvs H Q _=>∃(l:Addr)(as:Ac)(xss:List A7)(c:Int),vs=[.ref l,.int c]/\H l=some (.lst (as.map V.ref))/\LL H as xss/\xss.length<=24/\Mn xss/\∀p bs yss H',Same H H'->H' p=some (.lst (bs.map V.ref))->LL H' bs yss->Sb xss.length yss->Q (.ref p) H'
def zde(T:Txt K mg a):Cal P w K mg base "_law_spoilt" 1 ["_law_menus","_law_cell"] [] zjd:=T.n9.cal λF=>by
 refine F.okx zbe ?_ ?_
 .walk_at"i"
 walk_at"j";refine oE4 h λl as xss c p7=>oA6 p7 λp8 hl hL x24 mn k=>?_;clear p7 h;subst p8;walk_at"T";refine⟨_,(zh (Z7 (i:=2) zbe.nd rfl (Or.inl rfl) (vars:=["_law_menu"]) (caps:=[]) (N:=["_law_menu"]) (ON:=["_law_menus","_law_cell","_law_bad","_law_at","_law_place"]) (osc:=zf wE) rfl rfl (by right) rfl rfl (zN (pq 0)) (λ_ _ _ _=>(zX 0 (show(["_law_menu"]:A9).Nodup from by symm))) (λ_ _ _ _=>z8) (λ_ _ _ _=>(jA qY qK (za (pq 0) zb))))  (zh (zr 3 zbe.nd (zo qD (z7 (pq 1)) (zo zM (zE zC zB (za (pq 2) zb)) ze)))  (zI (zy (PW.pt (pw_or (zi (qd hr.units1) (zE zC zB (za (pq 2) zb)) ze (zk _)) (pw_or1 (PW.pt (pw_and (zi (qd hr.units1) (zP (pq 1)) ze (zk _)) (pw_and1 (zi (qd hr.units1) (zP (z7 (pq 1))) ze (zk _))))))))  (zd (zj (zo zM (zo zM (qO jZ (pq 2) jg (jf (pq 3))) (zn (za (qO jZ (zn (za (zP (z7 (pq 1))) zb)) jg (jf (zP (z7 (pq 1))))) zb))) (qO jZ (pq 2) (jf (pq 3)) jg))))  zl)  (zh (zr 3 zbe.nd (zo qD (pq 3) (zE zC zB (za (pq 2) zb))))  (zI (zy (zi (qd hr.units1) (zP (pq 1)) ze (zk _))  (zd (zj (zo zM (qO jZ (pq 2) jg (jf (pq 3))) (qO jZ (pq 2) (jf (zo zM (pq 3) ze)) jg))))  zl)  (zI (zy (PW.pt (pw_or (zi (qd hr.units1) (zP (pq 1)) ze (zk _)) (pw_or1 (zi (qd hr.units1) (zP (z7 (pq 1))) ze (zk _)))))  (zd (xr (jk (vars:=["_law_k"]) (caps:=[1]) (N:=["_law_k","_law_cell"]) (ON:=["_law_menus","_law_cell","_law_bad","_law_at","_law_place"]) (osc:=zf wE) rfl rfl (by right) rfl rfl (xt (za (zo zM ze (zP (z7 (pq 1)))) zb)) (λ_ _ _ _=>(zX 0 (show(["_law_k","_law_cell"]:A9).Nodup from by symm))) (λ_ _ _ _=>z8) (λ_ _ _ _=>(zP (zo zM (z7 (pq 1)) (zo qV (pq 0) (pq 0)))))) (xX (pq 2) (pq 3) jb)))  zl)  (zI (zy (zi (qd hr.units1) (zP (pq 1)) ze (zk _))  (zh (zr 3 zbe.nd (zo qD (z7 (pq 1)) (zE zC zB (za (pq 2) zb))))  (zh (zr 4 zbe.nd (zo qD (z7 (pq 1)) (zE zC zB (za (zq (pq 2) (pq 3)) zb))))  (zh (xr (zq (zn (za (Jd wZ ze) (za ze (za ze (za (Jd wZ ze) (za (zo zM ze (ziA (zo qV (pq 1) ze))) zb)))))) (zP (z7 (pq 1)))) (xX (zq (pq 2) (pq 3)) (pq 4) jb))  (zd (zy (PW.pt (pw_and (zi xv (zE zC zB (za (pq 2) zb)) ze (zk _)) (pw_and1 (zi (qd hr.units1) (zP (z7 (pq 1))) ze (zk _)))))  (zd (xr (zn zb) (xX (pq 2) (zo qD (zo zM (pq 3) ze) (zE zC zB (za (pq 2) zb))) jb)))  zl)))))  zl)  (zd (zj (pq 2)))))))))),?_⟩;left;walk_at"d";exists⟨l,rfl,.inl ⟨⟨_,SqL.of hl⟩,λ_ _ _ _ p hp=>?_⟩⟩;let pk:Nat->St->Hp->Prop:=λm σ H'=>∃(v0:Aq)(bs:Ac),σ=[v0]/\GN H H' p bs (xss.take m);refine qb (K:=K) (a:=l) (xs:=as.map V.ref) pk (iE2 _ ([]) ⟨rfl,⟨Grow.new hp,gx⟩⟩) (λm σ H' _ h=>by let⟨_,_,_,g⟩:=h;exact SqL.of (g.sm _ _ hl)) ?_ ?_
 .intro m x σ H1 hm p9;refine oE2 p9 λv0 bs p7=>oA2 p7 λp8 g=>?_;ext;rw[ai,am]at hm;let⟨b,hb,rfl⟩:=hm;let⟨xs,e2,hx⟩:=(hL.same g.sm).at hb;have hil:=(aa.mp e2).1;exists iE2 b _ (iA3 rfl (.inl (SqL.of hx)) (λr hr'=>?_));let⟨n1,n2,n3⟩:=g.toGrow.not hr';have g1:=g.toGrow.same (zc (o:=.lst (iv xs)) hr');refine⟨_,iA3 g1.hp (zm (by rw[ae,g.ll.len,aE];lia)) (iE2 _ (bs++[r]) ⟨rfl,?_⟩)⟩;rw[qz e2];exact⟨g1.push pE n2 n1,List.nodup_append.mpr ⟨g.nd,cT.mpr ⟨(λz=>nomatch z),gx⟩,λy hy z hz e=>n3 (by rw[<- ak.mp hz,<- e];exact hy)⟩⟩
 intro σ H1 p9;refine oE2 p9 λv0 bs p7=>oA2 p7 λp8 g=>?_;ext;rw[ae,hL.len,aG]at g;have lb:(bs.map V.ref).length=xss.length:=by rw[ae,g.ll.len]
 have kk:∀q cs yss H',Same H1 H'->H' q=some (.lst (cs.map V.ref))->LL H' cs yss->Sb xss.length yss->Q (.ref q) H':=λq cs yss H' s=>k q cs yss H' (g.sm.trans s);have ok2:=mn.pc;exists⟨_,.inl ⟨_,SqL.of g.hp,rfl⟩,?_⟩;rw[lb];refine⟨by lia,?_⟩;let⟨d,ed,dl⟩:∃d:Nat,c/3%((xss.length:Int)+1)=d/\d<=xss.length:=by
  have h0:=aU (c/3) (show(xss.length:Int)+1≠0 by lia);have h1:=aP (c/3) (show(0:Int)<(xss.length:Int)+1 by lia);exact⟨(c/3%((xss.length:Int)+1)).toNat,by lia,by lia⟩
 rw[ed];left;let pw:St->Hp->Prop:=λσ' H'=>σ'=[some (.ref l),some (.int c),some (.ref p),some (.int d),none]/\H'=H1/\1<=xss.length;refine cut pw ?_ ?_
 .exists⟨_,.inl ⟨_,SqL.of g.hp,rfl⟩,?_⟩;rw[lb];refine zay (C:=c%3=0/\c/150%2=0) (λ_=>?_) (λn0 hp=>zF (λz1=>zF (λz2=>hp ⟨z1,z2⟩) (λ_=>⟨rfl,rfl,by lia⟩)) (λ_=>⟨rfl,rfl,by lia⟩));refine j7 (SqL.of g.hp) λq1 h1=>?_;rw[vL _ d (by lia)];have t1:=zc (o:=.lst ((bs.map V.ref).take d)) h1;intro q2 h2;have t2:=t1.trans (zc (o:=.lst [.int (c/30%5)]) h2);refine j7 (SqL.of pE) λq3 h3=>?_;let⟨zs,ezs,lz⟩:∃zs:List Int,Qk [.int (c/30%5)] none (some (c/300%2))=iv zs/\zs.length<=1:=by
   rcases(by lia:c/300%2=0\/c/300%2=1)with z|z
   .rw[z];exact⟨[],rfl,by decide⟩
   .rw[z];exact⟨[c/30%5],rfl,ar _⟩
  rw[ezs];have t3:=t2.trans (zc (o:=.lst (iv zs)) h3);intro q4 h4;have t4:=t3.trans (zc (o:=.lst [.ref q3]) h4);refine jN (SqL.of (pH (pH (pH pE h2) h3) h4)) (SqL.of pE) (qN (by rw[aE,lb];simp only[br,dN];lia)) λq5 h5=>?_;have t5:=t4.trans (zc (o:=.lst ((bs.map V.ref).take d++[.ref q3])) h5);refine j7 (SqL.of (t5 _ _ g.hp)) λq6 h6=>?_;rw[vM _ d (by lia)];have t6:=t5.trans (zc (o:=.lst ((bs.map V.ref).drop d)) h6);refine jN (SqL.of (pH pE h6)) (SqL.of pE) (qN (by rw[av,aE,b6,lb];simp only[br,dN];lia)) λq7 h7=>?_;have t7:=t6.trans (zc (o:=.lst ((bs.map V.ref).take d++[.ref q3]++(bs.map V.ref).drop d)) h7);have hq3:=pH (o:=.lst ((bs.map V.ref).take d++[.ref q3]++(bs.map V.ref).drop d)) (pH (o:=.lst ((bs.map V.ref).drop d)) (pH (o:=.lst ((bs.map V.ref).take d++[.ref q3])) (pH (o:=.lst [.ref q3]) (pE (H:=upd (upd H1 q1 _) q2 _) (a:=q3) (o:=.lst (iv zs))) h4) h5) h6) h7;refine kk q7 (bs.take d++[q3]++bs.drop d) (xss.take d++[zs]++xss.drop d) _ t7 (by rw[pE,aZ,aZ,fK,map_drop];rfl) ?_ ⟨λys hy=>?_,by simp;lia,λz=>absurd z.1 (by simp;lia)⟩
  .have gl:=g.ll.same t7;exact((gl.takeL d).append (.one hq3)).append (gl.dropL d)
  .rcases ax.mp hy with hy|hy
   .rcases ax.mp hy with hy|hy
    .have:=(ok2 ys (fu hy)).2.2
     lia
    .rw[ak.mp hy];lia
   .have:=(ok2 ys (fV hy)).2.2
    lia
 rintro σ' H' ⟨rfl,rfl,x1⟩;exists⟨_,.inl ⟨_,SqL.of g.hp,rfl⟩,?_⟩;rw[lb];refine⟨by lia,?_⟩;let⟨q,eq,ql⟩:∃q:Nat,(d:Int)%(xss.length:Int)=q/\q<xss.length:=by
  have h0:=aU (d:Int) (show(xss.length:Int)≠0 by lia);have h1:=aP (d:Int) (show(0:Int)<(xss.length:Int) by lia);exact⟨((d:Int)%(xss.length:Int)).toNat,by lia,by lia⟩
 rw[eq];left;let pD:St->Hp->Prop:=λσ' H2=>σ'=[some (.ref l),some (.int c),some (.ref p),some (.int q),none]/\H2=H'/\c%3≠0;refine cut pD ?_ ?_
 .exists zF (λ_=>?_) (λz=>⟨rfl,rfl,z⟩);exists j7 (SqL.of g.hp) λq1 h1=>?_;rw[vL _ q (by lia)];have t1:=zc (o:=.lst ((bs.map V.ref).take q)) h1;refine j7 (SqL.of (t1 _ _ g.hp)) λq2 h2=>?_;rw[show(q:Int)+1=((q+1:Nat):Int)from rfl,vM _ (q+1) (by lia)];have t2:=t1.trans (zc (o:=.lst ((bs.map V.ref).drop (q+1))) h2);refine jN (SqL.of (pH pE h2)) (SqL.of pE) (qN (by rw[aE,b6,lb];lia)) λq3 h3=>?_;have t3:=t2.trans (zc (o:=.lst ((bs.map V.ref).take q++(bs.map V.ref).drop (q+1))) h3);refine kk q3 (bs.take q++bs.drop (q+1)) (xss.take q++xss.drop (q+1)) _ t3 (by rw[pE,aZ,fK,map_drop]) (((g.ll.same t3).takeL q).append ((g.ll.same t3).dropL (q+1))) ⟨λys hy=>?_,by simp;lia,λz=>absurd z.1 (by simp;lia)⟩;rcases ax.mp hy with hy|hy
  .have:=(ok2 ys (fu hy)).2.2
   lia
  .have:=(ok2 ys (fV hy)).2.2
   lia
 rintro σ' H2 ⟨rfl,rfl,c0⟩;left;let M4_:St->Hp->Prop:=λσ' H'=>∃(cs:Ac)(yss:List A7),σ'=[some (.ref l),some (.int c),some (.ref p),some (.int q),none]/\GN H H' p cs yss/\yss.length=xss.length/\(∀ys∈yss,Pcs ys/\1<=ys.length/\ys.length<=100)/\(c%3=2->∃ys∈yss,82<=ys.length);refine cut M4_ ?_ ?_
 .exists zay (C:=c/30%2=1) (λ_=>?_) (λn2 hp=>zF hp (λ_=>(iE2 bs xss (iA5 rfl g rfl (λys hy=>⟨(ok2 ys hy).1,(ok2 ys hy).2.1,aR (ok2 ys hy).2.2 (by decide)⟩) (λz=>absurd z n2)))));walk_at"d";exists⟨by lia,by lia,λ_ _ _ _ ph hacc=>?_⟩;let M5_:Nat->St->Hp->Prop:=λm σ H'=>∃(v0:Aq)(zs:A7),σ=[v0,some (.int c)]/\Same H2 H'/\H' ph=some (.lst (iv zs))/\zs.length=m/\Pcs zs;refine vK (n:=(82+c/60%19).toNat) M5_ (iE2 _ ([]) (iA5 rfl (zc hacc) pE rfl (λ_ z=>nomatch z))) ?_ ?_
  .intro m σ H3 hm p9;refine oE2 p9 λv0 zs p7=>oA5 p7 λp8 s3 ha lz pz=>?_;ext;simp only[bW];exists⟨mul_okR (by lia) (by lia),⟨_,iA3 ha (zm (by rw[zA];lia)) (iE2 _ (zs++[_]) (iA5 rfl (λb o hb=>by rw[pF (pG hb hacc)];exact s3 b o hb) (by rw[pE,qX]) (by simp[lz]) (λy hy=>?_)))⟩⟩;rcases ax.mp hy with hy|hy
   .exact pz y hy
   .rw[ak.mp hy];lia
  intro σ H3 p9;refine oE2 p9 λv0 zs p7=>oA5 p7 λp8 s3 ha lz pz=>?_;ext;left;have g3:=g.same s3;let⟨n1,n2,n3⟩:=g.toGrow.not hacc;refine jM (j:=q) g3.hp (by rw[wI (by lia) (by lia)];rfl) (iE2 (bs.set q ph) (xss.set q zs) (iA5 rfl (g3.setL ha ⟨n1,n2,n3⟩) a7 (λys hy=>?_) (λ_=>⟨zs,cK.mpr ⟨q,aN ql⟩,by lia⟩)));rcases bp hy with hy|rfl
  .exact⟨(ok2 ys hy).1,(ok2 ys hy).2.1,aR (ok2 ys hy).2.2 (by decide)⟩
  .exact⟨pz,by lia,by lia⟩
 clear g lb;intro σ' H3 p9;refine oE2 p9 λcs yss p7=>oA5 p7 λp8 g ly oy yb=>?_;ext;have lb:(cs.map V.ref).length=yss.length:=by rw[ae,g.ll.len]
 left;let M6_:St->Hp->Prop:=λσ' H'=>∃(v3 v4:Aq)(zss:List A7)(ds:Ac),σ'=[some (.ref l),some (.int c),some (.ref p),v3,v4]/\Grow H H' p ds zss/\Sb xss.length zss;refine cut M6_ ?_ ?_
 .exists zF (λ_=>?_) (λz=>(iE4 _ _ yss cs (iA3 rfl g.toGrow ⟨λys hy=>aR (oy ys hy).2.2 (by decide),by lia,λ_=>?_⟩)))
  rotate_left
  .obtain⟨ys,hy,y82⟩:=yb (by lia);exact aH y82 (zbs (λm hm=>(oy m hm).2.1) hy)
  exists⟨_,.inl ⟨_,SqL.of g.hp,rfl⟩,?_⟩;rw[lb];refine⟨by lia,?_⟩;let⟨r,er,rl⟩:∃r:Nat,c/7%(yss.length:Int)=r/\r<yss.length:=by
   have h0:=aU (c/7) (show(yss.length:Int)≠0 by lia);have h1:=aP (c/7) (show(0:Int)<(yss.length:Int) by lia);exact⟨(c/7%(yss.length:Int)).toNat,by lia,by lia⟩
  rw[er];let⟨b,eb⟩:∃b,cs[r]?=some b:=⟨_,af (by rw[g.ll.len];exact rl)⟩;let⟨ys,ey,hb⟩:=g.ll.at eb;have ob:=oy ys (ah ey);have eV:atI (cs.map V.ref) (r:Int)=some (.ref b):=zJ (by rw[ai,eb];rfl);exists zu (SqL.of g.hp) eV ⟨_,.inl ⟨_,SqL.of hb,rfl⟩,?_⟩;rw[ae];refine⟨by lia,?_⟩;let⟨u,eu,ul⟩:∃u:Nat,c/77%(ys.length:Int)=u/\u<ys.length:=by
   have h0:=aU (c/77) (show(ys.length:Int)≠0 by lia);have h1:=aP (c/77) (show(0:Int)<(ys.length:Int) by lia);exact⟨(c/77%(ys.length:Int)).toNat,by lia,by lia⟩
  rw[eu];exists⟨mul_okR (by decide) (by decide),λq1 h1=>?_⟩;have b0:=aU (c*48271) (show(1000000000000000000000000000000:Int)≠0 by decide);generalize c*48271%1000000000000000000000000000000=w0 at b0 h1 ⊢;let⟨v,hv,ev⟩:=zag (ns:=[-1,5,6,-4,5+w0]) (r:=c/1000%5) (by lia) (by show _<(5:Int);lia);have vb:¬(0<=v/\v<=4):=by
   simp only[aC,aJ,aY]at hv
   lia
  have s1:=zc (o:=.lst [.int (-1),.int 5,.int 6,.int (-4),.int (5+w0)]) h1;have g1:=g.same s1;refine zu (SqL.of pE) ev (zu (SqL.of g1.hp) eV (jM (j:=u) (s1 _ _ hb) (by rw[wI (by lia) (by rw[ae];lia)];rfl) ?_));have g2:=g1.inL (ys:=ys.set u v) eb;rw[show(List.map V.int ys).set u (V.int v)=iv (ys.set u v) by rw[iv,de]];generalize upd (upd H3 q1 (.lst [.int (-1),.int 5,.int 6,.int (-4),.int (5+w0)])) b (.lst (iv (ys.set u v)))=H5 at g2 ⊢;have bad:∀{zss:List A7},(ys.set u v)∈zss->(zss.length=xss.length/\∀ys∈zss,Pcs ys)->81<zU zss:=λhm z=>absurd (z.2 _ hm v (cK.mpr ⟨u,aN ul⟩)) vb;have sz:∀zs∈yss.set r (ys.set u v),zs.length<=900:=λzs hz=>by
   rcases bp hz with hz|rfl
   .have:=(oy zs hz).2.2;lia
   .rw[a7];lia
  have here:(yss.set r (ys.set u v))[r]?=some (ys.set u v):=aN rl;have sb5:Sb xss.length (yss.set r (ys.set u v)):=⟨sz,by rw[a7];lia,bad (ah here)⟩;exists⟨_,.inl ⟨_,SqL.of g2.hp,rfl⟩,?_⟩;rw[lb];refine zF (λy2=>zF (λ_ q2 h2=>?_) (λ_=>(iE4 _ _ _ cs (iA3 rfl g2.toGrow sb5)))) (λ_=>(iE4 _ _ _ cs (iA3 rfl g2.toGrow sb5)));have s2:=zc (o:=.lst []) h2;have g3:=g2.same s2;refine⟨gJ,⟨_,⟨.inl ⟨_,SqL.of g3.hp,rfl⟩,?_⟩⟩⟩;rw[lb];refine⟨by lia,?_⟩;let⟨r2,er2,rl2⟩:∃r2:Nat,((r:Int)+1)%(yss.length:Int)=r2/\r2<yss.length:=by
   have h0:=aU ((r:Int)+1) (show(yss.length:Int)≠0 by lia);have h1:=aP ((r:Int)+1) (show(0:Int)<(yss.length:Int) by lia);exact⟨(((r:Int)+1)%(yss.length:Int)).toNat,by lia,by lia⟩
  have ne:r2≠r:=λz=>by
   subst z;rcases(by lia:r2+1=yss.length\/r2+1<yss.length)with z|z
   .rw[show(r2:Int)+1=(yss.length:Int) by lia,Int.emod_self]at er2
    lia
   .rw[Int.emod_eq_of_lt (by lia) (by lia)]at er2
    lia
  rw[er2];refine jM (j:=r2) g3.hp (by rw[wI (by lia) (by lia)];rfl) (iE4 _ _ ((yss.set r (ys.set u v)).set r2 []) (cs.set r2 q2) (iA3 rfl ((g3.setL pE (g2.toGrow.not h2)).toGrow) ⟨λzs hz=>?_,by rw[a7,a7];lia,bad (ah (i:=r) (by rw[aW ne];exact here))⟩));rcases bp hz with hz|rfl
  .exact sz zs hz
  .exact ck _
 intro σ' H4 p9;refine oE4 p9 λv3 v4 zss ds p7=>oA3 p7 λp8 g4 sb=>?_;ext;left;exact k p ds zss H4 g4.sm g4.hp g4.ll sb
def kOf(o:Bool):List Int×List Int:=if o then(odA,odB)else(evA,evB)
def two_parts(r r':Row){R:Addr->Hp->Prop}(k:∀q t u H',Same H H'->H q=none->H' q=some (.lst [.ref t,.ref u])->(∀p:Addr->Prop,(∀b,H b=none->b≠q->p b)->Reps H' p [.ref t,.ref u] [jX r,jX r'])->R q H') :
  ∀l1,H l1=none->∀l2,upd H l1 (.lst (iv r.ins)) l2=none->∀l3,upd (upd H l1 (.lst (iv r.ins))) l2 (.lst (iv r.outs)) l3=none->∀t,upd (upd (upd H l1 (.lst (iv r.ins))) l2 (.lst (iv r.outs))) l3 (.lst (iv (jm r))) t=none ->
  ∀m1,upd (upd (upd (upd H l1 (.lst (iv r.ins))) l2 (.lst (iv r.outs))) l3 (.lst (iv (jm r)))) t (.tup [.str (wdS r.wd),.ref l1,.ref l2,.ref l3]) m1=none->∀m2,upd (upd (upd (upd (upd H l1 (.lst (iv r.ins))) l2 (.lst (iv r.outs))) l3 (.lst (iv (jm r)))) t (.tup [.str (wdS r.wd),.ref l1,.ref l2,.ref l3])) m1 (.lst (iv r'.ins)) m2=none->∀m3,upd (upd (upd (upd (upd (upd H l1 (.lst (iv r.ins))) l2 (.lst (iv r.outs))) l3 (.lst (iv (jm r)))) t (.tup [.str (wdS r.wd),.ref l1,.ref l2,.ref l3])) m1 (.lst (iv r'.ins))) m2 (.lst (iv r'.outs)) m3=none->∀u,upd (upd (upd (upd (upd (upd (upd H l1 (.lst (iv r.ins))) l2 (.lst (iv r.outs))) l3 (.lst (iv (jm r)))) t (.tup [.str (wdS r.wd),.ref l1,.ref l2,.ref l3])) m1 (.lst (iv r'.ins))) m2 (.lst (iv r'.outs))) m3 (.lst (iv (jm r'))) u=none ->
  ∀q,upd (upd (upd (upd (upd (upd (upd (upd H l1 (.lst (iv r.ins))) l2 (.lst (iv r.outs))) l3 (.lst (iv (jm r)))) t (.tup [.str (wdS r.wd),.ref l1,.ref l2,.ref l3])) m1 (.lst (iv r'.ins))) m2 (.lst (iv r'.outs))) m3 (.lst (iv (jm r')))) u (.tup [.str (wdS r'.wd),.ref m1,.ref m2,.ref m3]) q=none ->
  R q (upd (upd (upd (upd (upd (upd (upd (upd (upd H l1 (.lst (iv r.ins))) l2 (.lst (iv r.outs))) l3 (.lst (iv (jm r)))) t (.tup [.str (wdS r.wd),.ref l1,.ref l2,.ref l3])) m1 (.lst (iv r'.ins))) m2 (.lst (iv r'.outs))) m3 (.lst (iv (jm r')))) u (.tup [.str (wdS r'.wd),.ref m1,.ref m2,.ref m3])) q (.lst [.ref t,.ref u])):=by
 intro l1 h1 l2 h2 l3 h3 t ht;let⟨s1,q1⟩:=Qd r h1 h2 h3 ht;generalize upd (upd (upd (upd H l1 (.lst (iv r.ins))) l2 (.lst (iv r.outs))) l3 (.lst (iv (jm r)))) t (.tup [.str (wdS r.wd),.ref l1,.ref l2,.ref l3])=H1 at s1 q1 ⊢;intro m1 g1 m2 g2 m3 g3 u hu;let⟨s2,q2⟩:=Qd r' g1 g2 g3 hu;generalize upd (upd (upd (upd H1 m1 (.lst (iv r'.ins))) m2 (.lst (iv r'.outs))) m3 (.lst (iv (jm r')))) u (.tup [.str (wdS r'.wd),.ref m1,.ref m2,.ref m3])=H2 at s2 q2 ⊢;intro q hq;have s3:=zc (o:=.lst [.ref t,.ref u]) hq;exact k q t u _ (s1.trans (s2.trans s3)) (zK (s1.trans s2) hq) pE λp hp=>.cons ((q1 (λb=>H b=none) λ_ h=>h).keep λb o pb hb=>⟨hp b pb (pG (s2 _ _ hb) hq),s3 _ _ (s2 _ _ hb)⟩) (.cons ((q2 (λb=>H b=none) λb hb=>zK s1 hb).keep λb o pb hb=>⟨hp b pb (pG hb hq),s3 _ _ hb⟩) .nil)
inductive spLines(vs:Ap)(H:Hp)(Q:VK)(E:XK):Prop
 |i (tn:Int):vs=[.int tn]->(∀(t:Addr)(c r0 r1:Nat) H',Same H H'->(1<=r0/\r0<=3)->(1<=r1/\r1<=3)->Rep H' (Off []) (.ref t) (.tup [.lst ((b2 r0 r1).map Zn),.lst ((r4 c 1 2 (kOf (decide (tn%2=1))).1 (kOf (decide (tn%2=1))).2).map jX)])->Q (.ref t) H')->spLines vs H Q E
theorem zaP(T:Txt K mg a):Cal P w K mg base "_law_lines_of" 1 ["_law_turn"] [] spLines:=T.mJ.cal λF=>by
 refine F.okx WB ?_ ?_
 .walk_at"i"
 walk_at"j";rcases h with⟨tn,rfl,k⟩;walk_at"T";refine⟨_,(zg (zr 1 WB.nd (zn (za (zT (za z9 (za (zn zb) (za (zn (za ze zb)) (za (zn (za ze (za ze (za ze (za ze zb))))) zb))))) (za (zT (za z9 (za (zn zb) (za (zn (za ze zb)) (za (zn (za ze (za ze (za ze (za ze (za ze (za ze zb))))))) zb))))) zb))))  (zI (zy (zi (qd hr.units1) (zP (pq 0)) ze (zk _))  (zd (zr 1 WB.nd (zn (za (zT (za z9 (za (zn zb) (za (zn (za ze zb)) (za (zn (za ze (za ze (za ze (za ze (za ze (za ze zb))))))) zb))))) (za (zT (za z9 (za (zn zb) (za (zn (za ze zb)) (za (zn (za ze (za ze (za ze (za ze (za ze zb)))))) zb))))) zb)))))  zl)  (zg (zw (qH ap b5 bZ wm (pq 1) (za (zn (za (zT (za z9 (za (zn (za ze zb)) (za (zn zb) (za (zn (za ze zb)) zb))))) (za (zT (za z9 (za (zn (za ze zb)) (za (zn zb) (za (zn (za ze zb)) zb))))) zb))) zb)))  (zg (zr 2 WB.nd (zP (z7 (pq 0))))  (zd (zj (zT (za (zn (za (zT (za (zo zM ze (zP (z7 (pq 0)))) (za ze zb))) (za (zT (za (zo zM ze (zP (z7 (pq 0)))) (za ze zb))) zb))) (za (zo zM (qO jZ (pq 1) (jf (pq 2)) jg) (qO jZ (pq 1) jg (jf (pq 2)))) zb))))))))),?_⟩;exists two_parts (SA evA) (SB evB) λR t u H1 s1 nR hR rR=>?_;exists cut (λσ' H'=>∃R t u,σ'=[some (.int tn),some (.ref R),none]/\Same H H'/\H R=none/\H' R=some (.lst [.ref t,.ref u])/\Reps H' (Off [R]) [.ref t,.ref u] [jX (SA (kOf (decide (tn%2=1))).1),jX (SB (kOf (decide (tn%2=1))).2)]) ?_ ?_
 .exists zF (λz=>?_) (λz=>?_)
  .rw[bh z];refine two_parts (SA odA) (SB odB) (R:=λq H'=>∃R t u,[some (V.int tn),some (V.ref q),none]=[some (V.int tn),some (V.ref R),none]/\Same H H'/\H R=none/\H' R=some (.lst [.ref t,.ref u])/\Reps H' (Off [R]) [.ref t,.ref u] [jX (SA (kOf true).1),jX (SB (kOf true).2)]) λR2 t2 u2 H2 s2 n2 h2 r2=>?_;exact iE3 R2 t2 u2 (iA5 rfl (s1.trans s2) (zK s1 n2) h2 (r2 (Off [R2]) λb _ ne z=>ne (ak.mp z)))
  .rw[a8 z];exact iE3 R t u (iA5 rfl s1 nR hR (rR (Off [R]) λb _ ne z=>ne (ak.mp z)))
 clear s1 nR hR rR;intro σ' H2 p9;refine oE3 p9 λR t u p7=>oA5 p7 λp8 s2 nR hR rR=>?_;ext;exists⟨.inl ⟨rfl,_,SqL.of hR⟩,two_parts (DA 1) (DB 2) (R:=λq H'=>zdu (V.ref R) [V.ref q] H' _) λq t2 u2 H3 s3 nq hq rq=>?_⟩;have hR3:=s3 _ _ hR;refine iE4 R q _ _ (iA6 rfl rfl hR3 hq (qN (by show 4<=1000;decide)) ?_);have r3:Reps H3 (Off [R]) [.ref t,.ref u,.ref t2,.ref u2] ([SA (kOf (decide (tn%2=1))).1,SB (kOf (decide (tn%2=1))).2,DA 1,DB 2].map jX):=(rR.same s3).append (rq (Off [R]) λb hb _ z=>by rw[ak.mp z,hR]at hb;cases hb);have f4:Fr [R] H3 (upd H3 R (.lst ([V.ref t,.ref u]++[V.ref t2,.ref u2]))):=qx (by simp);have r4':=r3.fr f4;have s4:Same H (upd H3 R (.lst ([V.ref t,.ref u]++[V.ref t2,.ref u2]))):=((s2.trans s3).fr.trans f4).same λm hm=>by rw[ak.mp hm];exact nR
 have g4:upd H3 R (.lst ([V.ref t,.ref u]++[V.ref t2,.ref u2])) R=some (.lst ([V.ref t,.ref u]++[V.ref t2,.ref u2])):=pE;show ∀p,upd H3 R (.lst ([V.ref t,.ref u]++[V.ref t2,.ref u2])) p=none->_
 generalize upd H3 R (.lst ([V.ref t,.ref u]++[V.ref t2,.ref u2]))=H4 at r4' s4 g4 ⊢;clear f4 r3 hR3 hq rq nq s3 rR hR s2;intro p1 h1 p2 h2 p3 h3;let⟨x,ex,xb⟩:∃x:Nat,1+tn/8%3=x/\1<=x/\x<=3:=⟨(1+tn/8%3).toNat,by lia,by lia,by lia⟩;let⟨y,ey,yb⟩:∃y:Nat,1+tn/24%3=y/\1<=y/\y<=3:=⟨(1+tn/24%3).toNat,by lia,by lia,by lia⟩;rw[ex]at h2 h3 ⊢;rw[ey]at h3 ⊢;have s5:=((zc (o:=.tup [.int x,.int 1]) h1).trans (zc (o:=.tup [.int y,.int 1]) h2)).trans (zc (o:=.lst [.ref p1,.ref p2]) h3);have e1:=pH (o:=.lst [.ref p1,.ref p2]) (pH (o:=.tup [.int y,.int 1]) (pE (H:=H4) (a:=p1) (o:=.tup [.int x,.int 1])) h2) h3;have e2:=pH (o:=.lst [.ref p1,.ref p2]) (pE (H:=upd H4 p1 (.tup [.int x,.int 1])) (a:=p2) (o:=.tup [.int y,.int 1])) h3;have e3:upd (upd (upd H4 p1 (.tup [.int x,.int 1])) p2 (.tup [.int y,.int 1])) p3 (.lst [.ref p1,.ref p2]) p3=some (.lst [.ref p1,.ref p2]):=pE;generalize upd (upd (upd H4 p1 (.tup [.int x,.int 1])) p2 (.tup [.int y,.int 1])) p3 (.lst [.ref p1,.ref p2])=H5 at s5 e1 e2 e3 ⊢;let⟨c,ec,cl⟩:∃c:Nat,tn/2%4=c/\c<4:=⟨(tn/2%4).toNat,by lia,by lia⟩;rw[ec];refine j7 (SqL.of (s5 _ _ g4)) λq1 h6=>?_;rw[vM _ c (by show c<=4;lia)];have s6:=s5.trans (zc (o:=.lst ([V.ref t,.ref u,.ref t2,.ref u2].drop c)) h6);refine j7 (SqL.of (s6 _ _ g4)) λq2 h7=>?_;rw[vL _ c (by show c<=4;lia)];have s7:=s6.trans (zc (o:=.lst ([V.ref t,.ref u,.ref t2,.ref u2].take c)) h7);refine jN (SqL.of (pH pE h7)) (SqL.of pE) (qN (by rw[b6,aE];show 4-c+min c 4<=1000;lia)) λq3 h8 q4 h9=>?_;have s9:=zc (o:=.tup [.ref p3,.ref q3]) h9;have s8:=(s7.trans (zc (o:=.lst ([V.ref t,.ref u,.ref t2,.ref u2].drop c++[V.ref t,.ref u,.ref t2,.ref u2].take c)) h8)).trans s9;have s59:Same H5 _:=((zc h6).trans ((zc h7).trans (zc h8))).trans s9;refine k q4 c x y _ (s4.trans s8) xb yb ?_;have rr:=((r4'.drop c).append (r4'.take c)).same s8;rw[<- map_drop,<- fK,<- aZ]at rr;have er:[SA (kOf (decide (tn%2=1))).1,SB (kOf (decide (tn%2=1))).2,DA 1,DB 2].drop c++[SA (kOf (decide (tn%2=1))).1,SB (kOf (decide (tn%2=1))).2,DA 1,DB 2].take c=r4 c 1 2 (kOf (decide (tn%2=1))).1 (kOf (decide (tn%2=1))).2:=by
  match c,cl with
  |0,_=>rfl
  |1,_=>rfl
  |2,_=>rfl
  |3,_=>rfl
 rw[er]at rr;have no:∀b:Addr,Off [] b:=λb z=>nomatch z;exact Reps.mkT (.cons (Reps.mk' (p:=Off []) (.cons (Reps.mkT (vs:=[.int x,.int 1]) (.cons .int (.cons .int .nil)) (no _) (s59 _ _ e1)) (.cons (Reps.mkT (vs:=[.int y,.int 1]) (.cons .int (.cons .int .nil)) (no _) (s59 _ _ e2)) .nil)) (no _) (s59 _ _ e3)) (.cons (rr.all.mk' (p:=Off []) (no _) (s9 _ _ pE)) .nil)) (no _) pE
def zgY(b:Bool)(xs:Ap):HO:=if b then .lst xs else .tup xs
def VN{p:Addr}{b:Bool}(h:H p=some (zgY b xs)):SqB b K H p xs:=by
 cases b with
 |true=>exact SqL.of h
 |false=>exact SqT.of h
def zfZ{p:Addr}{b:Bool}(h:H p=some (zgY b xs)):zi9 K (.ref p) H xs.length:=by
 cases b with
 |true=>exact .inl ⟨_,SqL.of h,rfl⟩
 |false=>exact .inr ⟨_,SqT.of h,rfl⟩
def zie:Sp:=λvs H Q _=>∃(b1 b2:Bool)(p q:Addr)(ns:A7),vs=[.ref p,.ref q]/\H p=some (zgY b1 (iv ns))/\H q=some (zgY b2 (iv ns))/\∀H',Same H H'->Q (.bl true) H'
def vP(T:Txt K mg a):Cal P w K mg base "_law_numbers" 1 ["_law_found","_law_due"] [] zie:=T.nC.cal λF=>by
 refine F.okx V4 ?_ ?_
 .walk_at"i"
 walk_at"j";let⟨b1,b2,p,q,ns,rfl,hp,hq,k⟩:=h;walk_at"T";refine⟨_,(zg (zy (zi (wl hr.units1) (zE zC zB (za (pq 0) zb)) (zE zC zB (za (pq 1) zb)) (zk _))  (zd (zj qU))  zl)  (zI (z6 qj rfl (zah (za (pq 0) (za (pq 1) zb))) (j8 (n:=2) rfl (zR (zX 2 V4.nd) (zR (zX 3 V4.nd) jn)))  (zd (zy (PW.pt (pw_or (qw (zY (zE jr zO (za (pq 2) (za (XB zi2) zb))) (λ_=>rfl))) (pw_or (zY (zE jr zO (za (pq 2) (za (XB zhC) zb))) (λ_=>rfl)) (pw_or1 (zi (wl hr.units1) (pq 2) (pq 3) (zk _))))))  (zd (zj qU))  zl)))  (zd (zj qU)))),?_⟩;exists⟨_,zfZ hp,gJ,_,zfZ hq,zF (λz=>absurd rfl z) (λ_=>?_)⟩;exists cut (λσ' H'=>Same H H') ?_ ?_
 .walk_at"c";exists⟨b1,b2,p,q,iv ns,iv ns,rfl,VN hp,VN hq,?_⟩;refine zdJ (K:=K) (xs:=iv ns) (ys:=iv ns) (λi σ H'=>∃v2 v3,σ=[some (.ref p),some (.ref q),v2,v3]/\Same H H') ⟨_,_,rfl,Same.refl _⟩ (λi σ H' _ h=>by let⟨_,_,_,s⟩:=h;exact⟨VN (s _ _ hp),VN (s _ _ hq)⟩) ?_ ?_
  .rintro i x y t σ H' hi hj ht ⟨v2,v3,rfl,s⟩;rw[hi]at hj;cases hj;let⟨n,_,rfl⟩:=xz hi;have s2:=s.trans (zc (o:=.tup [.int n,.int n]) ht);refine un2 pE ?_;left;exact⟨_,_,rfl,s2⟩
  .rintro σ H' ⟨v2,v3,rfl,s⟩;exact s
 rintro σ' H' s;left;exact k _ s
structure Ft(H:Hp)(o:List V->HO)(t:Addr)(s:A7)(tk:A1)(x y:Nat):Prop where
 ex:∃sl tl us,H t=some (o [.ref sl,.ref tl,.int x,.int y])/\H sl=some (.lst (iv s))/\H tl=some (.lst us)/\Rts H us tk
inductive Td(H:Hp):V->Addr->Prop
 |no {l:Addr}:H l=some (.lst [])->Td H .non l
 |yes {t l:Addr} {s:A7} {tk:A1} {x y:Nat}:Ft H .tup t s tk x y->Ft H .lst l s tk x y->tk.length<=100->Td H (.ref t) l
def zdG{Q:VK}{p:Addr}(h:H p=some (.lst xs))(q:Q (.bl true) H):zac K [.ref p,.ty "list"] H Q:=⟨_,_,_,_,rfl,.old (.lst h),.inl ⟨_,rfl,rfl⟩,q⟩
inductive spTdL(vs:Ap)(H:Hp)(Q:VK)(E:XK):Prop
 |i (v:V) (l:Addr):vs=[v,.ref l]->Td H v l->(∀H',Same H H'->Q (.bl true) H')->spTdL vs H Q E
theorem zb7(T:Txt K mg a):Cal P w K mg base "_law_told" 2 ["_law_found","_law_due"] [] spTdL:=T.oM.cal λF=>by
 refine F.okx zei ?_ ?_
 .walk_at"i"
 walk_at"j";rcases h with⟨v,l,rfl,td,k⟩;walk_at"T";refine⟨_,(zg (zy (zi (qd hr.units1) (zE zC zB (za (pq 1) zb)) ze (zk _))  (zd (zj (xI op_isN (pq 0) zG (zk _))))  zl)  (zg (zy (PW.pt (pw_or (qw (zY (zE jr zO (za (pq 0) (za (XB wv) zb))) (λ_=>rfl))) (pw_or1 (zi (wl hr.units1) (zE zC zB (za (pq 0) zb)) ze (zk _)))))  (zd (zj qU))  zl)  (zg (zy (PW.pt (pw_or (qw (zY (zE jr zO (za (zq (pq 0) ze) (za (XB qK) zb))) (λ_=>rfl))) (pw_or1 (qw (zY (zE jr zO (za (zq (pq 0) ze) (za (XB qK) zb))) (λ_=>rfl))))))  (zd (zj qU))  zl)  (zg (zy (PW.pt (pw_or (qw (zY ‹(zq (pq 0) ze) (za (zq (pq 1) ze) zb)› (λ_=>rfl))) (pw_or1 (zi (wl hr.units1) (zE zC zB (za (zq (pq 0) ze) zb)) (zE zC zB (za (zq (pq 1) ze) zb)) (zk _)))))  (zd (zj qU))  zl)  (zI (z6 qj rfl (zah (za (zq (pq 0) ze) (za (zq (pq 1) ze) zb))) (j8 (n:=2) rfl (zR (zX 2 zei.nd) (zR (zX 3 zei.nd) jn)))  (zd (zy (PW.pt (pw_or (qw (zY (zE jr zO (za (pq 2) (za (XB wv) zb))) (λ_=>rfl))) (pw_or1 (qw (zY ‹(pq 2) (za (pq 3) zb)› (λ_=>rfl))))))  (zd (zj qU))  zl)))  (zd (zj ‹(qO zih (pq 0) (jf ze) jg) (za (qO jZ (pq 1) (jf ze) jg) zb)›))))))),?_⟩;left;cases td with
 |no hl =>
  refine⟨_,.inl ⟨_,SqL.of hl,rfl⟩,?_⟩;left;exact k _ (Same.refl _)
 | @yes t _ s tk x y ft fl ln =>
  refine oE3 ft.ex λsl tl us p7=>oA4 p7 λht hsl htl ru=>?_;clear p7;refine oE3 fl.ex λsl' tl' us' p7=>oA4 p7 λhl hsl' htl' ru'=>?_;clear p7;refine⟨_,.inl ⟨_,SqL.of hl,rfl⟩,?_⟩;exists zdF ht ?_;exists⟨_,.inr ⟨_,SqT.of ht,rfl⟩,zF (λz=>absurd rfl z) (λ_=>?_)⟩;exists pI ht at0 ⟨kh,zdG hsl ?_⟩;exists pI ht (show atI _ 1=some (.ref tl)from rfl) ⟨kh,zdG htl ?_⟩;exists uc (vP T).mono (pI ht at0 (zu (SqL.of hl) at0 (iE5 true true sl sl' s (iA4 rfl hsl hsl' (λH1 s1=>?_)))));exists pI (s1 _ _ ht) (show atI _ 1=some (.ref tl)from rfl) ⟨_,iA3 (.inl ⟨_,SqL.of (s1 _ _ htl),rfl⟩) gJ (zu (SqL.of (s1 _ _ hl)) (show atI _ 1=some (.ref tl')from rfl) ⟨_,.inl ⟨_,SqL.of (s1 _ _ htl'),rfl⟩,?_⟩)⟩;refine zF (λz=>absurd (by rw[ru.len,ru'.len]) z) (λ_=>?_);exists cut (λσ' H'=>∃v2 v3,σ'=[some (.ref t),some (.ref l),v2,v3]/\Same H H') ?_ ?_
  .walk_at"c";exists pI (s1 _ _ ht) (show atI _ 1=some (.ref tl)from rfl) (zu (SqL.of (s1 _ _ hl)) (show atI _ 1=some (.ref tl')from rfl) (iE6 true true tl tl' us us' (iA4 rfl (SqL.of (s1 _ _ htl)) (SqL.of (s1 _ _ htl')) ?_)));refine zdJ (K:=K) (xs:=us) (ys:=us') (λi σ H'=>∃v2 v3,σ=[some (.ref t),some (.ref l),v2,v3]/\Same H H') (iE2 _ _ ⟨rfl,s1⟩) (λi σ H' _ h=>by let⟨_,_,_,s⟩:=h;exact⟨SqL.of (s _ _ htl),SqL.of (s _ _ htl')⟩) ?_ ?_
   .intro i x y q σ H' hi hj hq p9;refine oE2 p9 λv2 v3 p7=>oA2 p7 λp8 s=>?_;ext;have il:=(aa.mp hi).1;let⟨z,hz⟩:∃z,tk[i]?=some z:=⟨_,af (by rw[<- ru.len];exact il)⟩;refine oE1 (ru.r i x z hi hz) λp1 p7=>oA3 p7 λp8 h1 _=>?_;clear p7;subst p8;refine oE1 (ru'.r i y z hj hz) λp2 p7=>oA3 p7 λp8 h2 _=>?_;clear p7;subst p8;have s2:=s.trans (zc (o:=.tup [.ref p1,.ref p2]) hq);refine un2 pE ?_;generalize upd H' q _=H3 at s2 ⊢;exists zdF (s2 _ _ h1) ?_;exists uc (vP T).mono (iE5 false false p1 p2 ([z.1,z.2]) (iA4 rfl (s2 _ _ h1) (s2 _ _ h2) (λH4 s4=>?_)));left;exact iE2 _ _ ⟨rfl,s2.trans s4⟩
   .intro σ H' p9;refine oE2 p9 λv2 v3 p7=>oA2 p7 λp8 s=>?_;ext;exact iE2 _ _ ⟨rfl,s⟩
  intro σ' H2 p9;refine oE2 p9 λv2 v3 p7=>oA2 p7 λp8 s2=>?_;ext;exists uc (vP T).mono (iE2 t _ (iA4 rfl (SqT.of (s2 _ _ ht)) (λz=>absurd z.1 (show ¬HT.sIx 4 0 (some 2)=0 by decide)) (λq1 h1=>j7 (SqL.of (pH (s2 _ _ hl) h1)) λq2 h2=>?_)));exact iE5 false true q1 q2 ([(x:Int),y]) (iA4 rfl (pH pE h2) pE (λH3 s3=>k H3 (s2.trans ((zc h1).trans ((zc h2).trans s3)))))
def zjP(K:A0)(neg:Bool):R2:=λx y H Q=>∃(p:Addr)(ps:Ac)(n:Nat)(e:Addr->Bool),y=.ref p/\SqL K H p (ps.map V.ref)/\n<=8/\(∀b∈ps,DE K H n (.ref b) x (e b))/\Q (.bl (if neg then !ps.any e else ps.any e)) H
def zfv(e:Addr->Bool):Value->Bool
 | .ref b=>e b
 |_=>false
theorem zbn(e:Addr->Bool):∀{ps:Ac}{us:A8},Vals (ps.map V.ref) us->us.any (zfv e)=ps.any e
 |[],_,.nil=>rfl
 |p::ps,_,.cons r t=>by
  cases r;rw[dZ,dZ,zbn e t]
  rfl
theorem W9{X:Cx}{p6:A3}{s:An}{σ:St}{H:Hp}(I:Inv X p6 σ H s){A:Ao}{n:Nat}{x:V}{v:Am}{e:Addr->Bool}(rx:RelV x v)(hu:A.units+n<cLine):∀{ps:Ac}{us:A8},Vals (ps.map V.ref) us->(∀b∈ps,DE X.K H n (.ref b) x (e b))->∀u∈us,SeqAt.EqAt A s u v (zfv e u)
 |[],_,.nil,_=>λu hu=>by cases hu
 |p::ps,_,.cons r t,f=>λu' hu'=>by
  rcases aC.mp hu' with rfl|hu'
  .have d:=f p (bt ..);cases r;exact zbV I d rfl rx hu
  .exact W9 I rx hu t (λz hz=>f z (aF _ hz)) u' hu'
def zex{X:Cx}(hu:X.A.units+100<cLine):OpR X (compareOp .NotIn) (zjP X.K true):=by
 intro p6 s σ H x y v u Q I rx ry h;let⟨p,ps,n,e,rfl,hq,hn,f,q⟩:=h;cases ry;let⟨pf,r,pl,hz⟩:=I.list hq;refine SeqAt.notIn_listAt (zfv e) pl.isList (λw hw=>W9 I rx (by simp only[dM];lia) r f w (by simpa using hw)) ⟨.bl _,H,I,rfl,?_⟩;rw[show pf.toArray.any (zfv e)=pf.any (zfv e) by simp,zbn e r];exact q
def zjQ(K:A0):R2:=λx y H Q=>(∃(p q:Addr)(xs ys:Ap),x=.ref p/\y=.ref q/\SqL K H p xs/\SqL K H q ys/\xs.length≠ys.length/\Q (.bl false) H)\/zad K x y H Q
def ziG{X:Cx}(hu:X.A.units+100<cLine):OpR X (compareOp .Eq) (zjQ X.K):=by
 refine OpR.or (λp6 s σ H x y v u Q I rx ry h=>?_) (zfQ hu);let⟨p,q,xs,ys,rfl,rfl,h1,h2,hl,k⟩:=h;cases rx;cases ry;let⟨pf,r,p,_⟩:=I.list h1;let⟨its2,r2,p2,_⟩:=I.list h2;have e1:=r.length;have e2:=r2.length;exact dI p.isList p2.isList (by simp only[au];simp;lia) (by lia) _ _ _ _ ⟨.bl false,H,I,rfl,k⟩
section
variable{c p q r0 r1:Nat}{ka kb:A7}
def zhV(hp:p<=4)(hq:q<=4)(h1:1<=ka.length/\ka.length<=6/\ww ka)(h2:1<=kb.length/\kb.length<=6/\ww kb):∀r∈r4 c p q ka kb,r.ok:=λr hr=>by
 rcases r4_mem.mp hr with rfl|rfl|rfl|rfl
 .exact⟨rfl,⟨_,rfl⟩,by show(1:Int)<=3;decide,by show(3:Int)<=4;decide,h1⟩
 .exact⟨rfl,⟨_,rfl⟩,by show(1:Int)<=4;decide,by show(4:Int)<=4;decide,h2⟩
 .exact⟨⟨_,rfl⟩,rfl,by show(0:Int)<=p;lia,by show(p:Int)<=4;lia⟩
 .exact⟨⟨_,rfl⟩,rfl,by show(0:Int)<=q;lia,by show(q:Int)<=4;lia⟩
def zdv:zV (b2 r0 r1) (r4 c p q ka kb):=by
 refine⟨⟨⟨by show 1<=2;decide,by show 2<=24;decide⟩,by rw[Xx];decide,by rw[Xx];decide⟩,?_,?_⟩
 .match c with
  |0=>exact bD _
  |1=>exact List.Perm.swap ..
  |2=>exact bD _
  |_+3=>exact bD _
 .match c with
  |0=>exact bD _
  |1=>exact bD _
  |2=>exact bD _
  |_+3=>exact List.Perm.swap ..
def zit:(zp .drain (r4 c p q ka kb)).length=2:=by
 match c with
 |0=>rfl
 |1=>rfl
 |2=>rfl
 |_+3=>rfl
def zfz(x y:Nat):∃u v,((u=x/\v=y)\/(u=y/\v=x))/\ju (r4 c p q ka kb) [(x:Int),(y:Int)] 2=r4 c u v ka kb:=by
 match c with
 |0=>exact⟨x,y,.inl ⟨rfl,rfl⟩,rfl⟩
 |1=>exact⟨x,y,.inl ⟨rfl,rfl⟩,rfl⟩
 |2=>exact⟨x,y,.inl ⟨rfl,rfl⟩,rfl⟩
 |_+3=>exact⟨y,x,.inr ⟨rfl,rfl⟩,rfl⟩
def zgD(h0:1<=r0/\r0<=3)(h1:1<=r1/\r1<=3):∀b∈b2 r0 r1,zH b.1 b.2:=λb hb=>by
 simp only[aC,aJ,aY]at hb;rcases hb with rfl|rfl
 .exact⟨by show(1:Int)<=r0;lia,by show(r0:Int)<=6;lia,by show(1:Int)<=1;decide,by show(1:Int)<=4;decide⟩
 .exact⟨by show(1:Int)<=r1;lia,by show(r1:Int)<=6;lia,by show(1:Int)<=1;decide,by show(1:Int)<=4;decide⟩
end
def zax(o:Bool):(1<=(kOf o).1.length/\(kOf o).1.length<=6/\ww (kOf o).1)/\(1<=(kOf o).2.length/\(kOf o).2.length<=6/\ww (kOf o).2):=by
 cases o<;>exact⟨⟨by decide,by decide,by unfold ww;decide+kernel⟩,by decide,by decide,by unfold ww;decide+kernel⟩
def ziW{rs:At}(h:Ev bs rs lim [s] none):ji bs (wRs rs s) lim:=by
 cases h with
 |long n=>exact n
 |on _ _ h=>cases h
def zbI{c r0 r1 lim:Nat}{o:Bool}(h0:1<=r0/\r0<=3)(h1:1<=r1/\r1<=3)(hs:s.length=2)(pc:Pcs s)(hl:lim=200/\o=false\/300<=lim/\o=true):¬ji (b2 r0 r1) (wRs (r4 c 1 2 (kOf o).1 (kOf o).2) s) lim/\(o=true->(∀p∈s,p≠0)->ji (b2 r0 r1) (wRs (r4 c 1 2 (kOf o).1 (kOf o).2) s) 200):=by
 let⟨x',y',rfl⟩:∃x y,s=[x,y]:=by
  match s,hs with
  |[x,y],_=>exact⟨x,y,rfl⟩
 have px:=pc x' (by simp);have py:=pc y' (by simp);let⟨x,rfl⟩:∃x:Nat,x'=x:=⟨x'.toNat,by lia⟩;let⟨y,rfl⟩:∃y:Nat,y'=y:=⟨y'.toNat,by lia⟩;let⟨u,v,huv,e⟩:=zfz (c:=c) (p:=1) (q:=2) (ka:=(kOf o).1) (kb:=(kOf o).2) x y;have e:wRs (r4 c 1 2 (kOf o).1 (kOf o).2) [(x:Int),(y:Int)]=r4 c u v (kOf o).1 (kOf o).2:=e;rw[e];have hu:u<=4:=by lia
 have hv:v<=4:=by lia
 have bo:=zgD h0 h1;have ro:=zhV (c:=c) hu hv (zax o).1 (zax o).2;rcases hl with⟨rfl,rfl⟩|⟨hl,rfl⟩
 .exact⟨zjt bo ro hu hv h0 h1,λz=>nomatch z⟩
 .refine⟨zjr bo ro hu hv h0 h1 hl,λ_ nz=>?_⟩;have nx:=nz x (by simp);have ny:=nz y (by simp);exact zjs bo ro ⟨by lia,hu⟩ ⟨by lia,hv⟩ h0 h1
def za3(K:A0):Sp:=λvs H Q _=>∃(l:Addr)(ns:A7),vs=[.ref l]/\SqL K H l (ns.map V.int)/\ns.length<=63/\∀H',Q (.bl true) H'
structure Md(md tn:Int)(bs:A1)(rs:At)(lim:Nat):Prop where
 wok:zV bs rs
 bo:∀b∈bs,zH b.1 b.2
 ro:∀r∈rs,r.ok
 lm:lim<=1000
 l3:md≠3->lim<=25
 m3:md=3->∃c r0 r1 o,bs=b2 r0 r1/\rs=r4 c 1 2 (kOf o).1 (kOf o).2/\(1<=r0/\r0<=3)/\(1<=r1/\r1<=3)/\(lim=200/\o=false\/300<=lim/\o=true)
theorem Ve:∀{ms:List A7},(∀m∈ms,m.length=1)->zU ms=1
 |[],_=>rfl
 |m::ms,h=>by rw[jH,h m (bt ..),Ve λm hm=>h m (aF _ hm)]
theorem Vc:∀(ms:List A7)(i:Nat),zU (ms.set i [])<=zU ms
 |[],_=>ar _
 |m::ms,0=>by rw[gA,jH,dN,Nat.zero_mul];exact ck _
 |m::ms,i+1=>by rw[gC,jH,jH];exact Nat.mul_le_mul_left _ (Vc ms i)
def Grow.setL{B H:Hp}{p b:Addr}{xss:List A7}{ys:A7}(g:Grow B H p as xss)(hb:H b=some (.lst (iv ys)))(n:b≠p/\B b=none/\b∉as):Grow B (upd H p (.lst ((as.map V.ref).set i (.ref b)))) p (as.set i b) (xss.set i ys):=by
 refine⟨g.nb,λc u hc=>by rw[pF (pG hc g.nb)];exact g.sm c u hc,by rw[pE,de],?_,λc hc=>?_⟩
 .refine LL.put (g.ll.setAt hb) λc hc=>?_;rcases bp hc with hc|rfl
  .exact(g.fr c hc).2
  .exact n.1
 .rcases bp hc with hc|rfl
  .exact g.fr c hc
  .exact⟨n.2.1,n.1⟩
def Du(H:Hp)(l:Addr):Option (Option (List Int×List (Int×Int)×Nat×Nat))->Prop
 |none=>H l=some (.lst [.bl false])
 |some none=>H l=some (.lst [])
 |some (some (s,tk,x,y))=>Ft H .lst l s tk x y
def Fo(a:Ad)(H:Hp)(v c:V):Option (Option (List Int×List (Int×Int)×Nat×Nat))->Prop
 |none=>v=.non/\∃e,c=.ref e/\H e=some (Qi e (.ref a.h))
 |some none=>v=.non/\c=.non
 |some (some (s,tk,x,y))=>c=.non/\∃t,v=.ref t/\Ft H .tup t s tk x y
def Ft.same{H H':Hp}{o:List V->HO}{t:Addr}{tk:A1}{x y:Nat}(h:Ft H o t s tk x y)(m:Same H H'):Ft H' o t s tk x y:=by
 let⟨sl,tl,us,h1,h2,h3,h4⟩:=h.ex;exact⟨sl,tl,us,m _ _ h1,m _ _ h2,m _ _ h3,h4.same m⟩
theorem Du.same{H H':Hp}{l:Addr}(m:Same H H'):∀{o},Du H l o->Du H' l o
 |none,h=>m _ _ h
 |some none,h=>m _ _ h
 |some (some _),h=>Ft.same h m
theorem Fo.same{H H':Hp}{v c:V}(m:Same H H'):∀{o},Fo a H v c o->Fo a H' v c o
 |none,⟨h,e,h1,h2⟩=>⟨h,e,h1,m _ _ h2⟩
 |some none,h=>h
 |some (some _),⟨h,t,h1,h2⟩=>⟨h,t,h1,Ft.same h2 m⟩
def zhp{A G:Prop}[Decidable A]{N:St->Hp->Prop}{σ:St}(n:∀H7,Same H H7->N σ H7)(g:A->(∀H7,Same H H7->N σ H7)->G):if A then G else N σ H:=by
 by_cases z:A
 .rw[aq z];exact g z n
 .rw[ao z];exact n H (Same.refl _)
def zho{z:Addr}{xss:List A7}(ll:LL H as xss)(hz:H z=some (.lst [.int 0]))(nz:z∉as)(one:∀xs∈xss,xs.length=1):∃e:Addr->Bool,(∀b∈as,DE K H 1 (.ref b) (.ref z) (e b))/\(as.any e=false->∀xs∈xss,∀x∈xs,x≠0):=by
 refine⟨λb=>match H b with|some (.lst [.int x])=>eqV (.int x) (.int 0)|_=>false,λb hb=>?_,λh xs hx x hxx zz=>?_⟩
 .obtain⟨xs,hx,hb'⟩:=ll.has hb;let⟨x,rfl⟩:=bN.mp (one xs hx);simp only[hb',bJ,d5];have d:=DE.lists (K:=K) (n:=0) (e:=λ_=>eqV (.int x) (.int 0)) (λe:b=z=>nz (e ▸ hb)) (SqL.of hb') (SqL.of hz) rfl λj u v h1 h2=>by
   match j with
   |0=>cases h1;cases h2;exact .flat rfl rfl
   |j+1=>cases h1
  simpa using d
 .obtain⟨i,hi⟩:=cK.mp hx;have il:=(aa.mp hi).1;have ial:i<as.length:=by rw[ll.len];exact il
  have ia:as[i]?=some as[i]:=af ial;have hb:=ll.r i _ xs ia hi;let⟨y,rfl⟩:=bN.mp (one xs hx);rw[ak]at hxx;subst hxx;subst zz;have:=List.any_eq_false.mp h _ (ah ia);rw[hb]at this;exact this rfl
def two_ones{xss:List A7}(l:xss.length=2)(one:∀xs∈xss,xs.length=1):∃x y,xss=[[x],[y]]:=by
 match xss,l with
 |[u,v],_ =>
  let⟨x,rfl⟩:=bN.mp (one u (by simp));let⟨y,rfl⟩:=bN.mp (one v (by simp));exact⟨x,y,rfl⟩
def Md.two{md tn:Int}{rs:At}{xss:List A7}(h:Md md tn bs rs lim)(m3:md=3)(lx:xss.length=(zp .drain rs).length)(px:∀xs∈xss,Pcs xs/\xs.length<=2)(one:∀xs∈xss,xs.length=1):¬Ev bs rs lim (qh xss) none/\(200<lim->(∀xs∈xss,∀x∈xs,x≠0)->Ev bs rs 200 (qh xss) none):=by
 let⟨c,r0,r1,o,rfl,rfl,h0,h1,hl⟩:=h.m3 m3;rw[zit]at lx;let⟨x,y,rfl⟩:=two_ones lx one;have pc:Pcs [x,y]:=λv hv=>by
  simp only[aC,aJ,aY]at hv;rcases hv with rfl|rfl
  .exact(px [v] (by simp)).1 v (by simp)
  .exact(px [v] (by simp)).1 v (by simp)
 have r:=zbI (c:=c) (lim:=lim) (o:=o) (s:=[x,y]) h0 h1 rfl pc hl;refine⟨λe=>r.1 (ziW e),λbig nz=>.long (r.2 ?_ λv hv=>?_)⟩
 .rcases hl with⟨z,_⟩|⟨_,z⟩
  .lia
  .exact z
 .simp only[aC,aJ,aY]at hv;rcases hv with rfl|rfl
  .exact nz [v] (by simp) v (by simp)
  .exact nz [v] (by simp) v (by simp)
def zeK{N:VK}{E:XK}{vw:V}{dl ml:Addr}{xss:List A7}{rs:At}(hw:Rep H (Off []) vw (qy a bs rs))(wok:zV bs rs)(bo:∀b∈bs,zH b.1 b.2)(ro:∀r∈rs,r.ok)(lm:lim<=1000)(hd:H dl=some (.lst (iv (zp .drain rs))))(hm:H ml=some (.lst (as.map V.ref)))(ll:LL H as xss)(om:okM rs xss)(px:∀xs∈xss,Pcs xs/\xs.length<=2)(pr:∀n,zU (xss.take n)<=81)(k:∀o l H',Ev bs rs lim (qh xss) o->Same H H'->Du H' l o->N (.ref l) H'):zdm a [vw,.ref dl,.ref ml,.int lim] H N E :=
 ⟨vw,dl,ml,as,xss,lim,bs,rs,rfl,hw,wok,bo,ro,lm,hd,hm,ll,om,λxs hx=>aR (px xs hx).2 (by decide),pr,λev l H' s h=>k _ l H' ev s h,λev l H' s h=>k _ l H' ev s h,λ_ _ _ _ l sl tl us H' ev s h1 h2 h3 h4=>k _ l H' ev s ⟨sl,tl,us,h1,h2,h3,h4⟩⟩
def zbT{N:VK}{E:XK}{vw:V}{l:Addr}{xss:List A7}{rs:At}{o:Option (Option (List Int×List (Int×Int)×Nat×Nat))}(hw:Rep H (Off []) vw (qy a bs rs))(wok:zV bs rs)(bo:∀b∈bs,zH b.1 b.2)(ro:∀r∈rs,r.ok)(lm:lim<=1000)(hm:H l=some (.lst (as.map V.ref)))(ll:LL H as xss)(om:okM rs xss)(px:∀xs∈xss,Pcs xs/\xs.length<=2)(p81:zU xss<=81)(x40:xss.length<=40)(ev:Ev bs rs lim (qh xss) o)(kn:∀v H',Same H H'->Fo a H' v .non o->N v H')(ke:∀H',Same H H'->o=none->E (.ref a.h) none H'):VP K a [vw,.ref l,.int lim] H N E :=
 ⟨vw,l,as,xss,lim,bs,rs,rfl,hw,wok,bo,ro,lm,hm,ll,λxs hx=>aR (px xs hx).2 (by decide),x40,λno=>absurd om no,λ_ z=>absurd z (by lia),λ_ _=>⟨λH' s e=>ke H' s (ev.one e),λH' s e=>kn _ H' s (by rw[ev.one e];exact⟨rfl,rfl⟩),λs tk x y t sl tl us H' m e h1 h2 h3 h4=>kn _ H' m (by rw[ev.one e];exact⟨rfl,t,rfl,sl,tl,us,h1,h2,h3,h4⟩)⟩⟩
def zhh{Q:VK}{p q:Addr}{as cs:Ac}{xss:List A7}(hp:H p=some (.lst (as.map V.ref)))(hq:H q=some (.lst (cs.map V.ref)))(l1:LL H as xss)(l2:LL H cs xss)(dj:∀b∈as,b∉cs)(k:Q (.bl false) H):zbo K (.ref p) (.ref q) H Q:=by
 refine zin (n:=1) (by decide) (SqL.of hp) (SqL.of hq) (by rw[ae,ae,l1.len,l2.len]) (λj x y hx hy=>?_) k;rw[ai,am]at hx hy;let⟨b,hb,rfl⟩:=hx;let⟨c,hc,rfl⟩:=hy;let⟨xs,e1,h1⟩:=l1.at hb;let⟨ys,e2,h2⟩:=l2.at hc;rw[e1]at e2;cases e2;exact zhv (λz=>dj b (ah hb) (z ▸ ah hc)) (SqL.of h1) (SqL.of h2)
def ziX{rs:At}{ss:List A7}{tk:A1}{x y:Nat}(wok:zV bs rs)(h:Ev bs rs lim ss (some (some (s,tk,x,y)))):tk.length<=100:=by
 have key:∀ss o,Ev bs rs lim ss o->∀s tk x y,o=some (some (s,tk,x,y))->tk.length<=100:=λss o h=>by
  induction h with
  |nil=>intro _ _ _ _ e;cases e
  |long _=>intro _ _ _ _ e;cases e
  | @bad s ss i j x y _ _ =>
   intro _ _ _ _ e;cases e;have l1:=qv .drain (wRs rs s) (wRs rs s).length;have l2:(wRs rs s).length=rs.length:=x6 ..;have:=wok.1.2.2;show(xC _ _ _).length<=100
   rw[xC,ae];show(qE .drain (wRs rs s) (wRs rs s).length).length<=100
   lia
  |on _ _ _ ih=>exact ih
 exact key _ _ h _ _ _ _ rfl
abbrev lw(l:Addr)(tn md:Int)(v3 v4 v5 v6 v7 v8 v9 v10 v11 v12 v13:Aq):St:=[some (.ref l),some (.int tn),some (.int md),v3,v4,v5,v6,v7,v8,v9,v10,v11,v12,v13,none]
def ziD(T:Txt K mg a)(F:Fun K "law" "law" Zg f fd):FnOk P w K mg base (CXr P w) 13 f fd ["_law_script"] (za3 K):=by
 refine F.okx zii ?_ ?_
 .walk_at"i"
 walk_at"j";refine oE2 h λl ns p7=>oA4 p7 λp8 hl hn k=>?_;clear p7 h;subst p8;walk_at"T";refine⟨_,(zh (zr 1 zii.nd (zP (zo qV (zo zM (zo zM ‹(pq 0) (za ze zb)› (zo qV ze ‹(pq 0) (za ze zb)›)) (zo qV (zE zC zB (za (pq 0) zb)) (zE zC zB (za (pq 0) zb)))) ze)))  (zh (zr 2 zii.nd (zP (pq 1)))  (zh (zr 1 zii.nd (z7 (pq 1)))  (zh (zr 3 zii.nd ‹(pq 0) (za (pq 1) zb)›)  (zh (zr 4 zii.nd (zo zM ze (zP (pq 1))))  (zI (zy (zi (qd hr.units1) (pq 2) ze (zk _))  (zh (zr 3 zii.nd ‹(pq 1) zb›)  (zd (zr 4 zii.nd (zq (zn (za ze (za (zo zM ze (zP (z7 (pq 1)))) zb))) (zP (pq 1))))))  zl)  (zh (zr 5 zii.nd ‹(pq 3) zb›)  (zh (Z7 (i:=6) zii.nd rfl (Or.inl rfl) (vars:=["_law_at","_law_part"]) (caps:=[]) (N:=["_law_at","_law_part"]) (ON:=["_law_script","_law_turn","_law_mode","_law_made","_law_limit","_law_work","_law_drains","_law_menus","_law_bad","_law_wrong_here","_law_due","_law_handed","_law_found","_law_caught_here","error"]) (osc:=zf Zg) rfl rfl (by right) rfl rfl (jh (za (zq (pq 3) ze) zb)) (λ_ _ _ _=>(j8 (n:=2) rfl (zR (zX 0 (show(["_law_at","_law_part"]:A9).Nodup from by symm)) (zR (zX 1 (show(["_law_at","_law_part"]:A9).Nodup from by symm)) jn)))) (λ_ _ _ _=>(zaf (zi (qd hr.units1) (zq (pq 1) ze) z9 (zk _)))) (λ_ _ _ _=>(pq 0)))  (zh (zr 7 zii.nd ‹(zE zC zB (za (pq 6) zb)) (za (pq 1) zb)›)  (zI (zy (zi (qd hr.units1) (pq 2) ze (zk _))  (zd (Z7 (i:=7) zii.nd rfl (Or.inl rfl) (vars:=["_law_menu"]) (caps:=[]) (N:=["_law_menu"]) (ON:=["_law_script","_law_turn","_law_mode","_law_made","_law_limit","_law_work","_law_drains","_law_menus","_law_bad","_law_wrong_here","_law_due","_law_handed","_law_found","_law_caught_here","error"]) (osc:=zf Zg) rfl rfl (by right) rfl rfl (zN (pq 7)) (λ_ _ _ _=>(zX 0 (show(["_law_menu"]:A9).Nodup from by symm))) (λ_ _ _ _=>z8) (λ_ _ _ _=>(qO jZ (pq 0) jg (jf ze)))))  zl)  (zI (zy (zi Vj (pq 2) ze (zk _))  (zh (zr 8 zii.nd ‹(pq 7) (za (zo zM (zo qV (z7 (pq 1)) ze) (pq 2)) zb)›)  (zh (zr 9 zii.nd ‹(pq 8) (za (zE zC zB (za (pq 6) zb)) zb)›)  (zd (zy (qw (zY ‹‹(pq 5) (za (pq 8) (za (pq 4) zb))› (za (pq 9) (za (ziz (pq 9)) (za qU zb)))› (λ_=>rfl)))  (zd (zj qU))  zl))))  zl)  (zI (zy (PW.pt (pw_and (zi (qd hr.units1) (pq 2) ze (zk _)) (pw_and1 (zi xv (zE zC zB (za (pq 7) zb)) ze (zk _)))))  (zd (xr (zn zb) (xX (pq 7) (zo qD (pq 1) (zE zC zB (za (pq 7) zb))) jb)))  zl)  (zh (zy (PW.pt (pw_and (zi xv (pq 4) ze (zk _)) (pw_and (zi (zex hr.units1) (zn (za ze zb)) (pq 7) (by with_unfolding_all rfl)) (pw_and1 (qw (zY ‹(pq 5) (za (pq 7) zb)› (λ_=>rfl)))))))  (zd (zj qU))  zl)  (zh (zr 10 zii.nd ‹(pq 5) (za (pq 6) (za (pq 7) (za (pq 4) zb)))›)  (zh (Z7 (i:=11) zii.nd rfl (Or.inl rfl) (vars:=["_law_menu"]) (caps:=[]) (N:=["_law_menu"]) (ON:=["_law_script","_law_turn","_law_mode","_law_made","_law_limit","_law_work","_law_drains","_law_menus","_law_bad","_law_wrong_here","_law_due","_law_handed","_law_found","_law_caught_here","error"]) (osc:=zf Zg) rfl rfl (by right) rfl rfl (zN (pq 7)) (λ_ _ _ _=>(zX 0 (show(["_law_menu"]:A9).Nodup from by symm))) (λ_ _ _ _=>z8) (λ_ _ _ _=>(jA qY qK (za (pq 0) zb))))  (zh (zr 12 zii.nd zG)  (zh (zr 13 zii.nd zG)  (zI (QO (i:=14) ⟨rfl,rfl,rfl⟩ rfl zii.nd rfl rfl (λpn G=>(zd (zy (zi (qd hr.units1) (pq 4) ze (zk _))  (zd (zr 12 zii.nd ‹(pq 5) (za (pq 11) zb)›))  (zd (zr 12 zii.nd ‹(pq 5) (za (pq 11) (za (pq 4) zb))›))))) (λpn a=>(zd (zr 13 zii.nd (pq 14)))))  (zh (zy (zi (wl hr.units1) (pq 11) (pq 7) (zk _))  (zd (zj qU))  zl)  (zh (zy (zi (ziG hr.units1) (pq 10) (zn (za qU zb)) (zk _))  (zd (zj (zfJ (xI (zhY hr.units1) (pq 2) ze (zk _)) (zfE ‹(pq 13) (za qU (za qU (za qU zb)))›))))  zl)  (zd (zj (zfJ (xI op_isN (pq 13) zG (zk _)) (zfE ‹(pq 12) (za (pq 10) zb)›)))))))))))))))))))))))),?_⟩;exists uc (Jm T).mono (spCell.i l ns 0 rfl hl ?_);refine uc (Jm T).mono (spCell.i l ns 1 rfl hl ⟨mul_okL (by decide) (by decide),?_⟩);left;have ll:((ns.map V.int).length:Int)<64:=by rw[ae];lia
 refine⟨_,iA3 (.inl ⟨_,hl,rfl⟩) gJ ⟨_,iA4 (.inl ⟨_,hl,rfl⟩) (mul_okR (by lia) (by lia)) (mul_okR (by decide) (by decide)) ?_⟩⟩;generalize (Wa ns 0+7*Wa ns 1+((ns.map V.int).length:Int)*((ns.map V.int).length:Int))*16807=z0;have z1:=aU z0 (show(2147483647:Int)≠0 by decide);generalize z0%2147483647=z at z1 ⊢;left;left;let⟨md,emd,md0,md8⟩:∃md,z%8=md/\0<=md/\md<8:=⟨_,rfl,by lia,by lia⟩;let⟨tn,etn,tn0⟩:∃tn,z/8=tn/\0<=tn:=⟨_,rfl,by lia⟩;rw[emd,etn];clear emd etn z1 ll;exists uc (zaN T).mono (spPartsOf.i l ns tn rfl hl (by lia) (λt bs rs H1 s1 rt wok bo ro=>?_));left;left;let pk:St->Hp->Prop:=λσ' H'=>∃(mv:V)(bs:A1)(rs:At)(lim:Nat),σ'=lw l tn md (some mv) (some (.int lim)) none none none none none none none none none/\Rep H' (Off []) mv (.tup [.lst (bs.map Zn),.lst (rs.map jX)])/\Md md tn bs rs lim;refine cut pk ?_ ?_
 .exists zF (λm3=>?_) (λm3=>?_)
  .exists uc (zaP T).mono (spLines.i tn rfl (λt2 c r0 r1 H2 s2 h0 h1 rt2=>?_));left;intro q hq;have s3:=zc (o:=.lst [.int 200,.int (300+tn/72%701)]) hq;have ok:=zhV (c:=c) (p:=1) (q:=2) (by decide) (by decide) (zax (decide (tn%2=1))).1 (zax (decide (tn%2=1))).2;rcases(by lia:tn%2=0\/tn%2=1)with z|z
   .refine zu (SqL.of pE) (show atI _ (tn%2)=some (.int 200) by rw[z];rfl) (iE4 _ _ _ 200 (iA3 rfl (rt2.same s3) ⟨zdv,zgD h0 h1,ok,by decide,λy=>absurd m3 y,λ_=>(iE4 c r0 r1 _ (iA5 rfl rfl h0 h1 (.inl ⟨rfl,a8 (by lia)⟩)))⟩))
   .refine zu (SqL.of pE) (show atI _ (tn%2)=some (.int (300+tn/72%701)) by rw[z];rfl) (iE4 _ _ _ ((300+tn/72%701).toNat) (iA3 (by rw[cW (by lia)]) (rt2.same s3) ⟨zdv,zgD h0 h1,ok,by lia,λy=>absurd m3 y,λ_=>(iE4 c r0 r1 _ (iA5 rfl rfl h0 h1 (.inr ⟨by lia,bh z⟩)))⟩))
  .exact iE4 _ bs rs ((6+tn%20).toNat) (iA3 (by rw[cW (by lia)]) rt ⟨wok,bo,ro,by lia,λ_=>by lia,λy=>absurd y m3⟩)
 clear rt wok bo ro s1 hl;intro σ' H1 p9;refine oE4 p9 λmv bs rs lim p7=>oA3 p7 λp8 rt mm=>?_;ext;have wok:=mm.wok;have bo:=mm.bo;have ro:=mm.ro;exists uc (zb6 T).mono (spWorkOf2.i mv bs rs rfl rt wok bo ro (λvw H2 s2 hw=>?_));replace rt:=rt.same s2;clear s2;left;walk_at"d";exists oE2 (Rep.tup' rt) λt0 us0 p7=>oA4 p7 λet _ ht0 rr0=>?_;clear p7;cases et;let⟨v1,v2,rfl⟩:=two_of rr0.len;refine oE2 ((rr0.g 1 v2 _ rfl rfl).lst') λLR u2 p7=>oA4 p7 λp8 _ hL2 ru2=>?_;clear p7;subst p8;have b2:u2.length=rs.length:=by rw[ru2.len,ae]
 have r24:=wok.1.2.2;refine pI ht0 at1 (iE2 LR _ (iA3 rfl hL2 (λ_ _ _ _ dl hdl=>?_)));let pw:Nat->St->Hp->Prop:=λi σ H'=>∃(v0 v1:Aq),σ=[v0,v1]/\Same H2 H'/\H' dl=some (.lst (iv (qE .drain rs i)));refine Vw (K:=K) (a:=LR) (xs:=u2) pw (iE2 _ _ (iA3 rfl (zc hdl) pE)) (λi σ H' _ h=>by let⟨_,_,_,s,_⟩:=h;exact SqL.of (s _ _ hL2)) ?_ ?_
 .intro i x t σ H3 hi ht p9;refine oE2 p9 λv0 v1 p7=>oA3 p7 λp8 s3 g3=>?_;ext;let⟨dx,hdx,rx⟩:=ru2.at hi;rw[ai,am]at hdx;let⟨r,hr',rfl⟩:=hdx;have hil:=(aa.mp hr').1;refine oE4 (zbw rx) λtr m1 m2 m3 p7=>oA3 p7 λp8 ht1 _=>?_;clear p7;subst p8;have lc:=qv .drain rs i;have s8:=s3.trans (zc (o:=.tup [.int i,.ref tr]) ht);have e8:=pH (o:=.tup [.int i,.ref tr]) g3 ht;refine un2 pE ?_;generalize upd H3 t (.tup [.int i,.ref tr])=H8 at s8 e8 ⊢;exists pI (s8 _ _ ht1) at0 ?_;exists zF (λb=>?_) (λb=>?_)
  .have b:=vR (y:=.drain) b;refine⟨_,iA3 e8 (zm (by rw[zA];lia)) (iE2 _ _ (iA3 rfl (λb o hb=>by rw[pF (pG hb hdl)];exact s8 b o hb) ?_))⟩;rw[pE,qQ hr',aq b,qX]
  .have b:r.wd≠.drain:=λz=>b (by rw[z];rfl);exact iE2 _ _ (iA3 rfl s8 (by rw[qQ hr',ao b,cc];exact e8))
 intro σ H3 p9;refine oE2 p9 λv0 v1' p7=>oA3 p7 λp8 s3 hd=>?_;ext;rw[b2]at hd;have hd:H3 dl=some (.lst (iv (zp .drain rs))):=hd;have hw:=hw.same s3;clear s3 rr0 ru2 hL2 ht0 rt;have ln:(zp .drain rs).length<=rs.length:=qv .drain rs rs.length;exists uc (zaO T).mono ⟨gJ,⟨_,⟨.inl ⟨_,SqL.of hd,rfl⟩,iE2 _ tn (iA3 rfl (by rw[zA];lia) (λp as xss H4 g lx mn=>?_))⟩⟩⟩;rw[zA]at lx;left;let pD:St->Hp->Prop:=λσ' H'=>∃(B:Hp)(p:Addr)(as:Ac)(xss:List A7),σ'=lw l tn md (some (.ref t0)) (some (.int lim)) (some vw) (some (.ref dl)) (some (.ref p)) none none none none none none/\Same H3 B/\Grow B H' p as xss/\xss.length=(zp .drain rs).length/\Mn xss/\(md=3->∀xs∈xss,xs.length=1);refine cut pD ?_ ?_
 .exists zF (λm3=>?_) (λm3=>(iE4 H3 p as xss (iA6 rfl (Same.refl _) g lx mn (λy=>absurd y m3))));walk_at"d";exists⟨p,rfl,.inl ⟨⟨_,SqL.of g.hp⟩,λ_ _ _ _ ph hacc=>?_⟩⟩;let M4_:Nat->St->Hp->Prop:=λm σ H'=>∃(v0:Aq)(bs:Ac),σ=[v0]/\Grow H4 H' ph bs ((xss.take m).map (·.take 1));refine qb (K:=K) (a:=p) (xs:=as.map V.ref) M4_ (iE2 _ ([]) ⟨rfl,Grow.new hacc⟩) (λm σ H' _ h=>by let⟨_,_,_,g'⟩:=h;exact SqL.of (g'.sm _ _ g.hp)) ?_ ?_
  .intro m x σ H5 hm p9;refine oE2 p9 λv0 cs p7=>oA2 p7 λp8 g5=>?_;ext;rw[ai,am]at hm;let⟨b,hb,rfl⟩:=hm;let⟨xs,e2,hx⟩:=(g.ll.same g5.sm).at hb;have hil:=(aa.mp e2).1;exists j7 (SqL.of hx) λr hr'=>?_;rw[show Qk (xs.map V.int) none (some 1)=iv (xs.take 1)from(vL _ 1 (by rw[ae];exact(mn.pc xs (ah e2)).2.1)).trans (fK).symm];let⟨n1,n2,n3⟩:=g5.not hr';have g6:=g5.same (zc (o:=.lst (iv (xs.take 1))) hr');refine⟨_,iA3 g6.hp (zm (by rw[ae,g5.ll.len,ae,aE];lia)) (iE2 _ (cs++[r]) ⟨rfl,?_⟩)⟩;rw[qz e2,aZ];exact g6.push pE n2 n1
  intro σ H5 p9;refine oE2 p9 λv0 cs p7=>oA2 p7 λp8 g5=>?_;ext;rw[ae,g.ll.len,aG]at g5;have all:∀xs∈xss.map (·.take 1),Pcs xs/\xs.length=1:=λxs hx=>by
   let⟨ys,hy,rfl⟩:=bb.mp hx;have y:=mn.pc ys hy;exact⟨λv hv=>y.1 v (fu hv),by rw[aE];lia⟩
  have p1:=Ve λm hm=>(all m hm).2;exact iE4 H4 ph cs _ (iA6 rfl g.sm g5 (by rw[ae,lx]) ⟨λxs hx=>⟨(all xs hx).1,by have:=(all xs hx).2;lia⟩,by lia⟩ (λ_ xs hx=>(all xs hx).2))
 clear g lx mn;intro σ' H4 p9;refine oE4 p9 λB p as xss p7=>oA6 p7 λp8 sB g lx mn one=>?_;ext;have hw:=hw.same sB;have hd:=sB _ _ hd;clear sB;left;let M5_:St->Hp->Prop:=λσ' H'=>∃(v8 v9:Aq),σ'=lw l tn md (some (.ref t0)) (some (.int lim)) (some vw) (some (.ref dl)) (some (.ref p)) v8 v9 none none none none/\Grow B H' p as xss;refine cut M5_ ?_ ?_
 .exists zF (λm3=>?_) (λm3=>(iE2 _ _ ⟨rfl,g⟩));refine uc (zde T).mono ⟨mul_okR (by lia) (by lia),iE4 p as xss _ (iA6 rfl g.hp g.ll (by lia) mn (λq cs yss H5 s5 h5 l5 sb=>?_))⟩;left;have g5:=g.same s5;have hw5:=hw.same g5.sm;have hd5:=g5.sm _ _ hd;refine uc (zeR T).mono ⟨gJ,⟨_,⟨.inl ⟨_,SqL.of hd5,rfl⟩,iE4 q cs yss _ (iA5 rfl h5 l5 (λy=>?_) (λy=>?_))⟩⟩⟩
  .rw[zA]at y;exists uc (xO T).mono (uc (Wc T).mono (spCaughtL.i vw q cs yss lim bs rs rfl hw5 wok bo ro mm.lm h5 l5 sb.s sb.l (λom=>sb.b (by rw[lx];exact om)) (λno=>absurd y no) (λom e H6 s6 he=>?_)));refine⟨e,_,_,_,_,rfl,he,zg1 T,λH7 s7=>?_⟩;exact iE2 _ _ ⟨rfl,(g5.same s6).same s7⟩
  .rw[zA]at y;exists uc (xO T).mono (uc (Wc T).mono (spCaughtL.i vw q cs yss lim bs rs rfl hw5 wok bo ro mm.lm h5 l5 sb.s sb.l (λom=>sb.b (by rw[lx];exact om)) (λno e H6 s6 he=>?_) (λom=>absurd om y)));refine⟨e,_,_,_,_,rfl,he,zft T,λH7 s7=>?_⟩;exact iE2 _ _ ⟨rfl,(g5.same s6).same s7⟩
 clear g;intro σ' H5 p9;refine oE2 p9 λv8 v9 p7=>oA2 p7 λp8 g=>?_;ext;left;let M6_:St->Hp->Prop:=λσ' H'=>∃(as:Ac)(xss:List A7),σ'=lw l tn md (some (.ref t0)) (some (.int lim)) (some vw) (some (.ref dl)) (some (.ref p)) v8 v9 none none none none/\Grow B H' p as xss/\xss.length=(zp .drain rs).length/\(∀xs∈xss,Pcs xs/\xs.length<=2)/\(∀n,zU (xss.take n)<=81)/\(md=3->∀xs∈xss,xs.length=1);refine cut M6_ ?_ ?_
 .left;have no:∃(as':Ac)(xss':List A7),lw l tn md (some (.ref t0)) (some (.int lim)) (some vw) (some (.ref dl)) (some (.ref p)) v8 v9 none none none none=lw l tn md (some (.ref t0)) (some (.int lim)) (some vw) (some (.ref dl)) (some (.ref p)) v8 v9 none none none none/\Grow B H5 p as' xss'/\xss'.length=(zp .drain rs).length/\(∀xs∈xss',Pcs xs/\xs.length<=2)/\(∀n,zU (xss'.take n)<=81)/\(md=3->∀xs∈xss',xs.length=1):=⟨as,xss,rfl,g,lx,λxs hx=>⟨(mn.pc xs hx).1,(mn.pc xs hx).2.2⟩,mn.take,one⟩;refine zF (λm4=>⟨gJ,⟨_,⟨.inl ⟨_,SqL.of g.hp,rfl⟩,zF (λz=>λq hq=>?_) (λ_=>no)⟩⟩⟩) (λ_=>no);have s6:=zc (o:=.lst []) hq;have g6:=g.same s6;have la:(as.map V.ref).length=xss.length:=by rw[ae,g.ll.len]
  rw[la]at z;refine⟨gJ,⟨_,⟨.inl ⟨_,SqL.of g6.hp,rfl⟩,?_⟩⟩⟩;rw[la];let⟨d,ed,dl'⟩:∃d:Nat,tn%(xss.length:Int)=d/\d<xss.length:=by
   have h0:=aU tn (show(xss.length:Int)≠0 by lia);have h1:=aP tn z;exact⟨(tn%(xss.length:Int)).toNat,by lia,by lia⟩
  rw[ed];refine⟨z,jM (j:=d) g6.hp (by rw[wI (by lia) (by rw[la];lia)];rfl) (iE2 (as.set d q) (xss.set d []) (iA6 rfl (g6.setL (ys:=[]) pE (g.not hq)) (by rw[a7,lx]) (λxs hx=>?_) (λn=>?_) (λy=>?_)))⟩
  .rcases bp hx with hx|rfl
   .exact⟨(mn.pc xs hx).1,(mn.pc xs hx).2.2⟩
   .exact⟨λ_ z=>(nomatch z),by decide⟩
  .rw[List.take_set];exact aR (Vc _ _) (mn.take n)
  .exact absurd (m4.symm.trans y) (by decide)
 clear g lx mn one;intro σ' H6 p9;refine oE2 p9 λas xss p7=>oA6 p7 λp8 g lx px pr one=>?_;ext;have hw:=hw.same g.sm;have hd:=g.sm _ _ hd;left;have om:okM rs xss:=⟨lx,λxs hx=>(px xs hx).1⟩;have p81:zU xss<=81:=by have:=pr xss.length;rwa[aG]at this
 refine zhp (λH7 s7=>?_) (λbig fin z hz=>?_)
 rotate_left
 .have m3:md=3:=Decidable.byContradiction λm3=>by have:=mm.l3 m3;lia
  have s7:=zc (o:=.lst [.int 0]) hz;have g7:=g.same s7;let⟨e,he,k0⟩:=zho (K:=K) g7.ll pE (g.not hz).2.2 (one m3);refine iE4 p as 1 e (iA5 rfl (SqL.of g7.hp) (by decide) he ?_);show bq (.bl (!as.any e)) _
  cases ea:as.any e with
  |true =>
   exact fin _ s7
  |false =>
   refine uc (zaM T).mono (spLong.i vw p as xss bs rs rfl (hw.same s7) wok bo ro g7.hp g7.ll (λxs hx=>aR (px xs hx).2 (by decide)) (by lia) om p81 ((mm.two m3 lx px (one m3)).2 (by lia) (k0 ea)) (λH8 s8=>?_));exact fin _ (s7.trans s8)
 have hw:=hw.same s7;have hd:=s7 _ _ hd;have g:=g.same s7;exists uc (JI T).mono (zeK hw wok bo ro mm.lm hd g.hp g.ll om px pr λo du H8 ev s8 hdu=>?_);have hw:=hw.same s8;have g:=g.same s8;clear s8 s7 hd;left;walk_at"d";exists⟨p,rfl,.inl ⟨⟨_,SqL.of g.hp⟩,λ_ _ _ _ q hq=>?_⟩⟩;let M7_:Nat->St->Hp->Prop:=λm σ H'=>∃(v0:Aq)(cs:Ac),σ=[v0]/\Grow H8 H' q cs (xss.take m);refine qb (K:=K) (a:=p) (xs:=as.map V.ref) M7_ (iE2 _ ([]) ⟨rfl,Grow.new hq⟩) (λm σ H' _ h=>by let⟨_,_,_,g'⟩:=h;exact SqL.of (g'.sm _ _ g.hp)) ?_ ?_
 .intro m x σ H9 hm p9;refine oE2 p9 λv0 cs p7=>oA2 p7 λp8 g9=>?_;ext;rw[ai,am]at hm;let⟨b,hb,rfl⟩:=hm;let⟨xs,e2,hx⟩:=(g.ll.same g9.sm).at hb;have hil:=(aa.mp e2).1;exists iE2 b _ (iA3 rfl (.inl (SqL.of hx)) (λr hr'=>?_));let⟨n1,n2,n3⟩:=g9.not hr';have g1:=g9.same (zc (o:=.lst (iv xs)) hr');refine⟨_,iA3 g1.hp (zm (by rw[ae,g9.ll.len,aE];lia)) (iE2 _ (cs++[r]) ⟨rfl,?_⟩)⟩;rw[qz e2];exact g1.push pE n2 n1
 intro σ H9 p9;refine oE2 p9 λv0 cs p7=>oA2 p7 λp8 gh=>?_;ext;rw[ae,g.ll.len,aG]at gh;have hw:=hw.same gh.sm;have hdu:=hdu.same gh.sm;left;let M8_:St->Hp->Prop:=λσ' H'=>∃(v c:V),σ'=lw l tn md (some (.ref t0)) (some (.int lim)) (some vw) (some (.ref dl)) (some (.ref p)) v8 v9 (some (.ref du)) (some (.ref q)) (some v) (some c)/\Same H9 H'/\Fo a H' v c o;refine cut M8_ ?_ ?_
 .exists⟨a.b,iA3 T.iu T.iL (λpn=>zF (λz=>?_) (λz=>?_))⟩
  .have z:lim=200:=by lia
   subst z;exact iE3 _ _ _ ⟨(Qj T).mono,zbT hw wok bo ro mm.lm gh.hp gh.ll om px p81 (by lia) ev (λv H' s fo=>(iE2 v _ (iA3 rfl s fo))) λH' s eo=>⟨a.h,iA3 rfl T.g8 (λe he=>(iE2 _ _ (iA3 rfl (s.trans (zc he)) (by rw[eo];exact⟨rfl,⟨e,⟨rfl,pE⟩⟩⟩))))⟩⟩
  .exact uc (Qq T).mono (zbT hw wok bo ro mm.lm gh.hp gh.ll om px p81 (by lia) ev (λv H' s fo=>(iE2 v _ (iA3 rfl s fo))) λH' s eo=>⟨a.h,iA3 rfl T.g8 (λe he=>(iE2 _ _ (iA3 rfl (s.trans (zc he)) (by rw[eo];exact⟨rfl,⟨e,⟨rfl,pE⟩⟩⟩))))⟩)
 intro σ' H10 p9;refine oE2 p9 λv c p7=>oA3 p7 λp8 s10 fo=>?_;ext;have gm:=(g.same gh.sm).same s10;have g':=gh.same s10;have hdu:=hdu.same s10;exists zhh g'.hp gm.hp g'.ll gm.ll (λb hb hb'=>?_) ?_
 .obtain⟨_,_,hx⟩:=g.ll.has hb';rw[(gh.fr b hb).1]at hx;cases hx
 left;intro z hz;have s11:=zc (o:=.lst [.bl false]) hz;have hdu:=hdu.same s11;have fo:=fo.same s11;have hz:upd H10 z (.lst [.bl false]) z=some (.lst [.bl false]):=pE;generalize upd H10 z (.lst [.bl false])=H11 at hz hdu fo s11 ⊢
 match o,ev,hdu,fo with
 |none,ev,hdu,⟨ev',e,ec,he⟩ =>
  subst ec;refine .inr (zio (SqL.of hdu) (SqL.of hz) rfl rfl ?_);refine zF (λm3=>?_) (λm3=>absurd ev (mm.two (Decidable.not_not.mp m3) lx px (one (Decidable.not_not.mp m3))).1);exact uc (xO T).mono (spRf.i e _ _ _ _ rfl he (zds T) (λH' _=>k H'))
 |some none,ev,hdu,⟨e1,e2⟩ =>
  subst e1;subst e2;refine .inl (iE4 du z _ _ (iA6 rfl rfl (SqL.of hdu) (SqL.of hz) (by decide) ?_));left;exact uc (zb7 T).mono (spTdL.i _ du rfl (.no hdu) (λH' _=>k H'))
 |some (some (s,tk,x,y)),ev,hdu,⟨e1,t,e2,ft⟩ =>
  subst e1;subst e2;refine oE3 hdu.ex λsl tl us p7=>oA4 p7 λh1 h2 h3 h4=>?_;clear p7;refine .inl (iE4 du z _ _ (iA6 rfl rfl (SqL.of h1) (SqL.of hz) (by show 4≠1;decide) ?_));left;exact uc (zb7 T).mono (spTdL.i _ du rfl (.yes ft hdu (ziX wok ev)) (λH' _=>k H'))
theorem top_ok(T:Txt K mg a)(F:Fun K "law" "law" Zg f fd):FnOk P w K mg base (CXr P w) 13 f fd ["_law_script"] (za3 K):=ziD T F
end
def zhE:Nat->(List Value->Prop)->Prop
 |0,P=>P []
 |n+1,P=>∀x,zhE n λl=>P (x::l)
def allV_of{n:Nat}:∀{P:List Value->Prop},zhE n P->∀us:List Value,us.length=n->P us:=by
 induction n with
 |zero =>
  intro P h us e;cases us with
  |nil=>exact h
  |cons=>cases e
 |succ n ih =>
  intro P h us e;cases us with
  |nil=>cases e
  |cons x r=>exact ih (h x) r (Nat.succ.inj e)
def fd_z{K:A0}{mg:A5}{h:Heap}{x:Str}{st:Stmt}{ps:A9}{d:Int}{t:Tok}{f dT:Addr}{oc toc:Am}{od an tod:Ab}{osl tsl:Af}{tn:Nat}{kV doc pm cdv ct:Am}(X:K.In h)(G:h.Ns mainGlobals mg)(a:nsIn K mainGlobals x=some (some (.ref f)))(l:K.lookup f=some ⟨oc,od,.func (fnOf x x (qt st) (qg st) (zf st) (.ref dT) kV doc pm an cdv ct),osl⟩)(c:codeIn K cdv x=true)(k:keepIn K (.ref f)=true)(lt:K.lookup dT=some ⟨toc,tod,.seq #[.int d t] tn,tsl⟩)(hb:∀(s:An),K.In s.heap->K.lookup dT=some ⟨toc,tod,.seq #[.int d t] tn,tsl⟩->zhE ps.length λz=>BindsTo s (fnOf x x (qt st) (qg st) (zf st) (.ref dT) kV doc pm an cdv ct) ⟨z,[]⟩ (ps.zip z))(hd:∀(s:An),K.In s.heap->K.lookup dT=some ⟨toc,tod,.seq #[.int d t] tn,tsl⟩->zhE (ps.length-1) λz=>BindsTo s (fnOf x x (qt st) (qg st) (zf st) (.ref dT) kV doc pm an cdv ct) ⟨z,[]⟩ (ps.zip (z++[.int d t]))):FD K mg x st ps [.int d] :=
 zjy X G a l c k lt (.cons ⟨_,rfl⟩ .nil) (λs us hK hl=>allV_of (hb s hK lt) us hl) λs us hK hl=>allV_of (hd s hK lt) us (by simp at hl;lia)
def all_ok{l:PySem.W.OpenLaw}{w:World}{K:A0}{h:Heap}{mg:A5}{fa fL ya yc yd ye yf yg yh yi yj yk yl ym yn yo yp yq yr yt yu yv:Addr}{od an:Ab}{sl:Af}{oc kV dc pm cd ct:Am}(X:K.In h)(G:h.Ns mainGlobals mg)(hfa:mg "law"=some (.ref fa))(aL:nsIn K mainGlobals "law"=some (some (.ref fL)))(lL:K.lookup fL=some ⟨oc,od,.func (fnOf "law" "law" (qt Zg) (qg Zg) (zf Zg) .none kV dc pm an cd ct),sl⟩)(cL:codeIn K cd "law"=true)(kL:keepIn K (.ref fL)=true)(T:Txt K mg ⟨ya,yc,yd,ye,yf,yg,yh,yi,yj,yk,yl,ym,yn,yo,yp,yq,yr,yt,yu,yv⟩)
  : ∃fd:FuncData,(∀(s:An)(v:Am),BindsTo s fd ⟨[v],[]⟩ [("_law_script",v)])/\∀base:Heap,K.In base->base.Ns mainGlobals mg->FnOk l.prog w K mg base (CXr l.prog w) 13 fa fd ["_law_script"] (za3 K):=by
 have e:=hfa.symm.trans (mg_of X G aL);cases e;exact⟨_,λs v=>.of_eq rfl,λbase _ _=>top_ok T (wJ (st:=Zg) lL cL kL)⟩
def walk{l:PySem.W.OpenLaw}{q:Ag}{loose:A9}{XP:(Str->Option Value)->Heap->Prop}{YP:World->Heap->Prop}{d:DefRec}{K:Params->PySem.W.Frag}(hn:l.most=some 63)(hdf:d.params.defaults=[])(hY:∀(w:World)(h:Heap),YP w h->(K w.params).In h)(F:∀(w:World)(mg:A5)(fa:Addr)(h:Heap),(K w.params).In h->h.Ns mainGlobals mg->mg d.name=some (.ref fa) ->
   ∃fd:FuncData,(∀(s:An)(u:Am),BindsTo s fd ⟨[u],[]⟩ [("_law_script",u)])/\∀base:Heap,(K w.params).In base->base.Ns mainGlobals mg->FnOk l.prog w (K w.params) mg base (CXr l.prog w) 13 fa fd ["_law_script"] (za3 (K w.params))) :
  PySem.W.WalkO q loose XP YP l.row.toRowW d [] (λf vs=>PySem.call f vs) :=
 L2.walk_of (n:=63) (k:=13) (x:="_law_script") (CX:=λw=>CXr l.prog w) (sp:=λw=>za3 (K w.params)) hn (by decide) hdf ⟨rfl,by decide,by decide⟩ hY F (λ_ _ a ns hl _ hS=>⟨a,ns,rfl,hS,hl,λ_=>rfl⟩) λ_ _ _ _ _ z=>zeM z
end K39
set_option Elab.async false
structure PySem.W.Fast:Prop where(tw6423207056816430677 tw16906886227627633993 tw15866137713076849269 tw14091770191098423866 tw5411894150249959757 tw18167047630593267396 tw9161314800467812189 tw5154799640462195000 tw11845641723060085791 tw17316095279038775905 tw17564718843634660039 tw4261569543789400060 tw247901648247937424 tw16864558064442520355 tw9714284079871131069 tw3910430955081407050 tw16004132569509897167 tw3270140148610625688 tw18364542685225686640 tw2632875425631623885 tw787950769129615235 tw6175696690336820896 tw10190623138147844804 tw14648540375738681021 tw13547524788394056126 tw4072107106327088654 tw5957727594691558252 tw330711808558672335 tw4440968448340740440 tw7756331394778836909 tw17841789440475814491 tw16896612204956041514 tw13934138735089000599 tw7723364466108337477 tw6274392332485992244 tw4069374869703078321 tw2650987828139898937 tw1989122114670136062 tw1763539211263653546 tw12833436809583790946 tw1719124268281021475 tw15326312782185586521 tw6025432336302550451 tw10942772038945108616 tw18435158668205097915 tw625517125663871986 tw12073329033837585908 tw10960526669481552143 tw10393540448138106038 tw13985646223962221211 tw1024273715720153071 tw11560195989897348053 tw13937880565520911017 tw2676328757572804151 tw5721075062188145280 tw13210529836920126080 tw1266506764075478765 tw8024405634589931836 tw3248530105472915453 tw9597100165514243636 tw3095170034339029393 tw17257941827296177207 tw2432795213571112545 tw10555636228666392802 tw10431715508376527038 tw17155030906908271583 tw16398128640628114707 tw11758739724053425456 tw8305480399637441554 tw4751295896407125161 tw17283326403301894222 tw15224458651782454713 tw6004070291301553227 tw9943582882161359690 tw13970298828175316922 tw15689533180780433364 tw17683906417796428527 tw13474123476647364985 tw434981733313184739 tw2955192345075061657 tw4179367229406449080 tw10400153491009683025 tw16722156934524737947 tw4252371108852445132 tw14545290527002545672 tw4160621344674802646 tw8049490733020378897 tw1500540619429951785 tw4682785070843172126 tw13469728177620555659 tw17950342982841677417 tw8941936409557640375 tw16501986105779611570 tw15528629891519025121 tw6482939134441834437 tw256354866378632057 tw10544057540957641069 tw13458541171048897907 tw5332930067974900386 tw4900452758691129205 tw4637038052432335444 tw17503506153240455534 tw9821235521508618730 tw4988450013453687705 tw7645576828624078696 tw7406014499908957112 tw4612965004540943224 tw1768245981492498811 tw17736558715042532457 tw10913182189580366548 tw3519798143183067849 tw10775410846557423487 tw9798928372057473359 tw12193157845385098919 tw8711821633183113143 tw14813001088223394394 tw2533835488610340052 tw8821749932157963255 tw16919602340327440576 tw17690585886881682639 tw11902890475316756813 tw3197775278589006068 tw4914684387766552104 tw11885533847683317165 tw14687077383452838689 tw1005766992693182339 tw11650573714200076005 tw14071518647736683165 tw13713939405480916613 tw18267724826035240672 tw6446302210921661382 tw16040283159106701519 tw3762013264279098845 tw6302945713139555374 tw5676768072144989100 tw17045102247482667673 tw16057247850912560736 tw7862909779573988959 tw7228840307545874365 tw7720930193662716620 tw9886974805453432426 tw859772526285559589 tw8811750938770328156 tw17269851276192583222 tw11382501089832358670 tw6939564900900642661 tw1883944506558886883 tw17618129789478293317 tw8356595916081203918 tw8689325045588448858 tw6172346941395160773 tw16705812040677538877 tw7771134116032729279 tw8919013605567302884 tw14194992183258525825 tw5116972558411899295 tw5615547417243099544 tw4943480190217331698 tw5980505987820029617 tw14849783926252384600 tw7514174106702136821 tw1514604475267453124 tw259543059444483816 tw2165019466263103932 tw3499378424606898106 tw7355298772031542824 tw2124488245148307667 tw6843372827159559216 tw2942507511804153768 tw16879307506084145655 tw15211165829084782014 tw12901912415033840843 tw16371493717831529903 tw11395341083767936300 tw6948494683509478731 tw3750063007270245701 tw9491994578021096419 tw1649491287773228322 tw5317036726200173551 tw4727065592433465025 tw5708892356573987284 tw4805112597393291317 tw17424295671469032252 tw12978042751461436338 tw6779873493307174353 tw11421316686492679124 tw17037541925741575742 tw14713678893966850697 tw5897969354814160874 tw3385997669639607791 tw424919860869420963 tw5923647215485374881 tw14245797964681104020 tw7258033737449581464 tw1067100642096788746 tw13652652049345729197 tw7383169234816453974 tw659035594581263949 tw18232472425728133788 tw13199408204436189314 tw651200732455194103 tw17751288565723458138 tw9356150141437842822 tw762049111877809006 tw9451298079745740674 tw14353094886529455790 tw9926324021267543484 tw11402966486286446110 tw5732622855443945466 tw11317594615001160378 tw7820993366376377091 tw11775737418248790077 tw11616688385382196586 tw3014090218162852567 tw14729658655772697227 tw598585442167067502 tw3347302999752290632 tw14828181188632457716 tw14770922240948135734 tw4460033601711127112 tw13301412663418984891 tw18199962302996354133 tw640044930407691936 tw16892733866073488998 tw8002036012861742637 tw5060703795810020094 tw1864348906737817812 tw14308660199661086495 tw16760022532347734536 tw6722319258852912192 tw1798149145154649808 tw12546497030390600052 tw17570481121416463562 tw14116372970803741198 tw6426940127435370526 tw17322373266488305370 tw4809955951769057103 tw17750895519716772248 tw3728434688089391520 tw4164370737575898238 tw12584348813804838704 tw14421645485158641753 tw6700550857121901520 tw1373155658907995674 tw8830631497468189179 tw16284099186589535313 tw6993233317552783230 tw17265030972457775079 tw5580257623649852166 tw18119417104030099932 tw5868633885138265686 tw18353338659188633431 tw14838010153860252671 tw17423571122492720064 tw10707813200928651153 tw964769726916821375 tw5917948793809893486 tw9916562857498423562 tw744030394223039196 tw13805234809024522229 tw14158377918701788099 tw4678267546231543320 tw17755681159370696574 tw2978800932440846496 tw15404417813539531099 tw10643831364942904225 tw7324929303326271304 tw15004515540471347264 tw10066273742362983555 tw7348286531881782446 tw2002019728233630846 tw15713225052957870688 tw676567888089459774 tw8310523541052234703 tw2739867775262720145 tw14994914635007931903 tw17951482121961710639 tw1716138307102867873 tw13141709700115471531 tw7377454714966467912 tw6868277139824460917 tw14399418701163657870 tw2922507314922027702 tw7209513465108292055 tw9272370562253427224 tw15846905543318880756 tw7944593566843319087 tw9971635128250705134 tw9661474883115097090 tw10410664247158181341 tw13724335331354209873 tw6774967720418944874 tw8277043684711356886 tw11833797102314783127 tw2907482647009245214 tw7073685394310904074 tw14196066855608642422 tw9954753380706556089 tw8246020275088651512 tw7187103440800068306 tw9962600930491128943 tw1171977985574683796 tw6959977996897421267 tw6030303365037811566 tw3332737894272128522 tw9117178870499252649 tw1041112031391182139 tw5430822826198571004 tw16057390265788720901 tw17338827527082519167 tw14295088994560140067 tw16059948947290621025 tw332459787708286951 tw6463792702264980751 tw4727447745940769283 tw12514206953142402201 tw5244930258087806728 tw11199560614165772556 tw15771475580911146260 tw5394293780121509969 tw547934976275474542 tw13831342554725987383 tw8135058302036648203 tw17428561434264259746 tw1608553863499909519 tw4169885775474048996 tw8122597593838427088 tw3445853981098644614 tw17110573260462873464 tw17128570229223581123 tw4515715405010843361 tw13862659736785448922 tw1860566133497459390 tw3224136651202543624 tw10448872763175670987 tw6741490581358845833 tw7450904515262040029 tw3928720724879638796 tw2450700680109530549 tw4314815917560197038 tw15586364412016505114 tw4942970166040587938 tw309594697210510264 tw16708315987412004647 tw9457532252042831738 tw6355196979800290659 tw15656980227084122354 tw11056428479910011869 tw4000738513531023902 tw16980645027557414525 tw17263442545524809681 tw874054443513092757 tw8926015696392042392 tw15157736614730542842 tw18304402496858382389 tw8599136544708195367 tw16675598043741527998 tw11039099629217460071 tw16401489455645953163 tw13542457531314430508 tw8549927102312054760 tw13401467517479779842 tw2739358802153006324 tw9327947890219418392 tw1274102236681099312 tw17380610872487265017 tw9849679326392414237 tw9586585575217914450 tw13093923995220788660 tw6308220431040114157 tw13051096479964507642 tw1235640574332274690 tw18433432760814787162 tw3590723252567241796 tw7110115084274840698 tw5872170204487549751 tw11663276692538083708 tw17092875713992586467 tw1727335941827787153 tw2463204162364813150 tw12115534271739336407 tw17883572536986334332 tw14803336899374870859 tw1859305295345806348 tw9368486160715510117 tw4887188641532519693 tw17489760759348065033 tw669299972437121616 tw15962661275289618738 tw3363849880853120004 tw7616217572306780100 tw13345005657529919736 tw4907704017094145049 tw12362417457143761466 tw12171864253453535220 tw7244215221919184512 tw7746276003051830402 tw3437529900067294598 tw2152634711560646969 tw97207588135408067 tw10443240113126221436 tw8180494977418920129 tw12950454870980729384 tw9135456232850782657 tw3525805141258229535 tw11980234549602539046 tw17953686470979033554 tw6206357663614247177 tw5554741306385159472 tw10690958980571708087 tw10878916343125859992 tw14457811055301418456 tw7427819386978325854 tw14396329729323999402 tw301083842007113090 tw1683463880259233051 tw9835004732105065019 tw12335683704423958286 tw1979589851484462109 tw8655467435512474908 tw5468025816212814959 tw404784698052923325 tw8356394667551233940 tw14005034408860440850 tw7499447700030472558 tw1895410285339326070 tw14426961992726901016 tw5999985145057924089 tw519215248871469499 tw4214959312609855808 tw6506417450057665703 tw2023949063805081072 tw10242262295445023067 tw2051775902661246711 tw16942413373237457129 tw5805909959890930019 tw14139871519728141855 tw17574113194959265081 tw15515717646448638187 tw406947245449744256 tw14757078608795590929 tw3920759774537009674 tw5629605892156297996 tw10675424940340609024 tw582618566260639423 tw13012548286698402607 tw2705765871111417491 tw2436674745906132173 tw1662474396694060779 tw1765417052501681769 tw1610287400849972741 tw3594947889262141504 tw1594697360685263613 tw12540860471069821859 tw18038193837533398526 tw7259990296146830892 tw7127127519859449754 tw8221249347736936881 tw12556436190122301708 tw12851731991276395184 tw17004634769016229286 tw6825957508719308750 tw13400255006508440040 tw11093630903999280679 tw18294781151929456368 tw7990402886956703384 tw1839575183825640187 tw11050526827547966730 tw3769979569977430308 tw496568510143528839 tw1062875769241193279 tw10068327418344015072 tw17658374203468225663 tw1781072454128330452 tw1900574081869784301 tw2440203074284168623 tw6693772675393172486 tw11116699615286950251 tw1295000680364138166 tw4255615025249603090 tw13690042935769309599 tw15970051403633289665 tw15758386286355285523 tw12534119800680057345 tw13860838830904979565 tw10496206004212437480 tw17897937273177654768 tw520575106004531504 tw7985087861097615692 tw1437674683421878260 tw13373390127570864919 tw1698455944914062298 tw6507615331061051513 tw7583953448716824529 tw3603916689432331013 tw5294017115007438031 tw2373763789291902247 tw11587033797796219733 tw518959126052561371 tw4907393611909001593 tw11944765639847351042 tw15162527886847979556 tw17487002887736463483 tw5247196757094935720 tw3220100004446334966 tw12248967247816420420 tw3010385621062442447 tw14482878806535469812 tw13363478603683092540 tw3889198441204914553 tw2584975839379995872 tw3504937023690949842 tw17883849730459652245 tw13595346103919987642:True)
open PySem PySem.W PyProof.Rows
set_option maxRecDepth 100000 in
set_option maxHeartbeats 0 in
theorem PySem.Challenge.cw_beltshares_k39_whole_even_or_a_fault_holds : PySem.Challenge.rw_beltshares_k39_whole_even_or_a_fault.Holds := by
 w_on;o_law;k_head;(case hw=>w_witness2)
 k_fill
 refine K39.walk (l:=PySem.Challenge.rw_beltshares_k39_whole_even_or_a_fault) rfl rfl (λ w h Y=>PySem.W.kIn_of Y) ?F
 case F =>
  intro w mg fa h KX G hmg;refine' K39.all_ok KX G hmg ?a ?l ?c ?k (K39.Txt.mk ..)
  all_goals try dsimp only
  all_goals try first|k_is|((first|refine' L2.fa_mk KX G .. | refine' L2.fm_mk .. | refine' L2.fk_mk .. | refine' L2.fb_mk (mg_of KX G ?_) .. | refine' K39.fd_z KX G ..);all_goals try first|k_is|exact λ _ _ _ _ _ _=>K39.allV_of (by (repeat intro _);rfl)|exact λ _ hK lt=>by repeat first|exact PySem.W.binds_K hK rfl lt rfl rfl rfl|intro _)|((first|refine' PySem.W.mg_none_of KX G ?_|refine' mg_of KX G ?_|show findIn _ _ _=_|refine' L2.kitCls_of .. | (apply Exists.intro;refine' mg_of KX G ?_));all_goals try k_is)|(show kitOne _ _ _=_;kit_is)|kit_is|((first|refine ⟨?_,?_,?_,?_,?_,?_,?_,?_⟩|refine ⟨?_,?_,?_,?_⟩|refine ⟨?_,?_,?_⟩|refine ⟨?_⟩);all_goals first|k_is|k_exc)
  all_goals exact fa
